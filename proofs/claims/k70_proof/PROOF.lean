import PyProof.Rows.All
import Wide.All
import OpenK.AllK
import Wide.FinOn
import Lean
import PyProof.EqAt
import PyProof.EqKinds
import PyProof.TupleCall
import PySem.Challenge.RW_logloom_k70_bits_put_and_taken
set_option Elab.async false
set_option linter.all false
set_option maxRecDepth 100000
/-! the run of the top over a tree of objects, by the library's faster forms, in one kernel run -/
namespace HT
open PySem PySem.W
abbrev annR : Option Value := some (.ref 6)
noncomputable abbrev okQ : Thread → Bool := Fast.tw6613529449190102663 11 annR
noncomputable abbrev stQ (p : Program) (w : World) : SharedT → Thread → Option (SharedT × Thread) :=
  Fast.tw10156331382660048174 (Fast.tw11892475500146522536 Fast.tw14364793385576792824) p w
noncomputable def runQ (p : Program) (w : World) : Nat → SharedT → Thread → Option SharedT
  | 0, _, _ => none
  | fuel + 1, a, th => @Bool.rec (fun _ => Option SharedT)
      (@Bool.rec (fun _ => Option SharedT) none (@Option.rec (SharedT × Thread) (fun _ => Option SharedT) none (fun r => runQ p w fuel r.1 r.2) (stQ p w a th)) (okQ th))
      (some a) (through th)
theorem okQ_is (th : Thread) : okQ th = stepOk 11 annR th := by
  show Fast.tw6613529449190102663 11 annR th = _
  rw [← Fast.te6613529449190102663]
theorem stQ_is (p : Program) (w : World) (a : SharedT) (th : Thread) : stQ p w a th = stepT (denote treeTable) p w a th := by
  show Fast.tw10156331382660048174 (Fast.tw11892475500146522536 Fast.tw14364793385576792824) p w a th = _
  rw [← Fast.te10156331382660048174, ← Fast.te11892475500146522536, ← Fast.te14364793385576792824]
theorem runQ_top {p : Program} {w : World} : ∀ (fuel : Nat) (a b : SharedT) (th : Thread),
    runQ p w fuel a th = some b → topRun treeTable p w 11 annR fuel a.abs th = some b.abs
  | 0, _, _, _, e => by cases e
  | fuel + 1, a, b, th, e => by
    unfold runQ at e
    unfold topRun
    rw [okQ_is, stQ_is] at e
    cases e1 : through th
    · rw [e1] at e
      cases e2 : stepOk 11 annR th
      · rw [e2] at e; cases e
      · rw [e2] at e
        cases e3 : stepT (denote treeTable) p w a th with
        | none => rw [e3] at e; cases e
        | some r =>
          rw [e3] at e
          have e4 := stepT_spec (s' := r.1) (t' := r.2) e3
          rw [e4]
          exact runQ_top fuel r.1 b r.2 e
    · rw [e1] at e
      have : a = b := Option.some.inj e
      rw [this]
noncomputable def bT (P : Params) : BT :=
  .node (boot_o_0 P)
    (.node (boot_o_1 P) (.node (boot_o_3 P) (.node (boot_o_7 P) .nil .nil) .nil) (.node (boot_o_5 P) (.node (boot_o_9 P) .nil .nil) .nil))
    (.node (boot_o_2 P) (.node (boot_o_4 P) (.node (boot_o_8 P) .nil .nil) .nil) (.node (boot_o_6 P) (.node (boot_o_10 P) .nil .nil) .nil))
theorem bT_boot : ∀ P, boot_heap P = absHeap (bT P) 11 {} := fun P => by kernel_rfl
noncomputable abbrev at0 (w : World) (os : OsState) : SharedT := ⟨bT w.params, 11, {}, Array.mk [], boot_drawn, boot_toks, os⟩
theorem at0_abs (w : World) (os : OsState) : (at0 w os).abs = ⟨boot_heap w.params, Array.mk [], boot_drawn, boot_toks, os⟩ := by
  rw [bT_boot]; rfl
theorem boot_looks : ∀ P : Params, (((boot_heap P).isNs mainGlobals && (#[] : Array GenState).size == 0) = true ∧ (boot_heap P).objs.size = 11) ∧
    (boot_heap P).nsMap mainGlobals "__annotations__" = annR := fun P => ⟨⟨by kernel_rfl, by kernel_rfl⟩, by kernel_rfl⟩
/-- what is looked at behind the top, ahead of the views -/
noncomputable abbrev kept (p : Program) (P : Params) (b : Shared) : Bool :=
  staticsOk (importedModules p.main.body) (boot_heap P) b.heap && namesBound p b.heap && gensDone b && laidKept (boot_heap P) b.heap
/-- the head out of one kernel run -/
theorem left1 {p q : Program} {loose : List Str} {Xt : Shared → Bool} {α : Type} {Yf : Shared → α} {Ya : World → α} {N : Nat} {g0 : Bool}
    (e : opening p = plainProg p.main.scope.names) (hN : Nat.ble 600 N = true) (f : ∀ s, fenceModules? p s = some s)
    (run : ∀ (w : World) (os : OsState), (runQ p w N (at0 w os) (topStub p)).map (fun b =>
      (kept p w.params b.abs, Fast.tw4187177175401517315 q loose (importedModules p.main.body) Xt g0 b.abs, Yf b.abs)) = some (true, openGood q loose, Ya w)) :
    LeftO p q loose Xt Yf Ya N g0 := by
  intro w
  obtain ⟨⟨hp, gs, d, k, os⟩, o1, o2⟩ := Option.map_eq_some_iff.mp (boot_open e hN f w)
  obtain ⟨rfl, rfl, rfl, rfl⟩ : hp = boot_heap w.params ∧ gs = Array.mk [] ∧ d = boot_drawn ∧ k = boot_toks := by
    simpa using o2
  obtain ⟨⟨z1, z2⟩, z3⟩ := boot_looks w.params
  have r := run w os
  rw [← Fast.te4187177175401517315] at r
  obtain ⟨b, r1, r2⟩ := Option.map_eq_some_iff.mp r
  rw [Prod.mk.injEq, Prod.mk.injEq] at r2
  have r3 := runQ_top N _ b _ r1
  rw [at0_abs] at r3
  have r4 : topFrom treeTable p w N ⟨boot_heap w.params, Array.mk [], boot_drawn, boot_toks, os⟩ = some b.abs := by
    have k1 : kept p w.params b.abs = true := r2.1
    unfold kept at k1
    unfold topFrom
    simp only [z1, z2, z3, r3, Option.bind_some, k1]
  have r5 : openEnds treeTable p w N = some b.abs := by
    unfold openEnds
    simp only [o1, Option.bind_some, r4]
  rw [r5]
  exact congrArg some (by rw [← r2.2.1, ← r2.2.2])
end HT
namespace L2
open PySem
def inClass (s : Stmt) (j : Nat) : Stmt := match s with
  | .ClassDef _ _ _ body _ _ _ _ _ _ _ => body.getD j (.Pass ⟨0, 0, 0, 0⟩)
  | _ => .Pass ⟨0, 0, 0, 0⟩
def defArgs (s : Stmt) : Arguments := match s with
  | .FunctionDef _ a _ _ _ _ _ _ _ _ => a
  | _ => { posonlyargs := [], args := [], vararg := none, kwonlyargs := [], kw_defaults := [], kwarg := none, defaults := [] }
def defBody (s : Stmt) : List Stmt := match s with
  | .FunctionDef _ _ b _ _ _ _ _ _ _ => b
  | _ => []
def defScope (s : Stmt) : Scope := match s with
  | .FunctionDef _ _ _ _ _ _ sc _ _ _ => sc
  | _ => { kind := .function, names := [], isGenerator := false, isCoroutine := false }
end L2
namespace BT
open PySem L2
def top (i : Nat) : Stmt := PySem.Challenge.pw_logloom_k70_bits_put_and_taken.main.body.getD i (.Pass ⟨0, 0, 0, 0⟩)
abbrev sNu : Stmt := top 6
abbrev sBo : Stmt := top 7
abbrev sWi : Stmt := inClass (top 8) 0
abbrev sWp : Stmt := inClass (top 8) 1
abbrev sWt : Stmt := inClass (top 8) 2
abbrev sRi : Stmt := inClass (top 9) 0
abbrev sRb : Stmt := inClass (top 9) 1
abbrev sRl : Stmt := inClass (top 9) 2
abbrev sPu : Stmt := top 11
abbrev sEi : Stmt := top 12
abbrev sAl : Stmt := top 13
abbrev sNb : Stmt := top 14
abbrev sTo : Stmt := top 15
abbrev sLa : Stmt := top 16
abbrev sRe : Stmt := top 17
abbrev sLaw : Stmt := top 18
end BT
namespace BT
open PySem L2
def hK : PySem.Params → PySem.W.Frag := fun P =>
  (nat_lit 2, ({ cls := Value.none, data := Data.dict #[] } : Obj)) ::
  (nat_lit 3, ({ cls := Value.type "dict", data := Data.dict #[{ hash := PyData.keyHash P (Str.ofString "__name__"), key := Value.str (Str.ofString "__name__") 165, val := Value.str (Str.ofString "law_logloom_k70_bits_put_and_taken") 353 }, { hash := PyData.keyHash P (Str.ofString "__doc__"), key := Value.str (Str.ofString "__doc__") 166, val := Value.none }, { hash := PyData.keyHash P (Str.ofString "__package__"), key := Value.str (Str.ofString "__package__") 167, val := Value.none }, { hash := PyData.keyHash P (Str.ofString "__loader__"), key := Value.str (Str.ofString "__loader__") 168, val := Value.builtin "__main__.__loader__#opaque" }, { hash := PyData.keyHash P (Str.ofString "__spec__"), key := Value.str (Str.ofString "__spec__") 169, val := Value.none }, { hash := PyData.keyHash P (Str.ofString "__annotations__"), key := Value.str (Str.ofString "__annotations__") 170, val := Value.ref 6 }, { hash := PyData.keyHash P (Str.ofString "__builtins__"), key := Value.str (Str.ofString "__builtins__") 171, val := Value.ref 4 }, { hash := PyData.keyHash P (Str.ofString "__file__"), key := Value.str (Str.ofString "__file__") 173, val := Value.str (Str.ofString "/claim/cut.py") 172 }, { hash := PyData.keyHash P (Str.ofString "__cached__"), key := Value.str (Str.ofString "__cached__") 174, val := Value.none }, { hash := PyData.keyHash P (Str.ofString "LoomError"), key := Value.str (Str.ofString "LoomError") 206, val := Value.ref 24 }, { hash := PyData.keyHash P (Str.ofString "Unknown"), key := Value.str (Str.ofString "Unknown") 231, val := Value.ref 44 }, { hash := PyData.keyHash P (Str.ofString "Spoiled"), key := Value.str (Str.ofString "Spoiled") 247, val := Value.ref 56 }, { hash := PyData.keyHash P (Str.ofString "WIDE"), key := Value.str (Str.ofString "WIDE") 251, val := Value.int 8 250 }, { hash := PyData.keyHash P (Str.ofString "number_of"), key := Value.str (Str.ofString "number_of") 260, val := Value.ref 65 }, { hash := PyData.keyHash P (Str.ofString "bits_of"), key := Value.str (Str.ofString "bits_of") 266, val := Value.ref 70 }, { hash := PyData.keyHash P (Str.ofString "Writer"), key := Value.str (Str.ofString "Writer") 309, val := Value.ref 99 }, { hash := PyData.keyHash P (Str.ofString "Reader"), key := Value.str (Str.ofString "Reader") 352, val := Value.ref 132 }, { hash := PyData.keyHash P (Str.ofString "_law_put"), key := Value.str (Str.ofString "_law_put") 360, val := Value.ref 141 }, { hash := PyData.keyHash P (Str.ofString "_law_eighths"), key := Value.str (Str.ofString "_law_eighths") 371, val := Value.ref 148 }, { hash := PyData.keyHash P (Str.ofString "_law_alike"), key := Value.str (Str.ofString "_law_alike") 377, val := Value.ref 153 }, { hash := PyData.keyHash P (Str.ofString "_law_number"), key := Value.str (Str.ofString "_law_number") 386, val := Value.ref 160 }, { hash := PyData.keyHash P (Str.ofString "_law_told"), key := Value.str (Str.ofString "_law_told") 398, val := Value.ref 167 }, { hash := PyData.keyHash P (Str.ofString "_law_lacking"), key := Value.str (Str.ofString "_law_lacking") 409, val := Value.ref 174 }, { hash := PyData.keyHash P (Str.ofString "_law_read"), key := Value.str (Str.ofString "_law_read") 423, val := Value.ref 181 }, { hash := PyData.keyHash P (Str.ofString "law"), key := Value.str (Str.ofString "law") 429, val := Value.ref 186 }] 25 } : Obj)) ::
  (nat_lit 15, ({ cls := Value.type "tuple", data := Data.seq #[Value.type "ValueError"] } : Obj)) ::
  (nat_lit 22, ({ cls := Value.type "tuple", data := Data.seq #[] } : Obj)) ::
  (nat_lit 23, ({ cls := Value.type "dict", data := Data.dict #[{ hash := PyData.keyHash P (Str.ofString "__module__"), key := Value.str (Str.ofString "__module__") 196, val := Value.str (Str.ofString "logloom.errors") 187 }, { hash := PyData.keyHash P (Str.ofString "__firstlineno__"), key := Value.str (Str.ofString "__firstlineno__") 200, val := Value.int 2 199 }, { hash := PyData.keyHash P (Str.ofString "__static_attributes__"), key := Value.str (Str.ofString "__static_attributes__") 201, val := Value.ref 22 }, { hash := PyData.keyHash P (Str.ofString "__weakref__"), key := Value.str (Str.ofString "__weakref__") 203, val := Value.ref 25 }, { hash := PyData.keyHash P (Str.ofString "__doc__"), key := Value.str (Str.ofString "__doc__") 204, val := Value.none }] 3 } : Obj)) ::
  (nat_lit 24, ({ cls := Value.type "type", data := Data.cls { name := Str.ofString "LoomError", bases := [Value.type "ValueError"], mro := [Value.ref 24, Value.type "ValueError", Value.type "Exception", Value.type "BaseException", Value.type "object"], ns := 23, qualname := Str.ofString "LoomError", subclasses := [Value.ref 44, Value.ref 56] }, slots := #[some (Value.ref 15), none, some (Value.str (Str.ofString "LoomError") 189), some (Value.str (Str.ofString "LoomError") 197), some (Value.builtin "ValueError.__new__"), some (Value.bool true)] } : Obj)) ::
  (nat_lit 25, ({ cls := Value.type "getset_descriptor", data := Data.fields #[Value.str (Str.ofString "__weakref__") 202, Value.ref 24, Value.builtin "ExceptionGroup.__weakref__", Value.none] } : Obj)) ::
  (nat_lit 28, ({ cls := Value.type "tuple", data := Data.seq #[Value.ref 24] } : Obj)) ::
  (nat_lit 35, ({ cls := Value.type "tuple", data := Data.seq #[] } : Obj)) ::
  (nat_lit 37, ({ cls := Value.type "tuple", data := Data.seq #[Value.str (Str.ofString "self") 222, Value.str (Str.ofString "number") 223] } : Obj)) ::
  (nat_lit 38, ({ cls := Value.type "tuple", data := Data.seq #[] } : Obj)) ::
  (nat_lit 40, ({ cls := Value.type "code", data := Data.fields #[Value.str (Str.ofString "__init__") 219, Value.str (Str.ofString "Unknown.__init__") 220, Value.str (Str.ofString "/claim/cut.py") 221, Value.int 6 0, Value.int 2 0, Value.int 0 0, Value.int 0 0, Value.int 3 0, Value.ref 35, Value.bool true, Value.int 181 0, Value.ref 36, Value.none, Value.ref 37, Value.ref 38, Value.ref 39, Value.int 224 0, Value.int 6 0, Value.str (Str.ofString "/claim/cut.py") 225] } : Obj)) ::
  (nat_lit 41, (⟨(Value.type "function"), (none), .func (PySem.W.fnOf (Str.ofString "__init__") (Str.ofString "Unknown.__init__") (defArgs (inClass (top 2) 0)) (defBody (inClass (top 2) 0)) (defScope (inClass (top 2) 0)) (Value.none) (Value.none) (Value.none) (Value.str (Str.ofString "logloom.errors") 187) (none) (Value.ref 40) (Value.none)), (#[])⟩ : Obj)) ::
  (nat_lit 42, ({ cls := Value.type "tuple", data := Data.seq #[Value.str (Str.ofString "number") 227] } : Obj)) ::
  (nat_lit 43, ({ cls := Value.type "dict", data := Data.dict #[{ hash := PyData.keyHash P (Str.ofString "__module__"), key := Value.str (Str.ofString "__module__") 214, val := Value.str (Str.ofString "logloom.errors") 187 }, { hash := PyData.keyHash P (Str.ofString "__firstlineno__"), key := Value.str (Str.ofString "__firstlineno__") 218, val := Value.int 4 217 }, { hash := PyData.keyHash P (Str.ofString "__init__"), key := Value.str (Str.ofString "__init__") 226, val := Value.ref 41 }, { hash := PyData.keyHash P (Str.ofString "__static_attributes__"), key := Value.str (Str.ofString "__static_attributes__") 228, val := Value.ref 42 }, { hash := PyData.keyHash P (Str.ofString "__doc__"), key := Value.str (Str.ofString "__doc__") 229, val := Value.none }] 2 } : Obj)) ::
  (nat_lit 44, ({ cls := Value.type "type", data := Data.cls { name := Str.ofString "Unknown", bases := [Value.ref 24], mro := [Value.ref 44, Value.ref 24, Value.type "ValueError", Value.type "Exception", Value.type "BaseException", Value.type "object"], ns := 43, qualname := Str.ofString "Unknown" }, slots := #[some (Value.ref 28), none, some (Value.str (Str.ofString "Unknown") 207), some (Value.str (Str.ofString "Unknown") 215), some (Value.builtin "ValueError.__new__"), some (Value.bool true)] } : Obj)) ::
  (nat_lit 47, ({ cls := Value.type "tuple", data := Data.seq #[Value.ref 24] } : Obj)) ::
  (nat_lit 54, ({ cls := Value.type "tuple", data := Data.seq #[] } : Obj)) ::
  (nat_lit 55, ({ cls := Value.type "dict", data := Data.dict #[{ hash := PyData.keyHash P (Str.ofString "__module__"), key := Value.str (Str.ofString "__module__") 239, val := Value.str (Str.ofString "logloom.errors") 187 }, { hash := PyData.keyHash P (Str.ofString "__firstlineno__"), key := Value.str (Str.ofString "__firstlineno__") 243, val := Value.int 8 242 }, { hash := PyData.keyHash P (Str.ofString "__static_attributes__"), key := Value.str (Str.ofString "__static_attributes__") 244, val := Value.ref 54 }, { hash := PyData.keyHash P (Str.ofString "__doc__"), key := Value.str (Str.ofString "__doc__") 245, val := Value.none }] 2 } : Obj)) ::
  (nat_lit 56, ({ cls := Value.type "type", data := Data.cls { name := Str.ofString "Spoiled", bases := [Value.ref 24], mro := [Value.ref 56, Value.ref 24, Value.type "ValueError", Value.type "Exception", Value.type "BaseException", Value.type "object"], ns := 55, qualname := Str.ofString "Spoiled" }, slots := #[some (Value.ref 47), none, some (Value.str (Str.ofString "Spoiled") 232), some (Value.str (Str.ofString "Spoiled") 240), some (Value.builtin "ValueError.__new__"), some (Value.bool true)] } : Obj)) ::
  (nat_lit 59, ({ cls := Value.type "tuple", data := Data.seq #[] } : Obj)) ::
  (nat_lit 61, ({ cls := Value.type "tuple", data := Data.seq #[Value.str (Str.ofString "bits") 255, Value.str (Str.ofString "number") 256, Value.str (Str.ofString "bit") 257] } : Obj)) ::
  (nat_lit 62, ({ cls := Value.type "tuple", data := Data.seq #[] } : Obj)) ::
  (nat_lit 64, ({ cls := Value.type "code", data := Data.fields #[Value.str (Str.ofString "number_of") 252, Value.str (Str.ofString "number_of") 253, Value.str (Str.ofString "/claim/cut.py") 254, Value.int 12 0, Value.int 1 0, Value.int 0 0, Value.int 0 0, Value.int 3 0, Value.ref 59, Value.bool true, Value.int 181 0, Value.ref 60, Value.none, Value.ref 61, Value.ref 62, Value.ref 63, Value.int 258 0, Value.int 12 0, Value.str (Str.ofString "/claim/cut.py") 259] } : Obj)) ::
  (nat_lit 65, (⟨(Value.type "function"), (none), .func (PySem.W.fnOf (Str.ofString "number_of") (Str.ofString "number_of") (defArgs (top 6)) (defBody (top 6)) (defScope (top 6)) (Value.none) (Value.none) (Value.none) (Value.str (Str.ofString "logloom.bits") 248) (none) (Value.ref 64) (Value.none)), (#[])⟩ : Obj)) ::
  (nat_lit 66, ({ cls := Value.type "tuple", data := Data.seq #[] } : Obj)) ::
  (nat_lit 69, ({ cls := Value.type "code", data := Data.fields #[Value.str (Str.ofString "bits_of") 261, Value.str (Str.ofString "bits_of") 262, Value.str (Str.ofString "/claim/cut.py") 263, Value.int 17 0, Value.int 2 0, Value.int 0 0, Value.int 0 0, Value.int 3 0, Value.ref 66, Value.bool true, Value.int 181 0, Value.ref 67, Value.none, Value.none, Value.none, Value.ref 68, Value.int 264 0, Value.int 17 0, Value.str (Str.ofString "/claim/cut.py") 265] } : Obj)) ::
  (nat_lit 70, (⟨(Value.type "function"), (none), .func (PySem.W.fnOf (Str.ofString "bits_of") (Str.ofString "bits_of") (defArgs (top 7)) (defBody (top 7)) (defScope (top 7)) (Value.none) (Value.none) (Value.none) (Value.str (Str.ofString "logloom.bits") 248) (none) (Value.ref 69) (Value.none)), (#[])⟩ : Obj)) ::
  (nat_lit 78, ({ cls := Value.type "tuple", data := Data.seq #[] } : Obj)) ::
  (nat_lit 80, ({ cls := Value.type "tuple", data := Data.seq #[Value.str (Str.ofString "self") 282] } : Obj)) ::
  (nat_lit 81, ({ cls := Value.type "tuple", data := Data.seq #[] } : Obj)) ::
  (nat_lit 83, ({ cls := Value.type "code", data := Data.fields #[Value.str (Str.ofString "__init__") 279, Value.str (Str.ofString "Writer.__init__") 280, Value.str (Str.ofString "/claim/cut.py") 281, Value.int 21 0, Value.int 1 0, Value.int 0 0, Value.int 0 0, Value.int 3 0, Value.ref 78, Value.bool true, Value.int 181 0, Value.ref 79, Value.none, Value.ref 80, Value.ref 81, Value.ref 82, Value.int 283 0, Value.int 21 0, Value.str (Str.ofString "/claim/cut.py") 284] } : Obj)) ::
  (nat_lit 84, (⟨(Value.type "function"), (none), .func (PySem.W.fnOf (Str.ofString "__init__") (Str.ofString "Writer.__init__") (defArgs (inClass (top 8) 0)) (defBody (inClass (top 8) 0)) (defScope (inClass (top 8) 0)) (Value.none) (Value.none) (Value.none) (Value.str (Str.ofString "logloom.bits") 248) (none) (Value.ref 83) (Value.none)), (#[])⟩ : Obj)) ::
  (nat_lit 85, ({ cls := Value.type "tuple", data := Data.seq #[] } : Obj)) ::
  (nat_lit 87, ({ cls := Value.type "tuple", data := Data.seq #[Value.str (Str.ofString "self") 289, Value.str (Str.ofString "number") 290, Value.str (Str.ofString "wide") 291] } : Obj)) ::
  (nat_lit 88, ({ cls := Value.type "tuple", data := Data.seq #[] } : Obj)) ::
  (nat_lit 90, ({ cls := Value.type "code", data := Data.fields #[Value.str (Str.ofString "put") 286, Value.str (Str.ofString "Writer.put") 287, Value.str (Str.ofString "/claim/cut.py") 288, Value.int 24 0, Value.int 3 0, Value.int 0 0, Value.int 0 0, Value.int 3 0, Value.ref 85, Value.bool true, Value.int 181 0, Value.ref 86, Value.none, Value.ref 87, Value.ref 88, Value.ref 89, Value.int 292 0, Value.int 24 0, Value.str (Str.ofString "/claim/cut.py") 293] } : Obj)) ::
  (nat_lit 91, (⟨(Value.type "function"), (none), .func (PySem.W.fnOf (Str.ofString "put") (Str.ofString "Writer.put") (defArgs (inClass (top 8) 1)) (defBody (inClass (top 8) 1)) (defScope (inClass (top 8) 1)) (Value.none) (Value.none) (Value.none) (Value.str (Str.ofString "logloom.bits") 248) (none) (Value.ref 90) (Value.none)), (#[])⟩ : Obj)) ::
  (nat_lit 92, ({ cls := Value.type "tuple", data := Data.seq #[] } : Obj)) ::
  (nat_lit 95, ({ cls := Value.type "code", data := Data.fields #[Value.str (Str.ofString "told") 295, Value.str (Str.ofString "Writer.told") 296, Value.str (Str.ofString "/claim/cut.py") 297, Value.int 27 0, Value.int 1 0, Value.int 0 0, Value.int 0 0, Value.int 3 0, Value.ref 92, Value.bool true, Value.int 181 0, Value.ref 93, Value.none, Value.none, Value.none, Value.ref 94, Value.int 298 0, Value.int 27 0, Value.str (Str.ofString "/claim/cut.py") 299] } : Obj)) ::
  (nat_lit 96, (⟨(Value.type "function"), (none), .func (PySem.W.fnOf (Str.ofString "told") (Str.ofString "Writer.told") (defArgs (inClass (top 8) 2)) (defBody (inClass (top 8) 2)) (defScope (inClass (top 8) 2)) (Value.none) (Value.none) (Value.none) (Value.str (Str.ofString "logloom.bits") 248) (none) (Value.ref 95) (Value.none)), (#[])⟩ : Obj)) ::
  (nat_lit 97, ({ cls := Value.type "tuple", data := Data.seq #[Value.str (Str.ofString "laid") 301] } : Obj)) ::
  (nat_lit 98, ({ cls := Value.type "dict", data := Data.dict #[{ hash := PyData.keyHash P (Str.ofString "__module__"), key := Value.str (Str.ofString "__module__") 274, val := Value.str (Str.ofString "logloom.bits") 248 }, { hash := PyData.keyHash P (Str.ofString "__firstlineno__"), key := Value.str (Str.ofString "__firstlineno__") 278, val := Value.int 19 277 }, { hash := PyData.keyHash P (Str.ofString "__init__"), key := Value.str (Str.ofString "__init__") 285, val := Value.ref 84 }, { hash := PyData.keyHash P (Str.ofString "put"), key := Value.str (Str.ofString "put") 294, val := Value.ref 91 }, { hash := PyData.keyHash P (Str.ofString "told"), key := Value.str (Str.ofString "told") 300, val := Value.ref 96 }, { hash := PyData.keyHash P (Str.ofString "__static_attributes__"), key := Value.str (Str.ofString "__static_attributes__") 302, val := Value.ref 97 }, { hash := PyData.keyHash P (Str.ofString "__dict__"), key := Value.str (Str.ofString "__dict__") 304, val := Value.ref 100 }, { hash := PyData.keyHash P (Str.ofString "__weakref__"), key := Value.str (Str.ofString "__weakref__") 306, val := Value.ref 101 }, { hash := PyData.keyHash P (Str.ofString "__doc__"), key := Value.str (Str.ofString "__doc__") 307, val := Value.none }] 4 } : Obj)) ::
  (nat_lit 99, ({ cls := Value.type "type", data := Data.cls { name := Str.ofString "Writer", bases := [Value.type "object"], mro := [Value.ref 99, Value.type "object"], ns := 98, qualname := Str.ofString "Writer" }, slots := #[none, none, some (Value.str (Str.ofString "Writer") 267), some (Value.str (Str.ofString "Writer") 275), some (Value.builtin "object.__new__"), some (Value.bool true)] } : Obj)) ::
  (nat_lit 100, ({ cls := Value.type "getset_descriptor", data := Data.fields #[Value.str (Str.ofString "__dict__") 303, Value.ref 99, Value.builtin "function.__dict__", Value.builtin "function.__dict__#set"] } : Obj)) ::
  (nat_lit 101, ({ cls := Value.type "getset_descriptor", data := Data.fields #[Value.str (Str.ofString "__weakref__") 305, Value.ref 99, Value.builtin "ExceptionGroup.__weakref__", Value.none] } : Obj)) ::
  (nat_lit 111, ({ cls := Value.type "tuple", data := Data.seq #[] } : Obj)) ::
  (nat_lit 113, ({ cls := Value.type "tuple", data := Data.seq #[Value.str (Str.ofString "self") 325, Value.str (Str.ofString "numbers") 326] } : Obj)) ::
  (nat_lit 114, ({ cls := Value.type "tuple", data := Data.seq #[] } : Obj)) ::
  (nat_lit 116, ({ cls := Value.type "code", data := Data.fields #[Value.str (Str.ofString "__init__") 322, Value.str (Str.ofString "Reader.__init__") 323, Value.str (Str.ofString "/claim/cut.py") 324, Value.int 32 0, Value.int 2 0, Value.int 0 0, Value.int 0 0, Value.int 3 0, Value.ref 111, Value.bool true, Value.int 181 0, Value.ref 112, Value.none, Value.ref 113, Value.ref 114, Value.ref 115, Value.int 327 0, Value.int 32 0, Value.str (Str.ofString "/claim/cut.py") 328] } : Obj)) ::
  (nat_lit 117, (⟨(Value.type "function"), (none), .func (PySem.W.fnOf (Str.ofString "__init__") (Str.ofString "Reader.__init__") (defArgs (inClass (top 9) 0)) (defBody (inClass (top 9) 0)) (defScope (inClass (top 9) 0)) (Value.none) (Value.none) (Value.none) (Value.str (Str.ofString "logloom.bits") 248) (none) (Value.ref 116) (Value.none)), (#[])⟩ : Obj)) ::
  (nat_lit 118, ({ cls := Value.type "tuple", data := Data.seq #[] } : Obj)) ::
  (nat_lit 121, ({ cls := Value.type "code", data := Data.fields #[Value.str (Str.ofString "bits") 330, Value.str (Str.ofString "Reader.bits") 331, Value.str (Str.ofString "/claim/cut.py") 332, Value.int 36 0, Value.int 2 0, Value.int 0 0, Value.int 0 0, Value.int 3 0, Value.ref 118, Value.bool true, Value.int 181 0, Value.ref 119, Value.none, Value.none, Value.none, Value.ref 120, Value.int 333 0, Value.int 36 0, Value.str (Str.ofString "/claim/cut.py") 334] } : Obj)) ::
  (nat_lit 122, (⟨(Value.type "function"), (none), .func (PySem.W.fnOf (Str.ofString "bits") (Str.ofString "Reader.bits") (defArgs (inClass (top 9) 1)) (defBody (inClass (top 9) 1)) (defScope (inClass (top 9) 1)) (Value.none) (Value.none) (Value.none) (Value.str (Str.ofString "logloom.bits") 248) (none) (Value.ref 121) (Value.none)), (#[])⟩ : Obj)) ::
  (nat_lit 123, ({ cls := Value.type "tuple", data := Data.seq #[] } : Obj)) ::
  (nat_lit 125, ({ cls := Value.type "tuple", data := Data.seq #[Value.str (Str.ofString "self") 339] } : Obj)) ::
  (nat_lit 126, ({ cls := Value.type "tuple", data := Data.seq #[] } : Obj)) ::
  (nat_lit 128, ({ cls := Value.type "code", data := Data.fields #[Value.str (Str.ofString "left") 336, Value.str (Str.ofString "Reader.left") 337, Value.str (Str.ofString "/claim/cut.py") 338, Value.int 43 0, Value.int 1 0, Value.int 0 0, Value.int 0 0, Value.int 3 0, Value.ref 123, Value.bool true, Value.int 181 0, Value.ref 124, Value.none, Value.ref 125, Value.ref 126, Value.ref 127, Value.int 340 0, Value.int 43 0, Value.str (Str.ofString "/claim/cut.py") 341] } : Obj)) ::
  (nat_lit 129, (⟨(Value.type "function"), (none), .func (PySem.W.fnOf (Str.ofString "left") (Str.ofString "Reader.left") (defArgs (inClass (top 9) 2)) (defBody (inClass (top 9) 2)) (defScope (inClass (top 9) 2)) (Value.none) (Value.none) (Value.none) (Value.str (Str.ofString "logloom.bits") 248) (none) (Value.ref 128) (Value.none)), (#[])⟩ : Obj)) ::
  (nat_lit 130, ({ cls := Value.type "tuple", data := Data.seq #[Value.str (Str.ofString "numbers") 343, Value.str (Str.ofString "taken") 344] } : Obj)) ::
  (nat_lit 131, ({ cls := Value.type "dict", data := Data.dict #[{ hash := PyData.keyHash P (Str.ofString "__module__"), key := Value.str (Str.ofString "__module__") 317, val := Value.str (Str.ofString "logloom.bits") 248 }, { hash := PyData.keyHash P (Str.ofString "__firstlineno__"), key := Value.str (Str.ofString "__firstlineno__") 321, val := Value.int 30 320 }, { hash := PyData.keyHash P (Str.ofString "__init__"), key := Value.str (Str.ofString "__init__") 329, val := Value.ref 117 }, { hash := PyData.keyHash P (Str.ofString "bits"), key := Value.str (Str.ofString "bits") 335, val := Value.ref 122 }, { hash := PyData.keyHash P (Str.ofString "left"), key := Value.str (Str.ofString "left") 342, val := Value.ref 129 }, { hash := PyData.keyHash P (Str.ofString "__static_attributes__"), key := Value.str (Str.ofString "__static_attributes__") 345, val := Value.ref 130 }, { hash := PyData.keyHash P (Str.ofString "__dict__"), key := Value.str (Str.ofString "__dict__") 347, val := Value.ref 133 }, { hash := PyData.keyHash P (Str.ofString "__weakref__"), key := Value.str (Str.ofString "__weakref__") 349, val := Value.ref 134 }, { hash := PyData.keyHash P (Str.ofString "__doc__"), key := Value.str (Str.ofString "__doc__") 350, val := Value.none }] 4 } : Obj)) ::
  (nat_lit 132, ({ cls := Value.type "type", data := Data.cls { name := Str.ofString "Reader", bases := [Value.type "object"], mro := [Value.ref 132, Value.type "object"], ns := 131, qualname := Str.ofString "Reader" }, slots := #[none, none, some (Value.str (Str.ofString "Reader") 310), some (Value.str (Str.ofString "Reader") 318), some (Value.builtin "object.__new__"), some (Value.bool true)] } : Obj)) ::
  (nat_lit 133, ({ cls := Value.type "getset_descriptor", data := Data.fields #[Value.str (Str.ofString "__dict__") 346, Value.ref 132, Value.builtin "function.__dict__", Value.builtin "function.__dict__#set"] } : Obj)) ::
  (nat_lit 134, ({ cls := Value.type "getset_descriptor", data := Data.fields #[Value.str (Str.ofString "__weakref__") 348, Value.ref 132, Value.builtin "ExceptionGroup.__weakref__", Value.none] } : Obj)) ::
  (nat_lit 137, ({ cls := Value.type "tuple", data := Data.seq #[] } : Obj)) ::
  (nat_lit 140, ({ cls := Value.type "code", data := Data.fields #[Value.str (Str.ofString "_law_put") 355, Value.str (Str.ofString "_law_put") 356, Value.str (Str.ofString "/claim/cut.py") 357, Value.int 46 0, Value.int 3 0, Value.int 0 0, Value.int 0 0, Value.int 3 0, Value.ref 137, Value.bool true, Value.int 181 0, Value.ref 138, Value.none, Value.none, Value.none, Value.ref 139, Value.int 358 0, Value.int 46 0, Value.str (Str.ofString "/claim/cut.py") 359] } : Obj)) ::
  (nat_lit 141, (⟨(Value.type "function"), (none), .func (PySem.W.fnOf (Str.ofString "_law_put") (Str.ofString "_law_put") (defArgs (top 11)) (defBody (top 11)) (defScope (top 11)) (Value.none) (Value.none) (Value.none) (Value.str (Str.ofString "law_logloom_k70_bits_put_and_taken") 353) (none) (Value.ref 140) (Value.none)), (#[])⟩ : Obj)) ::
  (nat_lit 142, ({ cls := Value.type "tuple", data := Data.seq #[] } : Obj)) ::
  (nat_lit 144, ({ cls := Value.type "tuple", data := Data.seq #[Value.str (Str.ofString "_law_bits") 364, Value.str (Str.ofString "_law_found") 365, Value.str (Str.ofString "_law_k") 366, Value.str (Str.ofString "_law_total") 367, Value.str (Str.ofString "_law_bit") 368] } : Obj)) ::
  (nat_lit 145, ({ cls := Value.type "tuple", data := Data.seq #[] } : Obj)) ::
  (nat_lit 147, ({ cls := Value.type "code", data := Data.fields #[Value.str (Str.ofString "_law_eighths") 361, Value.str (Str.ofString "_law_eighths") 362, Value.str (Str.ofString "/claim/cut.py") 363, Value.int 49 0, Value.int 1 0, Value.int 0 0, Value.int 0 0, Value.int 3 0, Value.ref 142, Value.bool true, Value.int 181 0, Value.ref 143, Value.none, Value.ref 144, Value.ref 145, Value.ref 146, Value.int 369 0, Value.int 49 0, Value.str (Str.ofString "/claim/cut.py") 370] } : Obj)) ::
  (nat_lit 148, (⟨(Value.type "function"), (none), .func (PySem.W.fnOf (Str.ofString "_law_eighths") (Str.ofString "_law_eighths") (defArgs (top 12)) (defBody (top 12)) (defScope (top 12)) (Value.none) (Value.none) (Value.none) (Value.str (Str.ofString "law_logloom_k70_bits_put_and_taken") 353) (none) (Value.ref 147) (Value.none)), (#[])⟩ : Obj)) ::
  (nat_lit 149, ({ cls := Value.type "tuple", data := Data.seq #[] } : Obj)) ::
  (nat_lit 152, ({ cls := Value.type "code", data := Data.fields #[Value.str (Str.ofString "_law_alike") 372, Value.str (Str.ofString "_law_alike") 373, Value.str (Str.ofString "/claim/cut.py") 374, Value.int 58 0, Value.int 2 0, Value.int 0 0, Value.int 0 0, Value.int 3 0, Value.ref 149, Value.bool true, Value.int 181 0, Value.ref 150, Value.none, Value.none, Value.none, Value.ref 151, Value.int 375 0, Value.int 58 0, Value.str (Str.ofString "/claim/cut.py") 376] } : Obj)) ::
  (nat_lit 153, (⟨(Value.type "function"), (none), .func (PySem.W.fnOf (Str.ofString "_law_alike") (Str.ofString "_law_alike") (defArgs (top 13)) (defBody (top 13)) (defScope (top 13)) (Value.none) (Value.none) (Value.none) (Value.str (Str.ofString "law_logloom_k70_bits_put_and_taken") 353) (none) (Value.ref 152) (Value.none)), (#[])⟩ : Obj)) ::
  (nat_lit 154, ({ cls := Value.type "tuple", data := Data.seq #[] } : Obj)) ::
  (nat_lit 156, ({ cls := Value.type "tuple", data := Data.seq #[Value.str (Str.ofString "_law_cell") 381, Value.str (Str.ofString "_law_wide") 382, Value.str (Str.ofString "_law_rest") 383] } : Obj)) ::
  (nat_lit 157, ({ cls := Value.type "tuple", data := Data.seq #[] } : Obj)) ::
  (nat_lit 159, ({ cls := Value.type "code", data := Data.fields #[Value.str (Str.ofString "_law_number") 378, Value.str (Str.ofString "_law_number") 379, Value.str (Str.ofString "/claim/cut.py") 380, Value.int 62 0, Value.int 1 0, Value.int 0 0, Value.int 0 0, Value.int 3 0, Value.ref 154, Value.bool true, Value.int 181 0, Value.ref 155, Value.none, Value.ref 156, Value.ref 157, Value.ref 158, Value.int 384 0, Value.int 62 0, Value.str (Str.ofString "/claim/cut.py") 385] } : Obj)) ::
  (nat_lit 160, (⟨(Value.type "function"), (none), .func (PySem.W.fnOf (Str.ofString "_law_number") (Str.ofString "_law_number") (defArgs (top 14)) (defBody (top 14)) (defScope (top 14)) (Value.none) (Value.none) (Value.none) (Value.str (Str.ofString "law_logloom_k70_bits_put_and_taken") 353) (none) (Value.ref 159) (Value.none)), (#[])⟩ : Obj)) ::
  (nat_lit 161, ({ cls := Value.type "tuple", data := Data.seq #[] } : Obj)) ::
  (nat_lit 163, ({ cls := Value.type "tuple", data := Data.seq #[Value.str (Str.ofString "_law_reader") 390, Value.str (Str.ofString "_law_wide") 391, Value.str (Str.ofString "_law_due") 392, Value.str (Str.ofString "_law_left") 393, Value.str (Str.ofString "_law_many") 394, Value.str (Str.ofString "_law_found") 395] } : Obj)) ::
  (nat_lit 164, ({ cls := Value.type "tuple", data := Data.seq #[] } : Obj)) ::
  (nat_lit 166, ({ cls := Value.type "code", data := Data.fields #[Value.str (Str.ofString "_law_told") 387, Value.str (Str.ofString "_law_told") 388, Value.str (Str.ofString "/claim/cut.py") 389, Value.int 70 0, Value.int 4 0, Value.int 0 0, Value.int 0 0, Value.int 3 0, Value.ref 161, Value.bool true, Value.int 181 0, Value.ref 162, Value.none, Value.ref 163, Value.ref 164, Value.ref 165, Value.int 396 0, Value.int 70 0, Value.str (Str.ofString "/claim/cut.py") 397] } : Obj)) ::
  (nat_lit 167, (⟨(Value.type "function"), (none), .func (PySem.W.fnOf (Str.ofString "_law_told") (Str.ofString "_law_told") (defArgs (top 15)) (defBody (top 15)) (defScope (top 15)) (Value.none) (Value.none) (Value.none) (Value.str (Str.ofString "law_logloom_k70_bits_put_and_taken") 353) (none) (Value.ref 166) (Value.none)), (#[])⟩ : Obj)) ::
  (nat_lit 168, ({ cls := Value.type "tuple", data := Data.seq #[] } : Obj)) ::
  (nat_lit 170, ({ cls := Value.type "tuple", data := Data.seq #[Value.str (Str.ofString "_law_reader") 402, Value.str (Str.ofString "_law_wide") 403, Value.str (Str.ofString "_law_left") 404, Value.str (Str.ofString "_law_refused") 405, Value.str (Str.ofString "e") 406] } : Obj)) ::
  (nat_lit 171, ({ cls := Value.type "tuple", data := Data.seq #[] } : Obj)) ::
  (nat_lit 173, ({ cls := Value.type "code", data := Data.fields #[Value.str (Str.ofString "_law_lacking") 399, Value.str (Str.ofString "_law_lacking") 400, Value.str (Str.ofString "/claim/cut.py") 401, Value.int 78 0, Value.int 2 0, Value.int 0 0, Value.int 0 0, Value.int 3 0, Value.ref 168, Value.bool true, Value.int 181 0, Value.ref 169, Value.none, Value.ref 170, Value.ref 171, Value.ref 172, Value.int 407 0, Value.int 78 0, Value.str (Str.ofString "/claim/cut.py") 408] } : Obj)) ::
  (nat_lit 174, (⟨(Value.type "function"), (none), .func (PySem.W.fnOf (Str.ofString "_law_lacking") (Str.ofString "_law_lacking") (defArgs (top 16)) (defBody (top 16)) (defScope (top 16)) (Value.none) (Value.none) (Value.none) (Value.str (Str.ofString "law_logloom_k70_bits_put_and_taken") 353) (none) (Value.ref 173) (Value.none)), (#[])⟩ : Obj)) ::
  (nat_lit 175, ({ cls := Value.type "tuple", data := Data.seq #[] } : Obj)) ::
  (nat_lit 177, ({ cls := Value.type "tuple", data := Data.seq #[Value.str (Str.ofString "_law_numbers") 413, Value.str (Str.ofString "_law_bits") 414, Value.str (Str.ofString "_law_widths") 415, Value.str (Str.ofString "_law_reader") 416, Value.str (Str.ofString "_law_at") 417, Value.str (Str.ofString "_law_wide") 418, Value.str (Str.ofString "_law_due") 419, Value.str (Str.ofString "_law_bit") 420] } : Obj)) ::
  (nat_lit 178, ({ cls := Value.type "tuple", data := Data.seq #[] } : Obj)) ::
  (nat_lit 180, ({ cls := Value.type "code", data := Data.fields #[Value.str (Str.ofString "_law_read") 410, Value.str (Str.ofString "_law_read") 411, Value.str (Str.ofString "/claim/cut.py") 412, Value.int 86 0, Value.int 3 0, Value.int 0 0, Value.int 0 0, Value.int 3 0, Value.ref 175, Value.bool true, Value.int 181 0, Value.ref 176, Value.none, Value.ref 177, Value.ref 178, Value.ref 179, Value.int 421 0, Value.int 86 0, Value.str (Str.ofString "/claim/cut.py") 422] } : Obj)) ::
  (nat_lit 181, (⟨(Value.type "function"), (none), .func (PySem.W.fnOf (Str.ofString "_law_read") (Str.ofString "_law_read") (defArgs (top 17)) (defBody (top 17)) (defScope (top 17)) (Value.none) (Value.none) (Value.none) (Value.str (Str.ofString "law_logloom_k70_bits_put_and_taken") 353) (none) (Value.ref 180) (Value.none)), (#[])⟩ : Obj)) ::
  (nat_lit 182, ({ cls := Value.type "tuple", data := Data.seq #[] } : Obj)) ::
  (nat_lit 185, ({ cls := Value.type "code", data := Data.fields #[Value.str (Str.ofString "law") 424, Value.str (Str.ofString "law") 425, Value.str (Str.ofString "/claim/cut.py") 426, Value.int 99 0, Value.int 1 0, Value.int 0 0, Value.int 0 0, Value.int 3 0, Value.ref 182, Value.bool true, Value.int 181 0, Value.ref 183, Value.none, Value.none, Value.none, Value.ref 184, Value.int 427 0, Value.int 99 0, Value.str (Str.ofString "/claim/cut.py") 428] } : Obj)) ::
  (nat_lit 186, (⟨(Value.type "function"), (none), .func (PySem.W.fnOf (Str.ofString "law") (Str.ofString "law") (defArgs (top 18)) (defBody (top 18)) (defScope (top 18)) (Value.none) (Value.none) (Value.none) (Value.str (Str.ofString "law_logloom_k70_bits_put_and_taken") 353) (none) (Value.ref 185) (Value.none)), (#[])⟩ : Obj)) :: []
def hA : List PySem.Addr := nat_lit 2 :: nat_lit 3 :: nat_lit 15 :: nat_lit 22 :: nat_lit 23 :: nat_lit 24 :: nat_lit 25 :: nat_lit 28 :: nat_lit 35 :: nat_lit 37 :: nat_lit 38 :: nat_lit 40 :: nat_lit 41 :: nat_lit 42 :: nat_lit 43 :: nat_lit 44 :: nat_lit 47 :: nat_lit 54 :: nat_lit 55 :: nat_lit 56 :: nat_lit 59 :: nat_lit 61 :: nat_lit 62 :: nat_lit 64 :: nat_lit 65 :: nat_lit 66 :: nat_lit 69 :: nat_lit 70 :: nat_lit 78 :: nat_lit 80 :: nat_lit 81 :: nat_lit 83 :: nat_lit 84 :: nat_lit 85 :: nat_lit 87 :: nat_lit 88 :: nat_lit 90 :: nat_lit 91 :: nat_lit 92 :: nat_lit 95 :: nat_lit 96 :: nat_lit 97 :: nat_lit 98 :: nat_lit 99 :: nat_lit 100 :: nat_lit 101 :: nat_lit 111 :: nat_lit 113 :: nat_lit 114 :: nat_lit 116 :: nat_lit 117 :: nat_lit 118 :: nat_lit 121 :: nat_lit 122 :: nat_lit 123 :: nat_lit 125 :: nat_lit 126 :: nat_lit 128 :: nat_lit 129 :: nat_lit 130 :: nat_lit 131 :: nat_lit 132 :: nat_lit 133 :: nat_lit 134 :: nat_lit 137 :: nat_lit 140 :: nat_lit 141 :: nat_lit 142 :: nat_lit 144 :: nat_lit 145 :: nat_lit 147 :: nat_lit 148 :: nat_lit 149 :: nat_lit 152 :: nat_lit 153 :: nat_lit 154 :: nat_lit 156 :: nat_lit 157 :: nat_lit 159 :: nat_lit 160 :: nat_lit 161 :: nat_lit 163 :: nat_lit 164 :: nat_lit 166 :: nat_lit 167 :: nat_lit 168 :: nat_lit 170 :: nat_lit 171 :: nat_lit 173 :: nat_lit 174 :: nat_lit 175 :: nat_lit 177 :: nat_lit 178 :: nat_lit 180 :: nat_lit 181 :: nat_lit 182 :: nat_lit 185 :: nat_lit 186 :: []
theorem hE : ∀ P, hA = (hK P).map (·.1) := fun _ => by kernel_rfl
def hQ : PySem.Program := { PySem.Challenge.pw_logloom_k70_bits_put_and_taken with
  main := { PySem.Challenge.pw_logloom_k70_bits_put_and_taken.main with
    body := [top 1, top 2, top 3, top 5, top 6, top 7, top 8, top 9, top 11, top 12, top 13, top 14, top 15, top 16, top 17, top 18] } }
abbrev hH : PySem.W.Hook := PySem.W.kHook hK hA hE
abbrev hX (s : PySem.Shared) : Bool := PySem.W.xlAt hQ [] s &&
  PySem.W.recOk (PySem.W.RowW.records (PySem.W.OpenRow.toRowW (PySem.W.OpenLaw.row PySem.Challenge.rw_logloom_k70_bits_put_and_taken))) s
set_option maxHeartbeats 0 in
theorem hL : PySem.W.LeftO PySem.Challenge.pw_logloom_k70_bits_put_and_taken hQ [] hX hH.obs hH.val 3218 :=
  HT.left1 rfl rfl (fun _ => rfl) (fun w os => by kernel_rfl)
end BT

namespace L2
open PySem PySem.Spec PyProof.Rows


abbrev Key := Sum Int Str
def keyIs : Key → Value → Bool
  | .inl k, v => Value.isInt k v
  | .inr x, v => Value.isStrOf x v
def keyH (w : World) : Key → Int
  | .inl k => hashInt k
  | .inr x => hashStr w x
theorem keyIs_shape : ∀ {k : Key} {v : Value}, keyIs k v = true → (∃ i t, k = Sum.inl i ∧ v = Value.int i t) ∨ (∃ x t, k = Sum.inr x ∧ v = Value.str x t)
  | .inl i, v, h => by
    obtain ⟨t, e⟩ := Value.isInt_shape (k := i) (v := v) h
    exact .inl ⟨i, t, rfl, e⟩
  | .inr x, v, h => by
    obtain ⟨t, e⟩ := Value.isStrOf_shape (x := x) (v := v) h
    exact .inr ⟨x, t, rfl, e⟩
theorem key_ll (a b : Int) : decide ((Sum.inl a : Key) = Sum.inl b) = (a == b) := by
  by_cases e : a = b
  · subst e; simp
  · have h : ¬ (Sum.inl a : Key) = Sum.inl b := fun q => e (Sum.inl.inj q)
    rw [decide_eq_false h]
    exact (beq_eq_false_iff_ne.mpr e).symm
theorem key_rr (a b : Str) : decide ((Sum.inr a : Key) = Sum.inr b) = decide (a = b) := by
  by_cases e : a = b
  · subst e; simp
  · have h : ¬ (Sum.inr a : Key) = Sum.inr b := fun q => e (Sum.inr.inj q)
    rw [decide_eq_false h, decide_eq_false e]
theorem key_lr (a : Int) (b : Str) : decide ((Sum.inl a : Key) = Sum.inr b) = false := decide_eq_false (fun q => nomatch q)
theorem key_rl (a : Str) (b : Int) : decide ((Sum.inr a : Key) = Sum.inl b) = false := decide_eq_false (fun q => nomatch q)

def mixKind (prog : Program) (w : World) : PySem.KeyKind prog w Key where
  is := keyIs
  hash := keyH w
  inj := fun v a b ha hb => by
    rcases keyIs_shape ha with ⟨i, t, rfl, rfl⟩ | ⟨x, t, rfl, rfl⟩
    · rcases keyIs_shape hb with ⟨j, u, rfl, e⟩ | ⟨y, u, rfl, e⟩
      · injection e with e1 _; rw [e1]
      · exact nomatch e
    · rcases keyIs_shape hb with ⟨j, u, rfl, e⟩ | ⟨y, u, rfl, e⟩
      · exact nomatch e
      · injection e with e1 _; rw [e1]
  byValue := fun k v h => by
    rcases keyIs_shape h with ⟨i, t, rfl, rfl⟩ | ⟨x, t, rfl, rfl⟩ <;> rfl
  pyHash := fun hv h => by
    rcases keyIs_shape hv with ⟨i, t, rfl, rfl⟩ | ⟨x, t, rfl, rfl⟩
    · exact wpAny_pyHash_int h
    · exact wpAny_pyHash_str h
  eqBool := fun hu hv h => by
    rcases keyIs_shape hu with ⟨i, t, rfl, rfl⟩ | ⟨x, t, rfl, rfl⟩
    · rcases keyIs_shape hv with ⟨j, u, rfl, rfl⟩ | ⟨y, u, rfl, rfl⟩
      · rw [key_ll] at h; exact wpAny_eqBool_int h
      · rw [key_lr] at h; exact SeqAt.EqAt.int_str i t y u _ _ _ _ h
    · rcases keyIs_shape hv with ⟨j, u, rfl, rfl⟩ | ⟨y, u, rfl, rfl⟩
      · rw [key_rl] at h; exact SeqAt.EqAt.str_int x t j u _ _ _ _ h
      · rw [key_rr] at h; exact wpAny_eqBool_str h
  «strs» := fun k x t v h => by
    rcases keyIs_shape h with ⟨i, u, rfl, e⟩ | ⟨y, u, rfl, e⟩
    · exact nomatch e
    · injection e with e1 _
      subst e1
      cases v <;> rfl

end L2

namespace L2
open PySem PySem.Spec PyProof.Rows


inductive V where
  | non | bl (b : Bool) | int (i : Int) | str (x : Str) | byt (b : Array UInt8) | flt (b : UInt64) | ref (a : Addr) | ty (n : String)
  deriving DecidableEq

def RelV : V → Value → Prop
  | .non, u => u = Value.none
  | .bl b, u => u = Value.bool b
  | .int i, u => ∃ t, u = Value.int i t
  | .str x, u => ∃ t, u = Value.str x t
  | .byt b, u => ∃ t, u = Value.bytes b t
  | .flt b, u => ∃ t, u = Value.float b t
  | .ref a, u => u = Value.ref a
  | .ty n, u => u = Value.type n

abbrev Vals : List V → List Value → Prop := Paired RelV
theorem Vals.length {xs : List V} {us : List Value} (r : Vals xs us) : xs.length = us.length := Paired.length r
theorem Vals.get : ∀ {xs : List V} {us : List Value} {i : Nat} {x : V}, Vals xs us → xs[i]? = some x → ∃ u, us[i]? = some u ∧ RelV x u
  | _, _, _, _, .nil, e => by simp at e
  | _, _, 0, _, .cons r _, e => by simp at e; subst e; exact ⟨_, rfl, r⟩
  | _, _, i + 1, x, .cons _ t, e => by
    obtain ⟨u, h1, h2⟩ := Vals.get (i := i) (x := x) t (by simpa using e)
    exact ⟨u, by simpa using h1, h2⟩
theorem Vals.append : ∀ {xs ys : List V} {us ws : List Value}, Vals xs us → Vals ys ws → Vals (xs ++ ys) (us ++ ws)
  | _, _, _, _, .nil, s => s
  | _, _, _, _, .cons r t, s => .cons r (Vals.append t s)
theorem Vals.take : ∀ {xs : List V} {us : List Value} (n : Nat), Vals xs us → Vals (xs.take n) (us.take n)
  | _, _, 0, _ => .nil
  | _, _, _ + 1, .nil => .nil
  | _, _, n + 1, .cons r t => .cons r (Vals.take n t)
theorem Vals.drop : ∀ {xs : List V} {us : List Value} (n : Nat), Vals xs us → Vals (xs.drop n) (us.drop n)
  | _, _, 0, r => r
  | _, _, _ + 1, .nil => .nil
  | _, _, n + 1, .cons _ t => Vals.drop n t
def RelO : Option V → Option Value → Prop
  | some v, some u => RelV v u
  | none, none => True
  | _, _ => False
def KV {κ : Type} : List (κ × V) → List (κ × Value) → Prop := Paired fun (p : κ × V) (q : κ × Value) => p.1 = q.1 ∧ RelV p.2 q.2


def kV : Key → V
  | .inl i => .int i
  | .inr x => .str x


inductive HO where
  
  | lst (xs : List V)
  
  | tup (xs : List V)
  
  | dK (kvs : List (Key × V)) | dT (kvs : List (List Key × V))
  
  | set (S : Int → Bool) (n : Nat)
  
  | ins (C dx : Addr) (fs : List (Str × V))
  
  | own (x : Addr)
  
  | xd (fs : List (Str × V))
  
  | met (f x : Addr)
  
  | rng (lo hi : Int)
  
  | frz (o : Obj) (u : HO)
  
  | tbl (ps : Array Value)
  
  | ext (φ : Heap → Prop)

abbrev Hp := Addr → Option HO
def upd (H : Hp) (a : Addr) (o : HO) : Hp := fun b => if b = a then some o else H b
theorem upd_same {H : Hp} {a : Addr} {o : HO} : upd H a o a = some o := by unfold upd; rw [if_pos rfl]
theorem upd_ne {H : Hp} {a b : Addr} {o : HO} (h : b ≠ a) : upd H a o b = H b := by unfold upd; rw [if_neg h]
theorem ne_of_none {H : Hp} {a b : Addr} {o : HO} (h : H a = some o) (h' : H b = none) : a ≠ b := by
  intro e; subst e; rw [h] at h'; cases h'

section
variable (P : Program) (w : World)
def ObjOk (H : Hp) (h : Heap) (a : Addr) : HO → Prop
  | .lst xs => xs.length ≤ sizeLine ∧ ∃ (its : List Value) (n : Nat), Vals xs its ∧ h.get? a = some { cls := .type "list", data := .seq its.toArray n }
  | .tup xs => xs.length ≤ sizeLine ∧ ∃ its : List Value, Vals xs its ∧ IsTup h a its.toArray
  | .dK kvs => kvs.length ≤ sizeLine ∧ (a == sysModules) = false ∧ ∃ vs, KV kvs vs ∧ h.DictOf (mixKind P w) a vs
  | .dT kvs => kvs.length ≤ sizeLine ∧ (a == sysModules) = false ∧ ∃ xs : List (List Key × Addr × Value),
      Paired (fun (p : List Key × V) (q : List Key × Addr × Value) => p.1 = q.1 ∧ H q.2.1 = some (.tup (p.1.map kV)) ∧ RelV p.2 q.2.2) kvs xs ∧
      ∃ o es ep, h.get? a = some o ∧ o.ExactDict ∧ o.data = .dict es ep ∧ es.toList = xs.map (entryOfKey (tupleKind (mixKind P w))) ∧ (xs.map (·.1)).Nodup
  | .set S n => h.SetOf (intKind P w) a S n
  | .ins C dx fs => H dx = some (.own a) ∧ fs.length ≤ 1000 ∧ dx ≠ a ∧ h.get? a = some (PySem.W.instObj C dx) ∧
      ∃ mA, h.Ns1 dx mA ∧ (∀ f, RelO (fs.lookup f) (mA f)) ∧ PySem.Within mA (fs.map (·.1))
  | .own _ => ∃ o, h.get? a = some o
  | .xd fs => ∃ mA, h.Ns1 a mA ∧ ∀ f, RelO (fs.lookup f) (mA f)
  | .rng lo hi => ∃ t u v, h.get? a = some { cls := .type "range", data := .fields #[.int lo t, .int hi u, .int 1 v] }
  | .frz o u => h.get? a = some o ∧ ObjOk H h a u
  | .tbl ps => h.get? a = some { cls := .none, data := .fields ps }
  | .met f x => h.get? a = some (PySem.W.methodObj (.ref f) (.ref x))
  | .ext φ => φ h ∧ (∃ o, h.get? a = some o) ∧ ∀ h1 h2 : Heap, φ h1 → (∀ o, h1.get? a = some o → h2.get? a = some o) → φ h2

def HOk (H : Hp) (h : Heap) : Prop := ∀ a o, H a = some o → ObjOk P w H h a o
end

section
variable {P : Program} {w : World} {H H' : Hp} {h h' : Heap} {a : Addr} {o : HO}
theorem ObjOk.lt (x : ObjOk P w H h a o) : a < h.objs.size := by
  cases o with
  | lst xs => obtain ⟨_, _, _, _, e⟩ := x; exact Heap.lt_size e
  | tup xs => obtain ⟨_, _, _, p⟩ := x; exact p.lt
  | dK kvs => obtain ⟨_, _, _, _, o, _, _, e, _⟩ := x; exact Heap.lt_size e
  | dT kvs => obtain ⟨_, _, _, _, o, _, _, e, _⟩ := x; exact Heap.lt_size e
  | set S n => obtain ⟨o, _, _, _, e, _⟩ := x; exact Heap.lt_size e
  | ins C dx fs => obtain ⟨_, _, _, e, _⟩ := x; exact Heap.lt_size e
  | own y => obtain ⟨_, e⟩ := x; exact Heap.lt_size e
  | xd fs => obtain ⟨_, ⟨_, _, _, e, _⟩, _⟩ := x; exact Heap.lt_size e
  | rng lo hi => obtain ⟨_, _, _, e⟩ := x; exact Heap.lt_size e
  | frz ob u => obtain ⟨e, _⟩ := x; exact Heap.lt_size e
  | tbl ps => exact Heap.lt_size (show h.get? a = some _ from x)
  | met f y => exact Heap.lt_size (show h.get? a = some _ from x)
  | ext φ => obtain ⟨_, ⟨_, e⟩, _⟩ := x; exact Heap.lt_size e
theorem Paired.mapP {α β : Type} {F G : α → β → Prop} : ∀ {l₁ : List α} {l₂ : List β}, Paired F l₁ l₂ → (∀ a b, F a b → G a b) → Paired G l₁ l₂
  | _, _, .nil, _ => .nil
  | _, _, .cons r t, f => .cons (f _ _ r) (Paired.mapP t f)
theorem ObjOk.stay (x : ObjOk P w H h a o) (k : ∀ b u, (b = a ∨ H b = some (.own a)) → h.get? b = some u → h'.get? b = some u)
    (ho : ∀ b, H b = some (.own a) → H' b = some (.own a)) (ht : ∀ b xs, H b = some (.tup xs) → H' b = some (.tup xs)) : ObjOk P w H' h' a o := by
  induction o with
  | lst xs => obtain ⟨z, its, n, r, e⟩ := x; exact ⟨z, its, n, r, k _ _ (.inl rfl) e⟩
  | tup xs => obtain ⟨z, its, r, ob, e, c⟩ := x; exact ⟨z, its, r, ob, k _ _ (.inl rfl) e, c⟩
  | dK kvs => obtain ⟨z, y, vs, r, ob, es, ep, e, c⟩ := x; exact ⟨z, y, vs, r, ob, es, ep, k _ _ (.inl rfl) e, c⟩
  | dT kvs =>
    obtain ⟨z, y, xs, r, ob, es, ep, e, c⟩ := x
    exact ⟨z, y, xs, Paired.mapP r fun p q z => ⟨z.1, ht _ _ z.2.1, z.2.2⟩, ob, es, ep, k _ _ (.inl rfl) e, c⟩
  | set S n => obtain ⟨ob, es, ep, t, e, c⟩ := x; exact ⟨ob, es, ep, t, k _ _ (.inl rfl) e, c⟩
  | ins C dx fs =>
    obtain ⟨d, z, ne, e, mA, ⟨od, es, ep, e2, c⟩, r⟩ := x
    exact ⟨ho _ d, z, ne, k _ _ (.inl rfl) e, mA, ⟨od, es, ep, k _ _ (.inr d) e2, c⟩, r⟩
  | own y => obtain ⟨ob, e⟩ := x; exact ⟨ob, k _ _ (.inl rfl) e⟩
  | xd fs => obtain ⟨mA, ⟨od, es, ep, e, c⟩, r⟩ := x; exact ⟨mA, ⟨od, es, ep, k _ _ (.inl rfl) e, c⟩, r⟩
  | rng lo hi => obtain ⟨t, u, v, e⟩ := x; exact ⟨t, u, v, k _ _ (.inl rfl) e⟩
  | frz ob u ih => obtain ⟨e, q⟩ := x; exact ⟨k _ _ (.inl rfl) e, ih q⟩
  | tbl ps =>
    have e : h.get? a = some { cls := .none, data := .fields ps } := x
    show h'.get? a = some { cls := .none, data := .fields ps }
    exact k a _ (.inl rfl) e
  | met f y =>
    have e : h.get? a = some (PySem.W.methodObj (.ref f) (.ref y)) := x
    show h'.get? a = some (PySem.W.methodObj (.ref f) (.ref y))
    exact k a _ (.inl rfl) e
  | ext φ => obtain ⟨p, ⟨o, e⟩, st⟩ := x; exact ⟨st _ _ p fun o q => k _ _ (.inl rfl) q, ⟨o, k _ _ (.inl rfl) e⟩, st⟩
theorem HOk.lt (x : HOk P w H h) (e : H a = some o) : a < h.objs.size := (x a o e).lt
theorem HOk.fresh (x : HOk P w H h) (e : h.objs.size ≤ a) : H a = none := by
  cases q : H a with
  | none => rfl
  | some u => exact absurd (Nat.lt_of_lt_of_le (x.lt q) e) (Nat.lt_irrefl _)

theorem HOk.kept (x : HOk P w H h) (k : ∀ b u, h.get? b = some u → h'.get? b = some u) : HOk P w H h' := fun a o e =>
  (x a o e).stay (fun b u _ q => k b u q) (fun _ q => q) fun _ _ q => q

theorem HOk.laid (x : HOk P w H h) (k : ∀ b u, h.get? b = some u → h'.get? b = some u) (hp : h.objs.size ≤ a) (new : ObjOk P w (upd H a o) h' a o) : HOk P w (upd H a o) h' := fun b u e => by
  have hn := x.fresh hp
  by_cases hb : b = a
  · subst hb; rw [upd_same] at e; cases e; exact new
  · rw [upd_ne hb] at e
    exact (x b u e).stay (fun c v _ q => k c v q) (fun c q => by rw [upd_ne (ne_of_none q hn)]; exact q) fun c xs q => by rw [upd_ne (ne_of_none q hn)]; exact q
end


def Rd (H : Hp) (a : Addr) (u : HO) : Prop := H a = some u ∨ ∃ o, H a = some (.frz o u)
theorem Rd.ok {P : Program} {w : World} {H : Hp} {h : Heap} {a : Addr} {u : HO} (r : Rd H a u) (x : HOk P w H h) : ObjOk P w H h a u := by
  rcases r with r | ⟨o, r⟩
  · exact x a u r
  · obtain ⟨_, q⟩ := x a _ r
    exact q

def Mut : Option HO → Prop
  | some (.lst _) => True
  | some (.dK _) => True
  | some (.dT _) => True
  | some (.set _ _) => True
  | some (.ins _ _ _) => True
  | some (.ext _) => True
  | _ => False
section
variable {P : Program} {w : World} {H : Hp} {h h' : Heap} {x e : Addr} {o' : HO}

theorem HOk.write (ok : HOk P w H h) (mu : Mut (H x)) (he : e = x ∨ H e = some (.own x)) (k : ∀ b u, b ≠ e → h.get? b = some u → h'.get? b = some u) (heo : ∃ u, h'.get? e = some u)
    (new : ObjOk P w (upd H x o') h' x o') : HOk P w (upd H x o') h' := fun b u q => by
  have nown : ∀ c y, H c = some (.own y) → c ≠ x := fun c y r z => by subst z; rw [r] at mu; exact mu
  have ntup : ∀ c xs, H c = some (.tup xs) → c ≠ x := fun c xs r z => by subst z; rw [r] at mu; exact mu
  by_cases hb : b = x
  · subst hb; rw [upd_same] at q; cases q; exact new
  · rw [upd_ne hb] at q
    by_cases hbe : b = e
    · have q' : H b = some (.own x) := by
        rcases he with z | z
        · exact absurd (hbe.trans z) hb
        · rw [hbe]; exact z
      rw [q] at q'; cases q'
      obtain ⟨v, hv⟩ := heo
      exact ⟨v, by rw [hbe]; exact hv⟩
    · refine (ok b u q).stay (fun c v hc r => k c v ?_ r) (fun c r => by rw [upd_ne (nown c b r)]; exact r) fun c xs r => by rw [upd_ne (ntup c xs r)]; exact r
      rcases hc with rfl | hc
      · exact hbe
      · rintro rfl
        rcases he with z | z
        · exact nown c b hc z
        · rw [hc] at z; cases z; exact hb rfl
end


structure Un (fs ex : List Addr) (H H' : Hp) (h h' : Heap) : Prop where
  keep : ∀ b o, h.get? b = some o → H b = none → b ∉ fs → b ∉ ex → h'.get? b = some o
  slot : ∀ b o, h.get? b = some o → H b = none → b ∈ fs → b ∉ ex → ∃ sl, h'.get? b = some { o with slots := sl }
  free : ∀ b o, h.get? b = some o → H b = none → b ∉ ex → H' b = none
  there : ∀ b o, h.get? b = some o → b ∉ ex → ∃ o', h'.get? b = some o'
  tups : ∀ b xs, H b = some (.tup xs) → H' b = some (.tup xs)
  frzs : ∀ b o u, H b = some (.frz o u) → H' b = some (.frz o u)
  tbls : ∀ b ps, H b = some (.tbl ps) → ∃ more, H' b = some (.tbl (ps ++ more))
section
variable {fs fs' ex ex' : List Addr} {H H1 H2 : Hp} {h h1 h2 h' : Heap} {a x e : Addr} {o : HO}
theorem Un.any (u : Un fs ex H H1 h h1) {b : Addr} {ob : Obj} (q : h.get? b = some ob) (n : H b = none) (hx : b ∉ ex) : ∃ sl, h1.get? b = some { ob with slots := sl } := by
  by_cases hb : b ∈ fs
  · exact u.slot b ob q n hb hx
  · exact ⟨ob.slots, u.keep b ob q n hb hx⟩
theorem Un.kept (k : ∀ b u, h.get? b = some u → h'.get? b = some u) : Un fs ex H H h h' :=
  ⟨fun b ob q _ _ _ => k b ob q, fun b ob q _ _ _ => ⟨ob.slots, k b ob q⟩, fun _ _ _ n _ => n, fun b ob q _ => ⟨ob, k b ob q⟩, fun _ _ q => q, fun _ _ _ q => q, fun _ ps q => ⟨#[], by rw [q]; simp⟩⟩
theorem Un.refl : Un fs ex H H h h := Un.kept fun _ _ q => q
theorem Un.laid (k : ∀ b u, h.get? b = some u → h'.get? b = some u) (hp : h.objs.size ≤ a) (hn : H a = none) : Un fs ex H (upd H a o) h h' where
  keep := fun b u q _ _ _ => k b u q
  slot := fun b u q _ _ _ => ⟨u.slots, k b u q⟩
  free := fun b u q n _ => by rw [upd_ne (Nat.ne_of_lt (Nat.lt_of_lt_of_le (Heap.lt_size q) hp))]; exact n
  there := fun b u q _ => ⟨u, k b u q⟩
  tups := fun b xs q => by rw [upd_ne (ne_of_none q hn)]; exact q
  frzs := fun b u xs q => by rw [upd_ne (ne_of_none q hn)]; exact q
  tbls := fun b ps q => ⟨#[], by rw [upd_ne (ne_of_none q hn), q]; simp⟩
theorem Un.write (mu : Mut (H x)) (he : e = x ∨ H e = some (.own x)) (k : ∀ b u, b ≠ e → h.get? b = some u → h'.get? b = some u) (heo : ∃ u, h'.get? e = some u) : Un fs ex H (upd H x o) h h' := by
  have hx : ∀ b, H b = none → b ≠ x := fun b n z => by subst z; rw [n] at mu; exact mu
  have hb : ∀ b, H b = none → b ≠ e := fun b n z => by
    subst z
    rcases he with r | r
    · exact hx b n r
    · rw [n] at r; cases r
  have hm : ∀ b u, H b = some u → ¬ Mut (some u) → b ≠ x := fun b u q nm z => by subst z; rw [q] at mu; exact nm mu
  refine ⟨fun b u q n _ _ => k b u (hb b n) q, fun b u q n _ _ => ⟨u.slots, k b u (hb b n) q⟩, fun b u q n _ => by rw [upd_ne (hx b n)]; exact n, fun b u q _ => ?_,
    fun b xs q => by rw [upd_ne (hm b _ q fun z => z)]; exact q, fun b u xs q => by rw [upd_ne (hm b _ q fun z => z)]; exact q, fun b ps q => ⟨#[], by rw [upd_ne (hm b _ q fun z => z), q]; simp⟩⟩
  by_cases hbe : b = e
  · subst hbe; exact heo
  · exact ⟨u, k b u hbe q⟩
end


def trk (h : Heap) (H : Hp) : List Addr := (List.range h.objs.size).filter fun a => (H a).isSome
def hidT (h : Heap) (H : Hp) : Heap := PySem.W.hideAll h (trk h H)
theorem hidT_size (h : Heap) (H : Hp) : (hidT h H).objs.size = h.objs.size := PySem.W.hideAll_size _ _
theorem hidT_get {h : Heap} {H : Hp} {b : Addr} {o : Obj} (e : h.get? b = some o) (n : H b = none) : (hidT h H).get? b = some o :=
  PySem.W.hideAll_get _ e fun hm => by
    have q : (H b).isSome = true := (List.mem_filter.mp hm).2
    rw [n] at q; simp at q
theorem of_hidT {h : Heap} {H : Hp} {b : Addr} {o : Obj} (e : (hidT h H).get? b = some o) : h.get? b = some o ∧ H b = none := by
  have e' : h.get? b = some o := PySem.W.of_hideAll (trk h H) e
  refine ⟨e', ?_⟩
  cases q : H b with
  | none => rfl
  | some x =>
    have hm : b ∈ trk h H := List.mem_filter.mpr ⟨List.mem_range.mpr (Heap.lt_size e'), by simp [q]⟩
    have z : (hidT h H).get? b = none := PySem.W.hideAll_none (trk h H) hm
    rw [z] at e; cases e


end L2

namespace L2
open PySem PySem.Spec PyProof.Rows


structure Mod (K : PySem.W.Frag) (mg : Str → Option Value) (base : Heap) : Prop where
  kin : K.In base
  glob : base.Ns mainGlobals mg
  blt : ∃ mb, base.Ns builtinsNs mb ∧ ∀ x : Str, x ≠ "__name__" → mb x = bootBuiltins x
  nolimit : base.NoLimit


structure Cx where
  prog : Program
  w : World
  K : PySem.W.Frag
  mg : Str → Option Value
  base : Heap
  A : Around
  N : List Str
  s₀ : Shared
  H₀ : Hp
  env : Env
  outer : List Env
  stack : List Env
  ex : List Addr
  fn : Str → Bool
  calm : Bool
  pn : List (Addr × Obj)
  xe : Value → Shared → Prop

def frs (l : List Env) : List Addr := l.filterMap (·.frame)
abbrev Cx.fs (X : Cx) : List Addr := frs X.outer

def Vis (sc : Scope) (x : Str) : Prop := sc.names.lookup x = some .local ∨ sc.names.lookup x = some .cell ∨ sc.names.lookup x = some .free
def Loc (sc : Scope) (x : Str) : Prop := sc.names.lookup x = some .local ∨ sc.names.lookup x = some .cell
def Look (env : Env) (h : Heap) (m : Str → Option Value) (x : Str) (u : Value) : Prop :=
  (env.kindOf x = some .local ∧ m x = some u) ∨ ((env.kindOf x = some .cell ∨ env.kindOf x = some .free) ∧ ∃ c, env.cells.lookup x = some c ∧ h.IsCell c (some u))

structure Cx.Ok (X : Cx) : Prop where
  mod : Mod X.K X.mg X.base
  kind : X.env.scope.kind = .function
  glob : X.env.globals = mainGlobals
  blt : X.env.builtins = builtinsNs
  above : X.s₀.heap.objs.size ≤ X.env.locals
  inj : ∀ x y c, X.env.cells.lookup x = some c → X.env.cells.lookup y = some c → x = y
  has : ∀ x, (X.env.kindOf x = some .cell ∨ X.env.kindOf x = some .free) → ∃ c, X.env.cells.lookup x = some c
  cab : ∀ x c, X.fn x = true → X.env.cells.lookup x = some c → X.s₀.heap.objs.size ≤ c
  hd : X.calm = true → X.A.handled = none
  frames : X.A.frames = some X.stack
  stk : X.stack = X.outer ∨ (X.stack = X.env :: X.outer ∧ X.env.frame = some X.env.locals)
  exf : ∀ b ∈ X.ex, b ≠ X.env.locals ∧ ∀ x c, X.env.cells.lookup x = some c → c ≠ b
  bs : ∀ b o, X.base.get? b = some o → X.s₀.heap.get? b = some o ∧ X.H₀ b = none
  bsz : X.base.objs.size ≤ X.s₀.heap.objs.size
  noex : ∀ b o, X.base.get? b = some o → b ∉ X.ex
  exfs : ∀ b ∈ X.ex, b ∉ X.fs
  funs : X.s₀.heap.FunFrames X.base X.outer
  frf : ∀ b ∈ X.fs, X.H₀ b = none

structure Inv (X : Cx) (pins : List (Addr × Obj)) (σ : List (Option V)) (H : Hp) (s : Shared) : Prop where
  ok : X.Ok
  os : s.os = X.s₀.os
  bare : AllBare s.gens
  base : Un X.fs X.ex X.H₀ H X.s₀.heap s.heap
  loc : ∃ m, s.heap.Ns X.env.locals m ∧ ∀ (i : Nat) (x : Str) (v : V), X.N[i]? = some x → σ[i]? = some (some v) → Vis X.env.scope x → ∃ u, RelV v u ∧ Look X.env s.heap m x u
  cell : ∀ x c, X.env.cells.lookup x = some c → ∃ v, s.heap.IsCell c v
  free : H X.env.locals = none
  freeC : ∀ x c, X.env.cells.lookup x = some c → H c = none
  pin : ∀ p ∈ X.pn ++ pins, s.heap.get? p.1 = some p.2 ∧ H p.1 = none ∧ p.1 ≠ X.env.locals ∧ p.1 ∉ X.fs ∧ ∀ v, p.2.data ≠ .cell v
  hok : HOk X.prog X.w H s.heap
  len : σ.length = X.N.length

section
variable {X : Cx} {pins : List (Addr × Obj)} {σ : List (Option V)} {H H' : Hp} {s : Shared} {h' : Heap}

theorem Cx.Ok.nofr (ok : X.Ok) {b : Addr} {o : Obj} (e : X.base.get? b = some o) : b ∉ X.fs := fun hb => by
  have := (ok.funs.mem hb).1
  rw [e] at this; cases this
theorem Inv.bs (I : Inv X pins σ H s) : ∀ b o, X.base.get? b = some o → s.heap.get? b = some o ∧ H b = none := fun b o e =>
  ⟨I.base.keep b o (I.ok.bs b o e).1 (I.ok.bs b o e).2 (I.ok.nofr e) (I.ok.noex b o e), I.base.free b o (I.ok.bs b o e).1 (I.ok.bs b o e).2 (I.ok.noex b o e)⟩
theorem Inv.bk (I : Inv X pins σ H s) : ∀ b o, X.base.get? b = some o → s.heap.get? b = some o := fun b o e => (I.bs b o e).1
theorem Inv.mod (I : Inv X pins σ H s) : Mod X.K X.mg X.base := I.ok.mod
theorem Inv.kIn (I : Inv X pins σ H s) : X.K.In s.heap := I.ok.mod.kin.keeps I.bk
theorem Inv.lt (I : Inv X pins σ H s) : X.env.locals < s.heap.objs.size := let ⟨_, hn, _⟩ := I.loc; hn.lt
theorem Inv.sz (I : Inv X pins σ H s) : X.s₀.heap.objs.size ≤ s.heap.objs.size := Nat.le_trans I.ok.above (Nat.le_of_lt I.lt)
theorem Inv.nofs (I : Inv X pins σ H s) {a : Addr} (h : s.heap.objs.size ≤ a) : a ∉ X.fs := fun hb => by
  obtain ⟨_, o, ho, _⟩ := I.ok.funs.mem hb
  exact absurd (Nat.lt_of_lt_of_le (Heap.lt_size ho) (Nat.le_trans I.sz h)) (Nat.lt_irrefl _)
theorem Inv.cne (I : Inv X pins σ H s) : ∀ x c, X.env.cells.lookup x = some c → c ≠ X.env.locals := fun x c e z => by
  obtain ⟨v, o, ho, hd⟩ := I.cell x c e
  obtain ⟨m, ⟨o', es, ep, ho', hd', _⟩, _⟩ := I.loc
  rw [z, ho'] at ho; cases ho; rw [hd'] at hd; cases hd
theorem Inv.funs (I : Inv X pins σ H s) : s.heap.FunFrames X.base X.outer := by
  have all : ∀ (l : List Env), (∀ b ∈ frs l, b ∈ X.fs) → X.s₀.heap.FunFrames X.base l → s.heap.FunFrames X.base l := by
    intro l
    induction l with
    | nil => intro _ _; trivial
    | cons env r ih =>
      intro hs hl
      obtain ⟨hk, ⟨L, o, hf, hn, ho, hd⟩, hr⟩ := hl
      have hL : L ∈ X.fs := hs L (by unfold frs; rw [List.filterMap_cons, hf]; exact List.mem_cons_self)
      obtain ⟨sl, e⟩ := I.base.slot L o ho (I.ok.frf L hL) hL fun z => I.ok.exfs L z hL
      exact ⟨hk, ⟨L, _, hf, hn, e, hd⟩, ih (fun b hb => hs b (by unfold frs; rw [List.filterMap_cons, hf]; exact List.mem_cons_of_mem _ hb)) hr⟩
  exact all X.outer (fun _ hb => hb) I.ok.funs


theorem Inv.stack (I : Inv X pins σ H s) : s.heap.FunFrames X.base X.stack := by
  rcases I.ok.stk with e | ⟨e, hf⟩
  · rw [e]; exact I.funs
  · rw [e]
    obtain ⟨m, hn, _⟩ := I.loc
    refine .cons (by rw [I.ok.kind]; decide) hf hn ?_ I.funs
    exact Heap.get?_none_of_le (Nat.le_trans I.ok.bsz I.ok.above)
theorem Inv.stkSub (I : Inv X pins σ H s) : ∀ b ∈ frs X.stack, b ∈ X.env.locals :: X.fs := fun b hb => by
  rcases I.ok.stk with e | ⟨e, hf⟩
  · rw [e] at hb; exact List.mem_cons_of_mem _ hb
  · rw [e] at hb
    unfold frs at hb
    rw [List.filterMap_cons, hf] at hb
    exact hb
theorem Inv.stkFree (I : Inv X pins σ H s) : ∀ b ∈ frs X.stack, H b = none := fun b hb => by
  rcases List.mem_cons.mp (I.stkSub b hb) with e | hb
  · rw [e]; exact I.free
  · obtain ⟨_, o, ho, _⟩ := I.ok.funs.mem hb
    exact I.base.free b o ho (I.ok.frf b hb) fun z => I.ok.exfs b z hb


theorem Inv.step {g' : Array GenState} {t' : Nat} {d' : Drawn} {ch : List Addr} (I : Inv X pins σ H s)
    (hch : ∀ b ∈ ch, (b ∈ X.ex ∨ X.s₀.heap.objs.size ≤ b) ∧ b ≠ X.env.locals ∧ (∀ x c, X.env.cells.lookup x = some c → c ≠ b) ∧ ∀ p ∈ X.pn ++ pins, p.1 ≠ b)
    (keep : ∀ b o, b ≠ X.env.locals → b ∉ X.fs → b ∉ ch → s.heap.get? b = some o → H b = none → h'.get? b = some o)
    (slot : ∀ b o, b ≠ X.env.locals → b ∈ X.fs → b ∉ ch → s.heap.get? b = some o → H b = none → ∃ sl, h'.get? b = some { o with slots := sl }) (free : ∀ b o, b ∉ ch → s.heap.get? b = some o → H b = none → H' b = none)
    (there : ∀ b o, b ∉ ch → s.heap.get? b = some o → ∃ o', h'.get? b = some o')
    (tups : ∀ b xs, H b = some (.tup xs) → H' b = some (.tup xs)) (frzs : ∀ b o u, H b = some (.frz o u) → H' b = some (.frz o u)) (tbls : ∀ b ps, H b = some (.tbl ps) → ∃ more, H' b = some (.tbl (ps ++ more)))
    (ns : ∀ m, s.heap.Ns X.env.locals m → h'.Ns X.env.locals m) (hok : HOk X.prog X.w H' h') (hg : AllBare g') :
    Inv X pins σ H' { s with heap := h', gens := g', drawn := d', toks := t' } := by
  have neL : ∀ b o, X.s₀.heap.get? b = some o → b ≠ X.env.locals := fun b o e => Nat.ne_of_lt (Nat.lt_of_lt_of_le (Heap.lt_size e) I.ok.above)
  have neC : ∀ b o, X.s₀.heap.get? b = some o → b ∉ X.ex → b ∉ ch := fun b o e hx hb => by
    rcases (hch b hb).1 with z | z
    · exact hx z
    · exact absurd (Nat.lt_of_lt_of_le (Heap.lt_size e) z) (Nat.lt_irrefl _)
  have cellK : ∀ x c, X.env.cells.lookup x = some c → ∀ v, s.heap.IsCell c v → h'.IsCell c v := fun x c e v ⟨o, ho, hd⟩ => by
    have nch : c ∉ ch := fun z => (hch c z).2.2.1 x c e rfl
    by_cases hc : c ∈ X.fs
    · obtain ⟨sl, q⟩ := slot c o (I.cne x c e) hc nch ho (I.freeC x c e)
      exact ⟨_, q, hd⟩
    · exact ⟨o, keep c o (I.cne x c e) hc nch ho (I.freeC x c e), hd⟩
  refine ⟨I.ok, I.os, hg, ⟨fun b o e n hb hx => ?_, fun b o e n hb hx => ?_, fun b o e n hx => ?_, fun b o e hx => ?_, fun b xs e => tups b xs (I.base.tups b xs e), fun b o xs e => frzs b o xs (I.base.frzs b o xs e), fun b ps e => ?_⟩, ?_, fun x c e => ?_, ?_, fun x c e => ?_, fun p hp => ?_, hok, I.len⟩
  · exact keep b o (neL b o e) hb (neC b o e hx) (I.base.keep b o e n hb hx) (I.base.free b o e n hx)
  · obtain ⟨sl, e1⟩ := I.base.slot b o e n hb hx
    obtain ⟨sl', e2⟩ := slot b _ (neL b o e) hb (neC b o e hx) e1 (I.base.free b o e n hx)
    exact ⟨sl', e2⟩
  · obtain ⟨o', e1⟩ := I.base.there b o e hx
    exact free b o' (neC b o e hx) e1 (I.base.free b o e n hx)
  · obtain ⟨o', e1⟩ := I.base.there b o e hx
    exact there b o' (neC b o e hx) e1
  · obtain ⟨m1, e1⟩ := I.base.tbls b ps e
    obtain ⟨m2, e2⟩ := tbls b _ e1
    exact ⟨m1 ++ m2, by rw [e2, Array.append_assoc]⟩
  · obtain ⟨m, hn, hl⟩ := I.loc
    refine ⟨m, ns m hn, fun i x v e1 e2 e3 => ?_⟩
    obtain ⟨u, r, l⟩ := hl i x v e1 e2 e3
    refine ⟨u, r, ?_⟩
    rcases l with l | ⟨k, c, e, z⟩
    · exact .inl l
    · exact .inr ⟨k, c, e, cellK x c e _ z⟩
  · obtain ⟨v, z⟩ := I.cell x c e
    exact ⟨v, cellK x c e v z⟩
  · obtain ⟨m, ⟨o, _, _, ho, _⟩, _⟩ := I.loc
    exact free _ o (fun z => (hch _ z).2.1 rfl) ho I.free
  · obtain ⟨v, o, ho, hd⟩ := I.cell x c e
    exact free c o (fun z => (hch c z).2.2.1 x c e rfl) ho (I.freeC x c e)
  · obtain ⟨e, n, ne, nf, d⟩ := I.pin p hp
    have nch : p.1 ∉ ch := fun z => (hch p.1 z).2.2.2 p hp rfl
    exact ⟨keep p.1 p.2 ne nf nch e n, free p.1 p.2 nch e n, ne, nf, d⟩

theorem Inv.un {t' : Nat} (I : Inv X pins σ H s) (u : Un X.fs [] H H' s.heap h') (hok : HOk X.prog X.w H' h') : Inv X pins σ H' { s with heap := h', toks := t' } := by
  obtain ⟨m, ⟨o, es, ep, ho, r⟩, _⟩ := id I.loc
  obtain ⟨sl, hL⟩ := u.any ho I.free (by simp)
  exact I.step (g' := s.gens) (d' := s.drawn) (ch := []) (fun _ z => nomatch z) (fun b o _ hb _ e n => u.keep b o e n hb (by simp)) (fun b o _ hb _ e n => u.slot b o e n hb (by simp)) (fun b o _ e n => u.free b o e n (by simp)) (fun b o _ e => u.there b o e (by simp)) u.tups u.frzs u.tbls (fun m' hm => by
    obtain ⟨o', es', ep', ho', r'⟩ := hm
    rw [ho] at ho'; cases ho'
    exact ⟨_, es', ep', hL, r'⟩) hok I.bare

theorem Inv.call {g' : Array GenState} {t' : Nat} {d' : Drawn} {ch : List Addr} (I : Inv X pins σ H s) (u : Un (frs X.stack) ch H H' s.heap h') (hok : HOk X.prog X.w H' h') (hg : AllBare g')
    (hch : ∀ b ∈ ch, (b ∈ X.ex ∨ X.s₀.heap.objs.size ≤ b) ∧ b ≠ X.env.locals ∧ (∀ x c, X.env.cells.lookup x = some c → c ≠ b) ∧ ∀ p ∈ X.pn ++ pins, p.1 ≠ b) :
    Inv X pins σ H' { s with heap := h', gens := g', drawn := d', toks := t' } := by
  obtain ⟨m, ⟨o, es, ep, ho, r⟩, _⟩ := id I.loc
  obtain ⟨sl, hL⟩ := u.any ho I.free fun z => (hch _ z).2.1 rfl
  exact I.step (ch := ch) hch (fun b o hL hb hc e n => u.keep b o e n (fun z => (List.mem_cons.mp (I.stkSub b z)).elim hL hb) hc) (fun b o _ _ hc e n => u.any e n hc) (fun b o hc e n => u.free b o e n hc) (fun b o hc e => u.there b o e hc) u.tups u.frzs u.tbls (fun m' hm => by
    obtain ⟨o', es', ep', ho', r'⟩ := hm
    rw [ho] at ho'; cases ho'
    exact ⟨_, es', ep', hL, r'⟩) hok hg

theorem Inv.turned {t' : Nat} {it : Addr} (I : Inv X pins σ H s) (k : ∀ b o, b ≠ it → s.heap.get? b = some o → h'.get? b = some o) (hn : H it = none) (hL : it ≠ X.env.locals)
    (h1 : it ∈ X.ex ∨ X.s₀.heap.objs.size ≤ it) (h2 : ∀ x c, X.env.cells.lookup x = some c → c ≠ it) (h3 : ∀ p ∈ X.pn ++ pins, p.1 ≠ it) : Inv X pins σ H { s with heap := h', toks := t' } := by
  have nit : ∀ b u, H b = some u → b ≠ it := fun b u e z => by rw [z, hn] at e; cases e
  refine I.step (g' := s.gens) (d' := s.drawn) (ch := [it]) (fun b hb => ?_) (fun b o _ _ hc e _ => k b o (fun z => hc (by simp [z])) e) (fun b o _ _ hc e _ => ⟨o.slots, k b o (fun z => hc (by simp [z])) e⟩) (fun _ _ _ _ n => n)
    (fun b o hc e => ⟨o, k b o (fun z => hc (by simp [z])) e⟩) (fun _ _ e => e) (fun _ _ _ e => e) (fun b ps e => ⟨#[], by rw [e]; simp⟩) (fun m hm => ?_) (fun b u e => ?_) I.bare
  · have e : b = it := by simpa using hb
    subst e
    exact ⟨h1, hL, h2, h3⟩
  · obtain ⟨o, es, ep, ho, r⟩ := hm
    exact ⟨o, es, ep, k _ o (Ne.symm hL) ho, r⟩
  · refine (I.hok b u e).stay (fun c v hc q => k c v ?_ q) (fun _ q => q) fun _ _ q => q
    rcases hc with z | z
    · rw [z]; exact nit b u e
    · exact nit c _ z
theorem Inv.tok (I : Inv X pins σ H s) (t : Nat) : Inv X pins σ H { s with toks := t } := I.un (h' := s.heap) (t' := t) Un.refl I.hok

theorem Inv.kept {t' : Nat} (I : Inv X pins σ H s) (k : ∀ b u, s.heap.get? b = some u → h'.get? b = some u) : Inv X pins σ H { s with heap := h', toks := t' } := I.un (Un.kept k) (I.hok.kept k)

theorem Inv.laid {a : Addr} {o : HO} {t' : Nat} (I : Inv X pins σ H s) (k : ∀ b u, s.heap.get? b = some u → h'.get? b = some u) (hp : s.heap.objs.size ≤ a) (new : ObjOk X.prog X.w (upd H a o) h' a o) :
    Inv X pins σ (upd H a o) { s with heap := h', toks := t' } := I.un (Un.laid k hp (I.hok.fresh hp)) (I.hok.laid k hp new)

theorem Inv.write {x e : Addr} {o : HO} {t' : Nat} (I : Inv X pins σ H s) (mu : Mut (H x)) (he : e = x ∨ H e = some (.own x)) (k : ∀ b u, b ≠ e → s.heap.get? b = some u → h'.get? b = some u) (heo : ∃ u, h'.get? e = some u)
    (new : ObjOk X.prog X.w (upd H x o) h' x o) : Inv X pins σ (upd H x o) { s with heap := h', toks := t' } := I.un (Un.write mu he k heo) (I.hok.write mu he k heo new)

theorem Inv.pins_of {pins' : List (Addr × Obj)} (I : Inv X pins σ H s) (h : ∀ p ∈ pins', s.heap.get? p.1 = some p.2 ∧ H p.1 = none ∧ p.1 ≠ X.env.locals ∧ p.1 ∉ X.fs ∧ ∀ v, p.2.data ≠ .cell v) : Inv X pins' σ H s :=
  ⟨I.ok, I.os, I.bare, I.base, I.loc, I.cell, I.free, I.freeC, fun p hp => (List.mem_append.mp hp).elim (fun z => I.pin p (List.mem_append_left _ z)) (h p), I.hok, I.len⟩

theorem nodup_ix {N : List Str} (hN : N.Nodup) {i j : Nat} {x : Str} (a : N[i]? = some x) (b : N[j]? = some x) : i = j := by
  obtain ⟨h1, e1⟩ := List.getElem?_eq_some_iff.mp a
  obtain ⟨h2, e2⟩ := List.getElem?_eq_some_iff.mp b
  exact (List.getElem_inj hN).mp (e1.trans e2.symm)


theorem store_ok2 {M : Model} {A : Around} {E : Value → Shared → Prop} {i : Nat} {x : Str} {v : V} {u : Value} {Q : Unit → Shared → Prop} (I : Inv X pins σ H s) (hN : X.N.Nodup) (hi : X.N[i]? = some x) (hx : Loc X.env.scope x) (r : RelV v u)
    (h : ∀ s', Inv X pins (σ.set i (some v)) H s' → (∃ a, Heap.SameBut a s.heap s'.heap ∧ (a = X.env.locals ∨ X.env.cells.lookup x = some a)) → Q () s') (hf : X.fn x = true ∨ X.env.scope.names.lookup x = some .local := by first | exact .inl rfl | exact .inr rfl | assumption) : wpAny M A (storeName X.env x u) Q E s := by
  obtain ⟨m, hn, hl⟩ := id I.loc
  have hcls : (X.env.scope.kind == .class || (X.env.scope.kind == .module && X.env.locals != X.env.globals)) = false := by rw [I.ok.kind]; rfl
  have hiσ : i < σ.length := by rw [I.len]; exact (List.getElem?_eq_some_iff.mp hi).1
  have cne := I.cne
  have tracked : ∀ {a : Addr} {h' : Heap}, (∃ o, s.heap.get? a = some o ∧ H a = none) → Heap.SameBut a s.heap h' → HOk X.prog X.w H h' := fun {a h'} ha hs b ob e => by
    obtain ⟨_, _, hfree⟩ := ha
    refine (I.hok b ob e).stay (fun c w' hc q => (hs.2 c ?_).trans q) (fun _ q => q) fun _ _ q => q
    rintro rfl
    rcases hc with rfl | hc
    · rw [hfree] at e; cases e
    · rw [hfree] at hc; cases hc
  rcases hx with hk | hk
  · refine wpAny_storeName_local hk hn (fun h' hn' hs => ?_) hcls
    obtain ⟨oL, _, _, hoL, _⟩ := id hn
    refine h _ ⟨I.ok, I.os, I.bare, ⟨fun b o e n hb hx => ?_, fun b o e n hb hx => ?_, I.base.free, fun b o e hx => ?_, I.base.tups, I.base.frzs, I.base.tbls⟩, ⟨_, hn', fun j y v' e1 e2 e3 => ?_⟩, fun y c e => ?_, I.free, I.freeC, fun p hp => ?_, tracked ⟨oL, hoL, I.free⟩ hs, by simpa using I.len⟩ ⟨_, hs, .inl rfl⟩
    · exact (hs.2 b (Nat.ne_of_lt (Nat.lt_of_lt_of_le (Heap.lt_size e) I.ok.above))).trans (I.base.keep b o e n hb hx)
    · obtain ⟨sl, e1⟩ := I.base.slot b o e n hb hx
      exact ⟨sl, (hs.2 b (Nat.ne_of_lt (Nat.lt_of_lt_of_le (Heap.lt_size e) I.ok.above))).trans e1⟩
    · obtain ⟨o', e1⟩ := I.base.there b o e hx
      exact ⟨o', (hs.2 b (Nat.ne_of_lt (Nat.lt_of_lt_of_le (Heap.lt_size e) I.ok.above))).trans e1⟩
    · by_cases hj : j = i
      · subst hj
        rw [hi] at e1; cases e1
        rw [List.getElem?_set_self hiσ] at e2
        cases e2
        exact ⟨u, r, .inl ⟨hk, by simp⟩⟩
      · rw [List.getElem?_set_ne (Ne.symm hj)] at e2
        obtain ⟨u', r', q⟩ := hl j y v' e1 e2 e3
        refine ⟨u', r', ?_⟩
        rcases q with ⟨k, e⟩ | ⟨k, c, e, z⟩
        · refine .inl ⟨k, ?_⟩
          have : y ≠ x := fun e => hj (nodup_ix hN e1 (e ▸ hi))
          simp [this, e]
        · exact .inr ⟨k, c, e, z.sameBut hs (cne y c e)⟩
    · obtain ⟨w', z⟩ := I.cell y c e
      exact ⟨w', z.sameBut hs (cne y c e)⟩
    · obtain ⟨e, n, ne, nf, d⟩ := I.pin p hp
      exact ⟨(hs.2 p.1 ne).trans e, n, ne, nf, d⟩
  · have hfn : X.fn x = true := by
      rcases hf with z | z
      · exact z
      · rw [z] at hk; cases hk
    obtain ⟨c, hc⟩ := I.ok.has x (.inl hk)
    obtain ⟨w', z⟩ := I.cell x c hc
    refine wpAny_storeName_cell I.ok.kind hk hc z (fun h' hc' hs => ?_)
    obtain ⟨oc, hoc, hocd⟩ := id z
    refine h { s with heap := h' } ⟨I.ok, I.os, I.bare, ⟨fun b o e n hb hx => ?_, fun b o e n hb hx => ?_, I.base.free, fun b o e hx => ?_, I.base.tups, I.base.frzs, I.base.tbls⟩, ⟨m, hn.sameBut hs (Ne.symm (cne x c hc)), fun j y v' e1 e2 e3 => ?_⟩, fun y c' e => ?_, I.free, I.freeC, fun p hp => ?_, tracked ⟨oc, hoc, I.freeC x c hc⟩ hs, by simpa using I.len⟩ ⟨c, hs, .inr hc⟩
    · exact (hs.2 b (Nat.ne_of_lt (Nat.lt_of_lt_of_le (Heap.lt_size e) (I.ok.cab x c hfn hc)))).trans (I.base.keep b o e n hb hx)
    · obtain ⟨sl, e1⟩ := I.base.slot b o e n hb hx
      exact ⟨sl, (hs.2 b (Nat.ne_of_lt (Nat.lt_of_lt_of_le (Heap.lt_size e) (I.ok.cab x c hfn hc)))).trans e1⟩
    · obtain ⟨o', e1⟩ := I.base.there b o e hx
      exact ⟨o', (hs.2 b (Nat.ne_of_lt (Nat.lt_of_lt_of_le (Heap.lt_size e) (I.ok.cab x c hfn hc)))).trans e1⟩
    · by_cases hj : j = i
      · subst hj
        rw [hi] at e1; cases e1
        rw [List.getElem?_set_self hiσ] at e2
        cases e2
        exact ⟨u, r, .inr ⟨.inl hk, c, hc, hc'⟩⟩
      · rw [List.getElem?_set_ne (Ne.symm hj)] at e2
        obtain ⟨u', r', q⟩ := hl j y v' e1 e2 e3
        refine ⟨u', r', ?_⟩
        rcases q with q | ⟨k, c', e, z'⟩
        · exact .inl q
        · refine .inr ⟨k, c', e, z'.sameBut hs ?_⟩
          rintro rfl
          exact hj (nodup_ix hN e1 (I.ok.inj _ _ _ e hc ▸ hi))
    · by_cases hcc : c' = c
      · subst hcc; exact ⟨_, hc'⟩
      · obtain ⟨w2, z2⟩ := I.cell y c' e
        exact ⟨w2, z2.sameBut hs hcc⟩
    · obtain ⟨e, n, ne, nf, d⟩ := I.pin p hp
      refine ⟨(hs.2 p.1 ?_).trans e, n, ne, nf, d⟩
      intro q
      rw [q, hoc] at e
      have q' : oc = p.2 := Option.some.inj e
      exact d w' (by rw [← q']; exact hocd)
theorem store_ok {M : Model} {A : Around} {E : Value → Shared → Prop} {i : Nat} {x : Str} {v : V} {u : Value} {Q : Unit → Shared → Prop} (I : Inv X pins σ H s) (hN : X.N.Nodup) (hi : X.N[i]? = some x) (hx : Loc X.env.scope x) (r : RelV v u)
    (h : ∀ s', Inv X pins (σ.set i (some v)) H s' → Q () s') (hf : X.fn x = true ∨ X.env.scope.names.lookup x = some .local := by first | exact .inl rfl | exact .inr rfl | assumption) : wpAny M A (storeName X.env x u) Q E s :=
  store_ok2 I hN hi hx r (fun s' I' _ => h s' I') hf

theorem Inv.call' {s' : Shared} {ch : List Addr} (I : Inv X pins σ H s) (ho : s'.os = s.os) (u : Un (frs X.stack) ch H H' s.heap s'.heap) (hok : HOk X.prog X.w H' s'.heap) (hg : AllBare s'.gens)
    (hch : ∀ b ∈ ch, (b ∈ X.ex ∨ X.s₀.heap.objs.size ≤ b) ∧ b ≠ X.env.locals ∧ (∀ x c, X.env.cells.lookup x = some c → c ≠ b) ∧ ∀ p ∈ X.pn ++ pins, p.1 ≠ b) : Inv X pins σ H' s' := by
  obtain ⟨h', g', d', t', o'⟩ := s'
  have e : o' = s.os := ho
  subst e
  exact I.call (g' := g') (t' := t') (d' := d') u hok hg hch
end



abbrev XK := Value → Option Addr → Hp → Prop
abbrev St := List (Option V)
abbrev VK := V → Hp → Prop

abbrev TE := St → Hp → VK → Prop
abbrev TT := St → Hp → (Bool → Hp → Prop) → Prop
abbrev TA := St → Hp → (List V → Hp → Prop) → Prop

structure Ends where
  nx : St → Hp → Prop
  rt : VK
  bk : St → Hp → Prop := fun _ _ => False
  ct : St → Hp → Prop := fun _ _ => False
abbrev TS := Ends → St → Hp → Prop

def EP (X : Cx) (pins : List (Addr × Obj)) (σ : St) (Q : VK) (u : Value) (s' : Shared) : Prop := ∃ v H', Inv X pins σ H' s' ∧ RelV v u ∧ Q v H'
def TP (X : Cx) (pins : List (Addr × Obj)) (σ : St) (Q : Bool → Hp → Prop) (b : Bool) (s' : Shared) : Prop := ∃ H', Inv X pins σ H' s' ∧ Q b H'
def AP (X : Cx) (pins : List (Addr × Obj)) (σ : St) (Q : List V → Hp → Prop) (us : List Value) (s' : Shared) : Prop := ∃ vs H', Inv X pins σ H' s' ∧ Vals vs us ∧ Q vs H'
def SP (X : Cx) (pins : List (Addr × Obj)) (D : Ends) (f : Flow) (s' : Shared) : Prop :=
  match f with
  | .next => ∃ σ' H', Inv X pins σ' H' s' ∧ D.nx σ' H'
  | .brk => ∃ σ' H', Inv X pins σ' H' s' ∧ D.bk σ' H'
  | .cont => ∃ σ' H', Inv X pins σ' H' s' ∧ D.ct σ' H'
  | .ret u => ∃ v σ' H', Inv X pins σ' H' s' ∧ RelV v u ∧ D.rt v H'

def PE (X : Cx) (e : Expr) (t : TE) : Prop :=
  ∀ (pins : List (Addr × Obj)) (s : Shared) (σ : St) (H : Hp) (Q : VK), Inv X pins σ H s → t σ H Q → wpAny (model X.prog X.w) X.A (eval e X.env) (EP X pins σ Q) X.xe s
def PT (X : Cx) (e : Expr) (t : TT) : Prop :=
  ∀ (pins : List (Addr × Obj)) (s : Shared) (σ : St) (H : Hp) (Q : Bool → Hp → Prop), Inv X pins σ H s → t σ H Q → wpAny (model X.prog X.w) X.A (isTrue e X.env (eval e X.env)) (TP X pins σ Q) X.xe s

def PW (X : Cx) (e : Expr) (t : TT) : Prop :=
  ∀ (whole : Sem Value) (pins : List (Addr × Obj)) (s : Shared) (σ : St) (H : Hp) (Q : Bool → Hp → Prop), Inv X pins σ H s → t σ H Q → wpAny (model X.prog X.w) X.A (isTrue e X.env whole) (TP X pins σ Q) X.xe s
theorem PW.pt {X : Cx} {e : Expr} {t : TT} (h : PW X e t) : PT X e t := h _

def PA (X : Cx) (es : List Expr) (t : TA) : Prop :=
  ∀ (pos : Pos) (pins : List (Addr × Obj)) (s : Shared) (σ : St) (H : Hp) (Q : List V → Hp → Prop), Inv X pins σ H s → t σ H Q → wpAny (model X.prog X.w) X.A (spliced (backTo pos (starEach es X.env))) (AP X pins σ Q) X.xe s
def PS (X : Cx) (st : Stmt) (t : TS) : Prop :=
  ∀ (pins : List (Addr × Obj)) (s : Shared) (σ : St) (H : Hp) (D : Ends), Inv X pins σ H s → t D σ H → wpAny (model X.prog X.w) X.A (exec st X.env) (SP X pins D) X.xe s
def PSs (X : Cx) (st : List Stmt) (t : TS) : Prop :=
  ∀ (pins : List (Addr × Obj)) (s : Shared) (σ : St) (H : Hp) (D : Ends), Inv X pins σ H s → t D σ H → wpAny (model X.prog X.w) X.A (execs st X.env) (SP X pins D) X.xe s

theorem thn {α : Type} {t : Sem α} {Q Q' : α → Shared → Prop} {M : Model} {A : Around} {E : Value → Shared → Prop} {s : Shared} (h : wpAny M A t Q E s) (hQ : ∀ a s, Q a s → Q' a s) : wpAny M A t Q' E s := wpAny_mono h hQ fun _ _ x => x
end L2

namespace L2
open PySem PySem.Spec PyProof.Rows
section
variable {X : Cx}


def tVar (i : Nat) : TE := fun σ H Q => ∃ v, σ[i]? = some (some v) ∧ Q v H
def tC (v : V) : TE := fun _ H Q => Q v H
theorem pe_var {i : Nat} {x : Str} {pos : Pos} (hN : X.N[i]? = some x) (hv : Vis X.env.scope x) (hd : (x == ("__debug__" : Str)) = false := by decide) (hcd : (x == ("__classdict__" : Str)) = false := by decide) : PE X (.Name x pos) (tVar i) := by
  intro pins s σ H Q I h
  obtain ⟨v, e, h⟩ := h
  obtain ⟨m, hn, hl⟩ := I.loc
  obtain ⟨u, r, l⟩ := hl i x v hN e hv
  have fin : EP X pins σ Q u s := ⟨v, H, I, r, h⟩
  rcases l with ⟨hk, hm⟩ | ⟨hk, c, hc, hcell⟩
  · exact wpAny_Name (wpAny_loadName_local I.ok.kind hk hn hm fin) hd
  · rcases hk with hk | hk
    · exact wpAny_Name (wpAny_loadName_cell I.ok.kind hk hc hcell fin) hd
    · exact wpAny_Name (wpAny_loadName_free I.ok.kind hk hc hcell fin hcd) hd
theorem pe_int {i j pos} : PE X (.Constant (.int i) j pos) (tC (.int i)) := fun _ _ _ H _ I h => wpAny_Constant_int ⟨.int i, H, I.tok _, ⟨_, rfl⟩, h⟩
theorem pe_bl {b j pos} : PE X (.Constant (.bool b) j pos) (tC (.bl b)) := fun _ _ _ H _ I h => Constant_bool ⟨.bl b, H, I, rfl, h⟩
def Gl (X : Cx) (x : Str) : Prop := X.env.kindOf x = some .globalImplicit
theorem ld_glob {E : Value → Shared → Prop} {pins : List (Addr × Obj)} {s : Shared} {σ : St} {H : Hp} {x : Str} {u : Value} {pos : Pos} {Q : Value → Shared → Prop} (I : Inv X pins σ H s) (hg : Gl X x) (hm : X.mg x = some u) (h : Q u s)
    (hd : (x == ("__debug__" : Str)) = false := by decide) : wpAny (model X.prog X.w) X.A (eval (.Name x pos) X.env) Q E s :=
  Calls.Name_function_global I.ok.kind hg (Calls.loadGlobal_global (by rw [I.ok.glob]; exact I.mod.glob.keeps I.bk) hm h) hd
theorem ld_blt {E : Value → Shared → Prop} {pins : List (Addr × Obj)} {s : Shared} {σ : St} {H : Hp} {x : Str} {u : Value} {pos : Pos} {Q : Value → Shared → Prop} (I : Inv X pins σ H s) (hg : Gl X x) (hm : X.mg x = none) (hv : bootBuiltins x = some u) (h : Q u s)
    (hn : x ≠ "__name__" := by decide) (hd : (x == ("__debug__" : Str)) = false := by decide) : wpAny (model X.prog X.w) X.A (eval (.Name x pos) X.env) Q E s := by
  obtain ⟨mb, h1, h2⟩ := I.mod.blt
  exact Calls.Name_function_global I.ok.kind hg (Calls.loadGlobal_builtin (by rw [I.ok.glob]; exact I.mod.glob.keeps I.bk) hm (by rw [I.ok.blt]; exact h1.keeps I.bk) ((h2 x hn).trans hv) h) hd

theorem pe_glob {x : Str} {v : V} {u : Value} {pos : Pos} (hg : Gl X x) (hm : X.mg x = some u) (r : RelV v u) (hd : (x == ("__debug__" : Str)) = false := by decide) : PE X (.Name x pos) (tC v) :=
  fun _ _ _ H _ I h => ld_glob I hg hm ⟨v, H, I, r, h⟩ hd
theorem pe_bltn {x : Str} {v : V} {u : Value} {pos : Pos} (hg : Gl X x) (hm : X.mg x = none) (hv : bootBuiltins x = some u) (r : RelV v u) (hn : x ≠ "__name__" := by decide) (hd : (x == ("__debug__" : Str)) = false := by decide) : PE X (.Name x pos) (tC v) :=
  fun _ _ _ H _ I h => ld_blt I hg hm hv ⟨v, H, I, r, h⟩ hn hd



variable {a b : Expr} {ta tb : TE} {pos : Pos}
def tB (t : TE) : TT := fun σ H Q => t σ H fun x H1 => ∃ c, x = .bl c ∧ Q c H1
theorem pt_val {e : Expr} {t : TE} (h : PE X e t) (he : ∀ whole, isTrue e X.env whole = (do let v ← whole; standAt e.pos; holding [v] (truthy v)) := by intro _; rfl) : PT X e (tB t) := by
  intro pins s σ H Q I hw
  refine isTrue_plain (thn (h pins s σ H _ I hw) fun v s1 ⟨x, H1, I1, r1, q1⟩ => ?_) (he _)
  obtain ⟨d, rfl, q⟩ := q1
  cases r1
  exact wpAny_truthy_bool ⟨H1, I1, q⟩


variable {tA tB' : TT} {rest : List Expr}
def tAnd (t u : TT) : TT := fun σ H Q => t σ H fun c H1 => if c = true then u σ H1 Q else Q false H1
def tOr (t u : TT) : TT := fun σ H Q => t σ H fun c H1 => if c = true then Q true H1 else u σ H1 Q
def tNot (t : TT) : TT := fun σ H Q => t σ H fun c H1 => Q (!c) H1
theorem pw_and1 (ha : PT X a tA) : PW X (.BoolOp .And [a] pos) tA := by
  intro wh pins s σ H Q I h
  refine isTrue_and (thn (ha pins s σ H Q I h) fun c s1 e => ?_)
  cases c with
  | true => exact isTrue_and_nil e
  | false => exact e
theorem pw_or1 (ha : PT X a tA) : PW X (.BoolOp .Or [a] pos) tA := by
  intro wh pins s σ H Q I h
  refine isTrue_or (thn (ha pins s σ H Q I h) fun c s1 e => ?_)
  cases c with
  | false => exact isTrue_or_nil e
  | true => exact e
theorem pw_and (ha : PT X a tA) (hb : PW X (.BoolOp .And (b :: rest) pos) tB') : PW X (.BoolOp .And (a :: b :: rest) pos) (tAnd tA tB') := by
  intro wh pins s σ H Q I h
  refine isTrue_and (thn (ha pins s σ H _ I h) fun c s1 ⟨H1, I1, q1⟩ => ?_)
  cases c with
  | true => exact hb wh pins s1 σ H1 Q I1 q1
  | false => exact ⟨H1, I1, q1⟩
theorem pw_or (ha : PT X a tA) (hb : PW X (.BoolOp .Or (b :: rest) pos) tB') : PW X (.BoolOp .Or (a :: b :: rest) pos) (tOr tA tB') := by
  intro wh pins s σ H Q I h
  refine isTrue_or (thn (ha pins s σ H _ I h) fun c s1 ⟨H1, I1, q1⟩ => ?_)
  cases c with
  | true => exact ⟨H1, I1, q1⟩
  | false => exact hb wh pins s1 σ H1 Q I1 q1
theorem pt_not (ha : PT X a tA) : PT X (.UnaryOp .Not a pos) (tNot tA) := by
  intro pins s σ H Q I h
  exact isTrue_not (ha pins s σ H (fun c H1 => Q (!c) H1) I h)

def tAndV (ta tb : TE) : TE := fun σ H Q => ta σ H fun x H1 => ∃ c, x = .bl c ∧ if c = true then tb σ H1 Q else Q (.bl false) H1
def tNotV (ta : TE) : TE := fun σ H Q => ta σ H fun x H1 => ∃ c, x = .bl c ∧ Q (.bl (!c)) H1
theorem pe_one {op} {t : TE} (h : PE X a t) : PE X (.BoolOp op [a] pos) t := fun pins s σ H Q I hw => BoolOp_one (h pins s σ H Q I hw)
theorem pe_and (ha : PE X a ta) (hb : PE X (.BoolOp .And (b :: rest) pos) tb) : PE X (.BoolOp .And (a :: b :: rest) pos) (tAndV ta tb) := by
  intro pins s σ H Q I h
  refine BoolOp_and (thn (ha pins s σ H _ I h) fun v s1 ⟨x, H1, I1, r1, q1⟩ => ?_)
  obtain ⟨c, rfl, q1⟩ := q1
  cases r1
  refine wpAny_truthy_bool ?_
  cases c with
  | true => exact hb pins s1 σ H1 Q I1 q1
  | false => exact ⟨.bl false, H1, I1, rfl, q1⟩
theorem pe_not (ha : PE X a ta) : PE X (.UnaryOp .Not a pos) (tNotV ta) := by
  intro pins s σ H Q I h
  refine UnaryOp_ (thn (ha pins s σ H _ I h) fun v s1 ⟨x, H1, I1, r1, q1⟩ => ?_)
  obtain ⟨c, rfl, q1⟩ := q1
  cases r1
  exact not_of (wpAny_truthy_bool ⟨.bl (!c), H1, I1, rfl, q1⟩)

def tIf (t : TT) (ta tb : TE) : TE := fun σ H Q => t σ H fun c H1 => if c = true then ta σ H1 Q else tb σ H1 Q
theorem pe_ifExp {c : Expr} (hc : PT X c tA) (ha : PE X a ta) (hb : PE X b tb) : PE X (.IfExp c a b pos) (tIf tA ta tb) := by
  intro pins s σ H Q I h
  refine wpAny_IfExp (thn (hc pins s σ H _ I h) fun d s1 ⟨H1, I1, q1⟩ => ?_)
  cases d with
  | true => exact ha pins s1 σ H1 Q I1 q1
  | false => exact hb pins s1 σ H1 Q I1 q1
end
end L2

namespace L2
open PySem PySem.Spec PyProof.Rows


def SqL (K : PySem.W.Frag) (H : Hp) (a : Addr) (xs : List V) : Prop :=
  Rd H a (.lst xs) ∨
    ∃ (o : Obj) (its : Array Value) (n : Nat), K.lookup a = some o ∧ o.cls = .type "list" ∧ o.dict = none ∧ o.data = .seq its n ∧ its.size ≤ sizeLine ∧ Vals xs its.toList
def SqT (K : PySem.W.Frag) (H : Hp) (a : Addr) (xs : List V) : Prop :=
  Rd H a (.tup xs) ∨
    ∃ (o : Obj) (its : Array Value) (n : Nat), K.lookup a = some o ∧ o.cls = .type "tuple" ∧ o.data = .seq its n ∧ its.size ≤ sizeLine ∧ Vals xs its.toList
def absV : Value → Option V
  | .none => some .non
  | .bool b => some (.bl b)
  | .int i _ => some (.int i)
  | .str x _ => some (.str x)
  | .bytes b _ => some (.byt b)
  | .float b _ => some (.flt b)
  | .ref a => some (.ref a)
  | .type n => some (.ty n)
  | _ => none
theorem RelV.abs {x : V} {u : Value} (r : RelV x u) : absV u = some x := by
  cases x with
  | non => cases r; rfl
  | bl _ => cases r; rfl
  | int _ => obtain ⟨t, rfl⟩ := r; rfl
  | str _ => obtain ⟨t, rfl⟩ := r; rfl
  | byt _ => obtain ⟨t, rfl⟩ := r; rfl
  | flt _ => obtain ⟨t, rfl⟩ := r; rfl
  | ref _ => cases r; rfl
  | ty _ => cases r; rfl
theorem RelV.inj {x y : V} {u : Value} (r : RelV x u) (q : RelV y u) : x = y := Option.some.inj (r.abs.symm.trans q.abs)
theorem Vals.inj : ∀ {xs ys : List V} {us : List Value}, Vals xs us → Vals ys us → xs = ys
  | _, _, _, .nil, .nil => rfl
  | _, _, _, .cons r t, .cons r' t' => by rw [r.inj r', Vals.inj t t']
section
variable {X : Cx} {pins : List (Addr × Obj)} {σ : St} {H : Hp} {s : Shared} {a : Addr} {xs ys : List V}
theorem SqL.of {K : PySem.W.Frag} (h : H a = some (.lst xs)) : SqL K H a xs := .inl (.inl h)
theorem SqT.of {K : PySem.W.Frag} (h : H a = some (.tup xs)) : SqT K H a xs := .inl (.inl h)
theorem Inv.list (I : Inv X pins σ H s) (h : SqL X.K H a xs) : ∃ its : List Value, Vals xs its ∧ PlainL s.heap a its.toArray ∧ xs.length ≤ sizeLine := by
  rcases h with h | ⟨o, its, n, hk, hc, hd, hs, hz, r⟩
  · obtain ⟨z, its, n, r, e⟩ := h.ok I.hok
    exact ⟨its, r, ⟨_, n, e, rfl, rfl, rfl⟩, z⟩
  · refine ⟨its.toList, r, ⟨o, n, I.kIn a o hk, hc, hd, by simpa using hs⟩, ?_⟩
    have e := r.length
    simp only [Array.length_toList] at e
    omega
theorem Inv.tuple (I : Inv X pins σ H s) (h : SqT X.K H a xs) : ∃ its : List Value, Vals xs its ∧ IsTup s.heap a its.toArray ∧ xs.length ≤ sizeLine := by
  rcases h with h | ⟨o, its, n, hk, hc, hs, hz, r⟩
  · obtain ⟨z, its, r, p⟩ := h.ok I.hok
    exact ⟨its, r, p, z⟩
  · refine ⟨its.toList, r, ⟨o, I.kIn a o hk, hc, n, by simpa using hs⟩, ?_⟩
    have e := r.length
    simp only [Array.length_toList] at e
    omega
theorem Inv.list_inj (I : Inv X pins σ H s) (h : SqL X.K H a xs) (h' : SqL X.K H a ys) : xs = ys := by
  obtain ⟨its, r, ⟨o, n, e, _, _, d⟩, _⟩ := I.list h
  obtain ⟨its', r', ⟨o', n', e', _, _, d'⟩, _⟩ := I.list h'
  rw [e] at e'; cases e'
  rw [d] at d'
  injection d' with d1 _
  have : its = its' := by simpa using congrArg Array.toList d1
  subst this
  exact r.inj r'
theorem Inv.tuple_inj (I : Inv X pins σ H s) (h : SqT X.K H a xs) (h' : SqT X.K H a ys) : xs = ys := by
  obtain ⟨its, r, ⟨o, e, _, n, d⟩, _⟩ := I.tuple h
  obtain ⟨its', r', ⟨o', e', _, n', d'⟩, _⟩ := I.tuple h'
  rw [e] at e'; cases e'
  rw [d] at d'
  injection d' with d1 _
  have : its = its' := by simpa using congrArg Array.toList d1
  subst this
  exact r.inj r'
end


abbrev Cx.wish (X : Cx) (E : Value → Shared → Prop) : Cx := { X with xe := E }

abbrev Cx.nox (X : Cx) : Cx := X.wish fun _ _ => False
theorem Cx.Ok.wish {X : Cx} (ok : X.Ok) (E : Value → Shared → Prop) : (X.wish E).Ok :=
  ⟨ok.mod, ok.kind, ok.glob, ok.blt, ok.above, ok.inj, ok.has, ok.cab, ok.hd, ok.frames, ok.stk, ok.exf, ok.bs, ok.bsz, ok.noex, ok.exfs, ok.funs, ok.frf⟩
theorem Cx.Ok.unwish {X : Cx} {E : Value → Shared → Prop} (ok : (X.wish E).Ok) : X.Ok :=
  ⟨ok.mod, ok.kind, ok.glob, ok.blt, ok.above, ok.inj, ok.has, ok.cab, ok.hd, ok.frames, ok.stk, ok.exf, ok.bs, ok.bsz, ok.noex, ok.exfs, ok.funs, ok.frf⟩
section
variable {X : Cx} {pins : List (Addr × Obj)} {σ : St} {H : Hp} {s : Shared} {E : Value → Shared → Prop}
theorem Inv.wish (I : Inv X pins σ H s) (E : Value → Shared → Prop) : Inv (X.wish E) pins σ H s := ⟨I.ok.wish E, I.os, I.bare, I.base, I.loc, I.cell, I.free, I.freeC, I.pin, I.hok, I.len⟩
theorem Inv.unwish (I : Inv (X.wish E) pins σ H s) : Inv X pins σ H s := ⟨I.ok.unwish, I.os, I.bare, I.base, I.loc, I.cell, I.free, I.freeC, I.pin, I.hok, I.len⟩
theorem SP.unwish {D : Ends} {f : Flow} {s' : Shared} (h : SP (X.wish E) pins D f s') : SP X pins D f s' := by
  cases f with
  | next => obtain ⟨σ', H', I, q⟩ := h; exact ⟨σ', H', I.unwish, q⟩
  | brk => obtain ⟨σ', H', I, q⟩ := h; exact ⟨σ', H', I.unwish, q⟩
  | cont => obtain ⟨σ', H', I, q⟩ := h; exact ⟨σ', H', I.unwish, q⟩
  | ret u => obtain ⟨v, σ', H', I, r, q⟩ := h; exact ⟨v, σ', H', I.unwish, r, q⟩
theorem PSs.nox {st : List Stmt} {t : TS} (h : PSs X.nox st t) : PSs X st t := fun pins s σ H D I hw =>
  wpAny_mono (h pins s σ H D (I.wish _) hw) (fun _ _ q => q.unwish) fun _ _ z => False.elim z
end


section
variable {X : Cx} {st : Stmt} {rest : List Stmt} {t u : TS} {e : Expr} {te : TE} {pos : Pos}
def tNext : TS := fun D σ H => D.nx σ H
def tSeq (t u : TS) : TS := fun D σ H => t { D with nx := u D } σ H
theorem pss_nil : PSs X [] tNext := fun _ _ σ H _ I h => wpAny_execs_nil ⟨σ, H, I, h⟩
theorem pss_cons (h1 : PS X st t) (h2 : PSs X rest u) : PSs X (st :: rest) (tSeq t u) := by
  intro pins s σ H D I h
  refine wpAny_execs_cons (thn (h1 pins s σ H { D with nx := u D } I h) fun f s1 q => ?_)
  cases f with
  | next =>
    obtain ⟨σ', H', I', q⟩ := q
    exact h2 pins s1 σ' H' D I' q
  | ret v => exact q
  | brk => exact q
  | cont => exact q
theorem pss_one (h1 : PS X st t) : PSs X [st] t := by
  intro pins s σ H D I h
  refine wpAny_execs_cons (thn (h1 pins s σ H D I h) fun f s1 q => ?_)
  cases f with
  | next => exact wpAny_execs_nil q
  | ret v => exact q
  | brk => exact q
  | cont => exact q
theorem Inv.quiet {pins : List (Addr × Obj)} {σ : St} {H : Hp} {s : Shared} (I : Inv X pins σ H s) : interactive X.env = false := by simp [interactive, I.ok.kind]

def tDrop (te : TE) : TS := fun D σ H => te σ H fun _ H1 => D.nx σ H1
theorem ps_expr (he : PE X e te) (hs : swapsWith e none pos.line X.env = pure false := by rfl) : PS X (.Expr e pos) (tDrop te) := by
  intro pins s σ H D I h
  exact wpAny_Expr_any (thn (he pins s σ H _ I h) fun v s1 ⟨x, H1, I1, r1, q1⟩ => ⟨σ, H1, I1, q1⟩) I.quiet hs
def tRet (te : TE) : TS := fun D σ H => te σ H D.rt
theorem ps_ret (he : PE X e te) : PS X (.Return (some e) pos) (tRet te) := by
  intro pins s σ H D I h
  exact wpAny_Return_some (thn (he pins s σ H _ I h) fun v s1 ⟨x, H1, I1, r1, q1⟩ => ⟨x, σ, H1, I1, r1, q1⟩)
def tIfS (c : TT) (t u : TS) : TS := fun D σ H => c σ H fun b H1 => if b = true then t D σ H1 else u D σ H1
theorem ps_if {c : Expr} {a b : List Stmt} {tc : TT} (hc : PT X c tc) (ha : PSs X a t) (hb : PSs X b u) : PS X (.If c a b pos) (tIfS tc t u) := by
  intro pins s σ H D I h
  refine wpAny_If (thn (hc pins s σ H _ I h) fun d s1 ⟨H1, I1, q1⟩ => ?_)
  cases d with
  | true => exact ha pins s1 σ H1 D I1 q1
  | false => exact hb pins s1 σ H1 D I1 q1

def tNever : TS := fun _ _ _ => False
theorem pss_never {sts : List Stmt} : PSs X sts tNever := fun _ _ _ _ _ _ h => h.elim
end


abbrev TG := V → St → Hp → (St → Hp → Prop) → Prop
abbrev TGs := List V → St → Hp → (St → Hp → Prop) → Prop
def PG (X : Cx) (target : Expr) (t : TG) : Prop :=
  ∀ (pins : List (Addr × Obj)) (s : Shared) (σ : St) (H : Hp) (v : V) (u : Value) (Q : St → Hp → Prop), Inv X pins σ H s → RelV v u → t v σ H Q →
    wpAny (model X.prog X.w) X.A (assign target X.env u) (fun _ s' => ∃ σ' H', Inv X pins σ' H' s' ∧ Q σ' H') X.xe s

def PGs (X : Cx) (ts : List Expr) (t : TGs) : Prop :=
  ∀ (pins : List (Addr × Obj)) (s : Shared) (σ : St) (H : Hp) (vs : List V) (us : List Value) (Q : St → Hp → Prop), Inv X pins σ H s → Vals vs us → t vs σ H Q →
    wpAny (model X.prog X.w) X.A (assignInOrder ((assignEach ts X.env).map (·.2)) us) (fun _ s' => ∃ σ' H', Inv X pins σ' H' s' ∧ Q σ' H') X.xe s

section
variable {X : Cx} {pos : Pos}
def gName (i : Nat) : TG := fun v σ H Q => Q (σ.set i (some v)) H
theorem pg_name {i : Nat} {x : Str} (hN : X.N.Nodup) (hi : X.N[i]? = some x) (hx : Loc X.env.scope x) (hf : X.fn x = true ∨ X.env.scope.names.lookup x = some .local := by first | exact .inl rfl | exact .inr rfl | assumption) : PG X (.Name x pos) (gName i) := by
  intro pins s σ H v u Q I r h
  exact wpAny_assign_Name (store_ok I hN hi hx r (fun s' I' => ⟨_, H, I', h⟩) hf)
def gNil : TGs := fun vs σ H Q => vs = [] ∧ Q σ H
def gCons (t : TG) (u : TGs) : TGs := fun vs σ H Q => ∃ v r, vs = v :: r ∧ t v σ H fun σ' H' => u r σ' H' Q
theorem pgs_nil : PGs X [] gNil := by
  intro pins s σ H vs us Q I r h
  obtain ⟨e, h⟩ := h
  subst e
  cases r
  exact assignInOrder_nil ⟨σ, H, I, h⟩
theorem pgs_cons {e : Expr} {es : List Expr} {t : TG} {u : TGs} (h1 : PG X e t) (h2 : PGs X es u)
    (hs : (assignEach (e :: es) X.env).map (·.2) = assign e X.env :: (assignEach es X.env).map (·.2) := by rfl) : PGs X (e :: es) (gCons t u) := by
  intro pins s σ H vs us Q I r h
  obtain ⟨v, vr, e1, h⟩ := h
  subst e1
  cases r with
  | cons r rr =>
    rw [hs]
    refine assignInOrder_cons (thn (h1 pins s σ H _ _ _ I r h) fun _ s1 ⟨σ1, H1, I1, q1⟩ => ?_)
    exact h2 pins s1 σ1 H1 _ _ Q I1 rr q1

def gTup (K : PySem.W.Frag) (n : Nat) (t : TGs) : TG := fun v σ H Q => ∃ a xs, v = .ref a ∧ SqT K H a xs ∧ xs.length = n ∧ t xs σ H Q
theorem pg_tup {es : List Expr} {k : Nat} {t : TGs} {n : Nat} (hc : X.calm = true) (h : PGs X es t)
    (hn : (assignEach es X.env).length = n := by rfl) (hst : (assignEach es X.env).findIdx? (·.1) = none := by rfl) : PG X (.Tuple es k pos) (gTup X.K n t) := by
  intro pins s σ H v u Q I r hw
  obtain ⟨a, xs, e1, hq, hl, hw⟩ := hw
  subst e1
  cases r
  obtain ⟨its, rv, ht, hz⟩ := I.tuple hq
  refine assign_Tuple_tuple (I.ok.hd hc) ht (by simp [hn, ← hl, rv.length]) hst fun h' hx => ?_
  have I1 : Inv X pins σ H { s with heap := h' } := I.kept (t' := s.toks) fun b o e => hx b o (Nat.ne_of_lt (Heap.lt_size e)) e
  exact h pins _ σ H xs _ Q I1 (by simpa using rv) hw

def tAsg (te : TE) (g : TG) : TS := fun D σ H => te σ H fun x H1 => g x σ H1 D.nx
theorem ps_asg {tg e : Expr} {te : TE} {g : TG} (he : PE X e te) (hg : PG X tg g) (hs : swapsWithSole [tg] e pos.line X.env = pure false := by rfl) (hw : swappedStores [tg] e X.env = pure none := by rfl)
    (h1 : (assignEach [tg] X.env).map (·.2) = [assign tg X.env] := by rfl) : PS X (.Assign [tg] e pos) (tAsg te g) := by
  intro pins s σ H D I h
  refine wpAny_Assign_stores (thn (he pins s σ H _ I h) fun v s1 ⟨x, H1, I1, r1, q1⟩ => ?_) hs hw
  rw [h1]
  exact thn (hg pins s1 σ H1 x v _ I1 r1 q1) fun _ s2 q => q

theorem ps_set {i : Nat} {x : Str} {e : Expr} {te : TE} {pos' : Pos} (hN : X.N.Nodup) (hi : X.N[i]? = some x) (hx : Loc X.env.scope x) (he : PE X e te) (hs : swapsWith e (some (.Name x pos')) pos.line X.env = pure false := by rfl) (hf : X.fn x = true ∨ X.env.scope.names.lookup x = some .local := by first | exact .inl rfl | exact .inr rfl | assumption) :
    PS X (.Assign [.Name x pos'] e pos) (tAsg te (gName i)) := by
  intro pins s σ H D I h
  refine wpAny_Assign_Name (thn (he pins s σ H _ I h) fun v s1 ⟨y, H1, I1, r1, q1⟩ => ?_) hs
  exact store_ok I1 hN hi hx r1 (fun s2 I2 => ⟨_, H1, I2, q1⟩) hf

end


section
variable {X : Cx} {pos : Pos}

end



structure It where
  go : Nat → Hp → Prop
  yld : Nat → Hp → V → Hp → Prop
  stop : Nat → Hp → Prop

def FpOk (X : Cx) (pins : List (Addr × Obj)) (H : Hp) (b : Addr) : Prop :=
  H b = none ∧ b ≠ X.env.locals ∧ b ∉ X.fs ∧ (b ∈ X.ex ∨ X.s₀.heap.objs.size ≤ b) ∧ (∀ x c, X.env.cells.lookup x = some c → c ≠ b) ∧ ∀ p ∈ X.pn ++ pins, p.1 ≠ b
theorem Inv.fpOk {X : Cx} {pins : List (Addr × Obj)} {σ : St} {H H' : Hp} {s : Shared} {b : Addr} (I : Inv X pins σ H s) (hb : s.heap.objs.size ≤ b) (hn : H' b = none) : FpOk X pins H' b := by
  refine ⟨hn, Nat.ne_of_gt (Nat.lt_of_lt_of_le I.lt hb), I.nofs hb, .inr (Nat.le_trans I.sz hb), fun x c e z => ?_, fun p hp z => ?_⟩
  · obtain ⟨v, q⟩ := I.cell x c e
    exact absurd (Nat.lt_of_lt_of_le q.lt (by rw [z]; exact hb)) (Nat.lt_irrefl _)
  · exact absurd (Nat.lt_of_lt_of_le (Heap.lt_size (I.pin p hp).1) (by rw [z]; exact hb)) (Nat.lt_irrefl _)
structure Turn (P : Program) (w : World) (K : PySem.W.Frag) (tg : Expr) (J : It) (fp : List Addr) (it : Addr) (tn : Nat → Heap → Prop) : Prop where
  mem : it ∈ fp
  obj : ∀ i h, tn i h → ∀ b ∈ fp, ∃ o, h.get? b = some o ∧ ∀ v, o.data ≠ .cell v
  keep : ∀ i h h', tn i h → (∀ b ∈ fp, ∀ o, h.get? b = some o → h'.get? b = some o) → tn i h'
  item : ∀ (X : Cx), X.prog = P → X.w = w → X.K = K → X.calm = true → ∀ (i : Nat) (pins : List (Addr × Obj)) (s : Shared) (σ : St) (H : Hp) (E : Value → Shared → Prop), Inv X pins σ H s → (∀ b ∈ fp, FpOk X pins H b) → tn i s.heap → J.go i H →
    wpAny (model P w) X.A (pyNext (.ref it)) (fun r s1 => ∃ u, r = some u ∧
      wpAny (model P w) X.A (letOwnedTupleGo tg (.ref it) u) (fun _ s2 => ∃ x H', Inv X pins σ H' s2 ∧ RelV x u ∧ J.yld i H x H' ∧ tn (i + 1) s2.heap ∧ ∀ b ∈ fp, H' b = none) E s1) E s
  done : ∀ (X : Cx), X.prog = P → X.w = w → X.K = K → X.calm = true → ∀ (i : Nat) (pins : List (Addr × Obj)) (s : Shared) (σ : St) (H : Hp) (E : Value → Shared → Prop), Inv X pins σ H s → (∀ b ∈ fp, FpOk X pins H b) → tn i s.heap → J.stop i H →
    wpAny (model P w) X.A (pyNext (.ref it)) (fun r s1 => r = none ∧ Inv X pins σ H s1) E s
  self : ∀ (A : Around) (i : Nat) (s : Shared) (Q : Value → Shared → Prop) (E : Value → Shared → Prop), tn i s.heap → Q (.ref it) s → wpAny (model P w) A (pyIter (.ref it)) Q E s
abbrev TI := St → Hp → (It → Hp → Prop) → Prop

def PIE (X : Cx) (pins : List (Addr × Obj)) (σ : St) (tg : Expr) (R : It → Hp → Prop) (itv : Value) (s2 : Shared) : Prop :=
  ∃ (it : Addr) (fp : List Addr) (tn : Nat → Heap → Prop) (J : It) (H' : Hp), itv = .ref it ∧ Inv X pins σ H' s2 ∧ Turn X.prog X.w X.K tg J fp it tn ∧ tn 0 s2.heap ∧ (∀ b ∈ fp, FpOk X pins H' b) ∧ R J H'
def PI (X : Cx) (tg iter : Expr) (wi : TI) : Prop :=
  ∀ (pins : List (Addr × Obj)) (s : Shared) (σ : St) (H : Hp) (R : It → Hp → Prop), Inv X pins σ H s → wi σ H R →
    wpAny (model X.prog X.w) X.A (eval iter X.env) (fun v s1 => wpAny (model X.prog X.w) X.A (pyIter v) (PIE X pins σ tg R) X.xe s1) X.xe s


theorem go_of {M : Model} {A : Around} {E : Value → Shared → Prop} {s : Shared} {tg : Expr} {it : Addr} {u : Value} {o : Obj} {n : String} {vs : Array Value} {Q : Unit → Shared → Prop} (ho : s.heap.get? it = some o) (hc : o.cls = .type n) (hd : o.data = .fields vs)
    (hn : ["enumerate", "zip", "dict_itemiterator", "dict_reverseitemiterator", "odict_iterator", "itertools.zip_longest", "itertools.pairwise"].contains n = false) (hQ : Q () s) : wpAny M A (letOwnedTupleGo tg (.ref it) u) Q E s := by
  unfold letOwnedTupleGo
  cases tg <;> first
    | exact wpAny_pure hQ
    | (cases u <;> first
        | exact wpAny_pure hQ
        | (refine wpAny_bind (wpAny_load ho ?_)
           rw [hc, hd]
           show wpAny M A (if (["enumerate", "zip", "dict_itemiterator", "dict_reverseitemiterator", "odict_iterator", "itertools.zip_longest", "itertools.pairwise"].contains n && vs[0]? == some (rawInt _)) = true then _ else _) Q E s
           rw [if_neg (by intro h; rw [hn, Bool.false_and] at h; cases h)]
           exact wpAny_pure hQ))


def Itl (K : PySem.W.Frag) (a : Addr) : It :=
  ⟨fun i H => ∃ xs x, SqL K H a xs ∧ xs[i]? = some x, fun i H x H' => H' = H ∧ ∀ xs, SqL K H a xs → xs[i]? = some x, fun i H => ∃ xs, SqL K H a xs ∧ xs.length ≤ i⟩
def Itt (K : PySem.W.Frag) (a : Addr) : It :=
  ⟨fun i H => ∃ xs x, SqT K H a xs ∧ xs[i]? = some x, fun i H x H' => H' = H ∧ ∀ xs, SqT K H a xs → xs[i]? = some x, fun i H => ∃ xs, SqT K H a xs ∧ xs.length ≤ i⟩

def Itr (lo : Int) (n : Nat) : It := ⟨fun i _ => i < n, fun i H x H' => H' = H ∧ x = .int (lo + i), fun i _ => n ≤ i⟩
theorem turn_list {P : Program} {w : World} {K : PySem.W.Frag} {tg : Expr} (a it : Addr) : Turn P w K tg (Itl K a) [it] it (fun i h => h.IsListIter it a i) where
  mem := by simp
  obj := fun i h st b hb => by
    have e : b = it := by simpa using hb
    subst e
    obtain ⟨o, e, c, d⟩ := st
    exact ⟨o, e, fun v z => by rw [d] at z; cases z⟩
  keep := fun i h h' st k => st.at fun o e => k it (by simp) o e
  item := by
    intro X hP hw hK hc i pins s σ H E I hf st hg
    subst hP hw hK
    obtain ⟨xs, x, hq, hx⟩ := hg
    obtain ⟨its, rv, p, hz⟩ := I.list hq
    obtain ⟨u, hu, ru⟩ := rv.get hx
    obtain ⟨f0, f1, f2, f3, f4, f5⟩ := hf it (by simp)
    refine wpAny_pyNext_list_item st p.isList (x := u) (by simpa using hu) fun h' st' sb => ?_
    have I1 : Inv X pins σ H { s with heap := h' } := I.turned (t' := s.toks) (fun b o hb e => (sb.2 b hb).trans e) f0 f1 f3 f4 f5
    obtain ⟨o, e, c, d⟩ := id st'
    exact ⟨u, rfl, go_of (s := { s with heap := h' }) e c d (by decide) ⟨x, H, I1, ru, ⟨rfl, fun ys hy => by rw [I.list_inj hy hq]; exact hx⟩, st', fun b hb => (hf b hb).1⟩⟩
  done := by
    intro X hP hw hK hc i pins s σ H E I hf st hg
    subst hP hw hK
    obtain ⟨xs, hq, hx⟩ := hg
    obtain ⟨its, rv, p, hz⟩ := I.list hq
    obtain ⟨f0, f1, f2, f3, f4, f5⟩ := hf it (by simp)
    have hl := rv.length
    exact wpAny_pyNext_list_end (I.ok.hd hc) st p.isList (by simp; omega) fun h' eb => ⟨rfl, I.turned (t' := s.toks) (fun b o hb e => eb b o hb e) f0 f1 f3 f4 f5⟩
  self := fun _ _ _ _ _ st h => wpAny_pyIter_listiter st h
theorem turn_tuple {P : Program} {w : World} {K : PySem.W.Frag} {tg : Expr} (a it : Addr) : Turn P w K tg (Itt K a) [it] it (fun i h => h.IsTupleIter it a i) where
  mem := by simp
  obj := fun i h st b hb => by
    have e : b = it := by simpa using hb
    subst e
    obtain ⟨o, e, c, d⟩ := st
    exact ⟨o, e, fun v z => by rw [d] at z; cases z⟩
  keep := fun i h h' st k => st.at fun o e => k it (by simp) o e
  item := by
    intro X hP hw hK hc i pins s σ H E I hf st hg
    subst hP hw hK
    obtain ⟨xs, x, hq, hx⟩ := hg
    obtain ⟨its, rv, p, hz⟩ := I.tuple hq
    obtain ⟨u, hu, ru⟩ := rv.get hx
    obtain ⟨f0, f1, f2, f3, f4, f5⟩ := hf it (by simp)
    refine wpAny_pyNext_tuple_item st (show s.heap.IsTuple a its.toArray from p) (x := u) (by simpa using hu) fun h' st' sb => ?_
    have I1 : Inv X pins σ H { s with heap := h' } := I.turned (t' := s.toks) (fun b o hb e => (sb.2 b hb).trans e) f0 f1 f3 f4 f5
    obtain ⟨o, e, c, d⟩ := id st'
    exact ⟨u, rfl, go_of (s := { s with heap := h' }) e c d (by decide) ⟨x, H, I1, ru, ⟨rfl, fun ys hy => by rw [I.tuple_inj hy hq]; exact hx⟩, st', fun b hb => (hf b hb).1⟩⟩
  done := by
    intro X hP hw hK hc i pins s σ H E I hf st hg
    subst hP hw hK
    obtain ⟨xs, hq, hx⟩ := hg
    obtain ⟨its, rv, p, hz⟩ := I.tuple hq
    obtain ⟨f0, f1, f2, f3, f4, f5⟩ := hf it (by simp)
    have hl := rv.length
    exact wpAny_pyNext_tuple_end (I.ok.hd hc) st (show s.heap.IsTuple a its.toArray from p) (by simp; omega) fun h' eb => ⟨rfl, I.turned (t' := s.toks) (fun b o hb e => eb b o hb e) f0 f1 f3 f4 f5⟩
  self := fun _ _ _ _ _ st h => wpAny_pyIter_tupleiter st h
theorem turn_range {P : Program} {w : World} {K : PySem.W.Frag} {tg : Expr} (it : Addr) (lo : Int) (n : Nat) : Turn P w K tg (Itr lo n) [it] it (fun i h => IsRangeIter h it (lo + (i : Nat) * 1) ((n : Int) - (i : Nat)) 1) where
  mem := by simp
  obj := fun i h st b hb => by
    have e : b = it := by simpa using hb
    subst e
    exact ⟨_, st, fun v z => by
      have z' : Data.fields _ = Data.cell v := z
      cases z'⟩
  keep := fun i h h' st k => k it (by simp) _ st
  item := by
    intro X hP hw hK hc i pins s σ H E I hf st hg
    subst hP hw hK
    obtain ⟨f0, f1, f2, f3, f4, f5⟩ := hf it (by simp)
    have W := Walks.range (prog := X.prog) (w := X.w) (I.ok.hd hc) it lo 1 n
    refine W.item i s _ _ hg st fun v h' tk hv st' kk => ?_
    obtain ⟨t, rfl⟩ := hv
    have I1 : Inv X pins σ H { s with heap := h', toks := tk } := I.turned (fun b o hb e => kk b o (by simpa using hb) e) f0 f1 f3 f4 f5
    refine ⟨_, rfl, go_of (s := { s with heap := h', toks := tk }) (n := "range_iterator") st' rfl rfl (by decide) ⟨.int (lo + i), H, I1, ⟨t, ?_⟩, ⟨rfl, rfl⟩, st', fun b hb => (hf b hb).1⟩⟩
    rw [Int.mul_one]
  done := by
    intro X hP hw hK hc i pins s σ H E I hf st hg
    subst hP hw hK
    obtain ⟨f0, f1, f2, f3, f4, f5⟩ := hf it (by simp)
    exact wpAny_pyNext_range_end (I.ok.hd hc) st (by have : n ≤ i := hg; omega) fun h' eb => ⟨rfl, I.turned (t' := s.toks) (fun b o hb e => eb b o hb e) f0 f1 f3 f4 f5⟩
  self := fun _ _ _ _ _ st h => wpAny_pyIter_rangeiter st h
end L2

namespace L2
open PySem PySem.Spec PyProof.Rows
section
variable {X : Cx} {tg : Expr}
def iList (K : PySem.W.Frag) (tl : TE) : TI := fun σ H R => tl σ H fun x H1 => ∃ a, x = .ref a ∧ (∃ xs, SqL K H1 a xs) ∧ R (Itl K a) H1
def iTup (K : PySem.W.Frag) (tl : TE) : TI := fun σ H R => tl σ H fun x H1 => ∃ a, x = .ref a ∧ (∃ xs, SqT K H1 a xs) ∧ R (Itt K a) H1
theorem pi_list {l : Expr} {tl : TE} (hl : PE X l tl) : PI X tg l (iList X.K tl) := by
  intro pins s σ H R I h
  refine thn (hl pins s σ H _ I h) fun v s1 ⟨x, H1, I1, r1, q1⟩ => ?_
  obtain ⟨a, e, ⟨xs, hq⟩, q⟩ := q1
  subst e
  cases r1
  obtain ⟨its, rv, p, hz⟩ := I1.list hq
  refine wpAny_pyIter_list p.isList ?_
  refine ⟨s1.heap.objs.size, [s1.heap.objs.size], _, _, H1, rfl, I1.kept (t' := s1.toks) fun b o e => Heap.get?_push_of_some _ e, turn_list a _, ⟨_, Heap.get?_push_size _ rfl, rfl, rfl⟩, fun b hb => ?_, q⟩
  have e : b = s1.heap.objs.size := by simpa using hb
  subst e
  exact I1.fpOk (Nat.le_refl _) (I1.hok.fresh (Nat.le_refl _))
theorem pi_tup {l : Expr} {tl : TE} (hl : PE X l tl) : PI X tg l (iTup X.K tl) := by
  intro pins s σ H R I h
  refine thn (hl pins s σ H _ I h) fun v s1 ⟨x, H1, I1, r1, q1⟩ => ?_
  obtain ⟨a, e, ⟨xs, hq⟩, q⟩ := q1
  subst e
  cases r1
  obtain ⟨its, rv, p, hz⟩ := I1.tuple hq
  refine wpAny_pyIter_tuple (show s1.heap.IsTuple a its.toArray from p) ?_
  refine ⟨s1.heap.objs.size, [s1.heap.objs.size], _, _, H1, rfl, I1.kept (t' := s1.toks) fun b o e => Heap.get?_push_of_some _ e, turn_tuple a _, ⟨_, Heap.get?_push_size _ rfl, rfl, rfl⟩, fun b hb => ?_, q⟩
  have e : b = s1.heap.objs.size := by simpa using hb
  subst e
  exact I1.fpOk (Nat.le_refl _) (I1.hok.fresh (Nat.le_refl _))

theorem range_it {pins : List (Addr × Obj)} {σ : St} {H : Hp} {s : Shared} {R : It → Hp → Prop} {E : Value → Shared → Prop} {lo hi : Int} {t u v : Tok} {tk : Nat} (I : Inv X pins σ H s) (h1 : -(2 ^ 62) ≤ lo) (h2 : lo < 2 ^ 62) (h3 : -(2 ^ 62) ≤ hi) (h4 : hi < 2 ^ 62)
    (q : R (Itr lo (hi - lo).toNat) H) : wpAny (model X.prog X.w) X.A (pyIter (.ref s.heap.objs.size)) (PIE X pins σ tg R) E { s with heap := s.heap.push { cls := .type "range", data := .fields #[.int lo t, .int hi u, .int 1 v] }, toks := tk } := by
  refine wpAny_pyIter_range (IsRange.new ..) (small_one h1 h2 h3 h4) ?_
  have I1 : Inv X pins σ H { s with heap := s.heap.push { cls := .type "range", data := .fields #[.int lo t, .int hi u, .int 1 v] }, toks := tk } := I.kept fun b o e => Heap.get?_push_of_some _ e
  refine ⟨(s.heap.push { cls := .type "range", data := .fields #[.int lo t, .int hi u, .int 1 v] }).objs.size, [(s.heap.push { cls := .type "range", data := .fields #[.int lo t, .int hi u, .int 1 v] }).objs.size], _, _, H, rfl,
    I1.kept (t' := tk) fun b o e => Heap.get?_push_of_some _ e, turn_range _ lo (hi - lo).toNat, ?_, fun b hb => ?_, q⟩
  · have e1 : lo + ((0 : Nat) : Int) * 1 = lo := by simp
    have e2 : (((hi - lo).toNat : Nat) : Int) - ((0 : Nat) : Int) = Builtin.Range.rangeSize lo hi 1 := by rw [rangeSize_one]; split <;> omega
    show IsRangeIter _ _ (lo + ((0 : Nat) : Int) * 1) ((((hi - lo).toNat : Nat) : Int) - ((0 : Nat) : Int)) 1
    rw [e1, e2]
    exact Heap.get?_push_size _ rfl
  · have e : b = (s.heap.push { cls := .type "range", data := .fields #[.int lo t, .int hi u, .int 1 v] }).objs.size := by simpa using hb
    subst e
    exact I1.fpOk (Nat.le_refl _) (I1.hok.fresh (Nat.le_refl _))
def iRng1 (ta : TA) : TI := fun σ H R => ta σ H fun vs H1 => ∃ j : Int, vs = [.int j] ∧ -(2 ^ 62) ≤ j ∧ j < 2 ^ 62 ∧ R (Itr 0 j.toNat) H1
theorem pi_range1 {a : Expr} {ta : TA} {p pos : Pos} (hg : Gl X "range") (hm : X.mg "range" = none) (ha : PA X [a] ta) (hs : starEach [a] X.env = [(false, eval a X.env)] := by rfl) : PI X tg (.Call (.Name "range" p) [a] [] pos) (iRng1 ta) := by
  intro pins s σ H R I h
  refine Call_ (ld_blt I hg hm boot_range (PyProof.Rows.callWith_type1 (thn (ha pos pins s σ H _ I h) fun us s1 ⟨vs, H1, I1, r1, q1⟩ => ?_) hs rfl))
  obtain ⟨j, e, q1, q2, q⟩ := q1
  subst e
  cases r1 with
  | cons r rr =>
    cases rr
    obtain ⟨t, rfl⟩ := r
    exact call_range_1 (range_it I1 (by omega) (by omega) q1 q2 (by simpa using q))
def tFor (wi : TI) (g : TG) (tb : TS) : TS := fun D σ H => wi σ H fun J H1 => ∃ W : Nat → Nat → St → Hp → Prop, (∃ m, W 0 m σ H1) ∧ ∀ i m σ H, W i m σ H →
  (J.stop i H ∧ D.nx σ H) ∨ (J.go i H ∧ ∃ N : St → Hp → Prop, (∀ σ' H', N σ' H' → ∃ m', m' < m ∧ W (i + 1) m' σ' H') ∧ ∀ x H', J.yld i H x H' → g x σ H' fun σ2 H2 => tb { D with nx := N, ct := N, bk := D.nx } σ2 H2)

def pinsAt (fp : List Addr) (h : Heap) : List (Addr × Obj) := fp.filterMap fun b => (h.get? b).map fun o => (b, o)
theorem mem_pinsAt {fp : List Addr} {h : Heap} {b : Addr} {o : Obj} (hb : b ∈ fp) (e : h.get? b = some o) : (b, o) ∈ pinsAt fp h := List.mem_filterMap.mpr ⟨b, hb, by rw [e]; rfl⟩
theorem of_pinsAt {fp : List Addr} {h : Heap} {p : Addr × Obj} (hp : p ∈ pinsAt fp h) : p.1 ∈ fp ∧ h.get? p.1 = some p.2 := by
  obtain ⟨b, hb, e⟩ := List.mem_filterMap.mp hp
  cases q : h.get? b with
  | none => rw [q] at e; cases e
  | some o =>
    rw [q] at e
    have e' : (b, o) = p := Option.some.inj e
    subst e'
    exact ⟨hb, q⟩
theorem Inv.pinned {pins : List (Addr × Obj)} {σ : St} {H : Hp} {s : Shared} {fp : List Addr} (I : Inv X pins σ H s) (hf : ∀ b ∈ fp, FpOk X pins H b) (ho : ∀ b ∈ fp, ∃ o, s.heap.get? b = some o ∧ ∀ v, o.data ≠ .cell v) : Inv X (pins ++ pinsAt fp s.heap) σ H s :=
  I.pins_of fun p hp => (List.mem_append.mp hp).elim (fun z => I.pin p (List.mem_append_right _ z)) fun z => by
    obtain ⟨hb, e⟩ := of_pinsAt z
    obtain ⟨f0, f1, f2, _⟩ := hf p.1 hb
    obtain ⟨o, e', d⟩ := ho p.1 hb
    rw [e] at e'; cases e'
    exact ⟨e, f0, f1, f2, d⟩
theorem Inv.unpinned {pins pl : List (Addr × Obj)} {σ : St} {H : Hp} {s : Shared} (I : Inv X (pins ++ pl) σ H s) : Inv X pins σ H s := I.pins_of fun p hp => I.pin p (List.mem_append_right _ (List.mem_append_left _ hp))
theorem ps_for {iter : Expr} {body : List Stmt} {wi : TI} {g : TG} {tb : TS} {pos : Pos} (hp : PassesOwn (model X.prog X.w) X.A X.env X.xe) (hc : X.calm = true) (hi : PI X tg iter wi) (hg : PG X tg g) (hb : PSs X body tb)
    (hs : ∀ x, foldedSetIterable iter X.env x = pure x := by intro _; rfl) : PS X (.For tg iter body [] pos) (tFor wi g tb) := by
  intro pins s σ H D I h
  refine wpAny_For (thn (hi pins s σ H _ I h) fun v s1 h1 => thn h1 fun itv s2 h2 => ?_) hs
  obtain ⟨it, fp, tn, J, H2, e, I2, T, st2, f2, W, ⟨m0, w0⟩, turn⟩ := h2
  subst e
  -- what stays true of the iterator's objects through the loop
  have stat : ∀ {H' : Hp}, (∀ b ∈ fp, H' b = none) → ∀ b ∈ fp, FpOk X pins H' b := fun hn b hb => ⟨hn b hb, (f2 b hb).2⟩
  refine codeAny_forLoop_any (fun n s' => ∃ i σ' H', Inv X pins σ' H' s' ∧ tn i s'.heap ∧ (∀ b ∈ fp, H' b = none) ∧ W i n σ' H') ?_ m0 ⟨0, σ, H2, I2, st2, fun b hb => (f2 b hb).1, w0⟩
  rintro n s3 ⟨i, σ3, H3, I3, st3, fr3, w3⟩
  rcases turn i n σ3 H3 w3 with ⟨stop, qn⟩ | ⟨go, N, hN, step⟩
  · refine wpAny_passesOwn hp (thn (T.done X rfl rfl rfl hc i pins s3 σ3 H3 X.xe I3 (stat fr3) st3 stop) fun r s4 ⟨hr, I4⟩ => ?_)
    subst hr
    exact wpAny_execs_nil ⟨σ3, H3, I4, qn⟩
  · refine wpAny_passesOwn hp (thn (T.item X rfl rfl rfl hc i pins s3 σ3 H3 X.xe I3 (stat fr3) st3 go) fun r s4 ⟨u, hr, h4⟩ => ?_)
    subst hr
    refine wpAny_passesOwn hp (thn h4 fun _ s5 ⟨x, H5, I5, r5, y5, st5, fr5⟩ => ?_)
    have I5' := I5.pinned (stat fr5) (T.obj _ _ st5)
    refine wpAny_passesOwn hp (thn (hg _ s5 σ3 H5 x u _ I5' r5 (step x H5 y5)) fun _ s6 ⟨σ6, H6, I6, q6⟩ => ?_)
    refine wpAny_passesOwn hp (thn (hb _ s6 σ6 H6 _ I6 q6) fun f s7 q7 => ?_)
    have again : ∀ {σ7 : St} {H7 : Hp}, Inv X (pins ++ pinsAt fp s5.heap) σ7 H7 s7 → N σ7 H7 → ∃ m, m < n ∧ ∃ i σ' H', Inv X pins σ' H' s7 ∧ tn i s7.heap ∧ (∀ b ∈ fp, H' b = none) ∧ W i m σ' H' := fun {σ7 H7} I7 n7 => by
      obtain ⟨m', hm, w7⟩ := hN σ7 H7 n7
      refine ⟨m', hm, i + 1, σ7, H7, I7.unpinned, T.keep _ _ _ st5 fun b hb o e => (I7.pin (b, o) (List.mem_append_right _ (List.mem_append_right _ (mem_pinsAt hb e)))).1, fun b hb => ?_, w7⟩
      obtain ⟨o, e, d⟩ := T.obj _ _ st5 b hb
      exact (I7.pin (b, o) (List.mem_append_right _ (List.mem_append_right _ (mem_pinsAt hb e)))).2.1
    cases f with
    | next => obtain ⟨σ7, H7, I7, n7⟩ := q7; exact again I7 n7
    | cont => obtain ⟨σ7, H7, I7, n7⟩ := q7; exact again I7 n7
    | brk => obtain ⟨σ7, H7, I7, q7⟩ := q7; exact ⟨σ7, H7, I7.unpinned, q7⟩
    | ret v => obtain ⟨x7, σ7, H7, I7, r7, q7⟩ := q7; exact ⟨x7, σ7, H7, I7.unpinned, r7, q7⟩
end



theorem for_list {K : PySem.W.Frag} {a : Addr} {xs : List V} {g : TG} {tb : TS} {D : Ends} {σ : St} {H : Hp} (Pv : Nat → St → Hp → Prop) (h0 : Pv 0 σ H) (hl : ∀ i σ H, i ≤ xs.length → Pv i σ H → SqL K H a xs)
    (hs : ∀ i x σ H, xs[i]? = some x → Pv i σ H → g x σ H fun σ2 H2 => tb { D with nx := Pv (i + 1), ct := Pv (i + 1), bk := D.nx } σ2 H2) (hd : ∀ σ H, Pv xs.length σ H → D.nx σ H) :
    ∃ W : Nat → Nat → St → Hp → Prop, (∃ m, W 0 m σ H) ∧ ∀ i m σ H, W i m σ H →
      ((Itl K a).stop i H ∧ D.nx σ H) ∨ ((Itl K a).go i H ∧ ∃ N : St → Hp → Prop, (∀ σ' H', N σ' H' → ∃ m', m' < m ∧ W (i + 1) m' σ' H') ∧ ∀ x H', (Itl K a).yld i H x H' → g x σ H' fun σ2 H2 => tb { D with nx := N, ct := N, bk := D.nx } σ2 H2) := by
  refine ⟨fun i m σ H => m = xs.length - i ∧ i ≤ xs.length ∧ Pv i σ H, ⟨xs.length, by simp, Nat.zero_le _, h0⟩, ?_⟩
  rintro i m σ H ⟨rfl, hi, p⟩
  have q := hl i σ H hi p
  by_cases hlt : i < xs.length
  · refine .inr ⟨⟨xs, xs[i], q, by simp [hlt]⟩, Pv (i + 1), fun σ' H' p' => ⟨xs.length - (i + 1), by omega, rfl, hlt, p'⟩, fun x H' y => ?_⟩
    obtain ⟨e, y⟩ := y
    subst e
    exact hs i x σ _ (y xs q) p
  · have e : i = xs.length := by omega
    subst e
    exact .inl ⟨⟨xs, q, Nat.le_refl _⟩, hd σ H p⟩
theorem for_range {lo : Int} {n : Nat} {g : TG} {tb : TS} {D : Ends} {σ : St} {H : Hp} (Pv : Nat → St → Hp → Prop) (h0 : Pv 0 σ H)
    (hs : ∀ i σ H, i < n → Pv i σ H → g (.int (lo + i)) σ H fun σ2 H2 => tb { D with nx := Pv (i + 1), ct := Pv (i + 1), bk := D.nx } σ2 H2) (hd : ∀ σ H, Pv n σ H → D.nx σ H) :
    ∃ W : Nat → Nat → St → Hp → Prop, (∃ m, W 0 m σ H) ∧ ∀ i m σ H, W i m σ H →
      ((Itr lo n).stop i H ∧ D.nx σ H) ∨ ((Itr lo n).go i H ∧ ∃ N : St → Hp → Prop, (∀ σ' H', N σ' H' → ∃ m', m' < m ∧ W (i + 1) m' σ' H') ∧ ∀ x H', (Itr lo n).yld i H x H' → g x σ H' fun σ2 H2 => tb { D with nx := N, ct := N, bk := D.nx } σ2 H2) := by
  refine ⟨fun i m σ H => m = n - i ∧ i ≤ n ∧ Pv i σ H, ⟨n, by simp, Nat.zero_le _, h0⟩, ?_⟩
  rintro i m σ H ⟨rfl, hi, p⟩
  by_cases hlt : i < n
  · refine .inr ⟨hlt, Pv (i + 1), fun σ' H' p' => ⟨n - (i + 1), by omega, rfl, hlt, p'⟩, fun x H' y => ?_⟩
    obtain ⟨e, y⟩ := y
    subst e y
    exact hs i σ _ hlt p
  · have e : i = n := by omega
    subst e
    exact .inl ⟨Nat.le_refl _, hd σ H p⟩

end L2

namespace L2
open PySem PySem.Spec PyProof.Rows

abbrev R2 := V → V → Hp → VK → Prop

def OpR (X : Cx) (f : Value → Value → Sem Value) (r : R2) : Prop :=
  ∀ (pins : List (Addr × Obj)) (s : Shared) (σ : St) (H : Hp) (x y : V) (v u : Value) (Q : VK), Inv X pins σ H s → RelV x v → RelV y u → r x y H Q →
    wpAny (model X.prog X.w) X.A (f v u) (EP X pins σ Q) X.xe s

def UnR (X : Cx) (f : Value → Sem Value) (r : V → Hp → VK → Prop) : Prop :=
  ∀ (pins : List (Addr × Obj)) (s : Shared) (σ : St) (H : Hp) (x : V) (v : Value) (Q : VK), Inv X pins σ H s → RelV x v → r x H Q →
    wpAny (model X.prog X.w) X.A (f v) (EP X pins σ Q) X.xe s

def CallR (X : Cx) (f : Value) (r : List V → Hp → VK → Prop) : Prop :=
  ∀ (pins : List (Addr × Obj)) (s : Shared) (σ : St) (H : Hp) (xs : List V) (us : List Value) (Q : VK), Inv X pins σ H s → Vals xs us → r xs H Q →
    wpAny (model X.prog X.w) X.A (call f us) (EP X pins σ Q) X.xe s

def tOp (r : R2) (ta tb : TE) : TE := fun σ H Q => ta σ H fun x H1 => tb σ H1 fun y H2 => r x y H2 Q
def tUn (r : V → Hp → VK → Prop) (ta : TE) : TE := fun σ H Q => ta σ H fun x H1 => r x H1 Q

def rI (C : Int → Int → Prop) (g : Int → Int → V) : R2 := fun x y H Q => ∃ i j, x = .int i ∧ y = .int j ∧ C i j ∧ Q (g i j) H
def rI0 (g : Int → Int → V) : R2 := fun x y H Q => ∃ i j, x = .int i ∧ y = .int j ∧ Q (g i j) H
def rU (g : Int → V) : V → Hp → VK → Prop := fun x H Q => ∃ i, x = .int i ∧ Q (g i) H

section
variable {X : Cx} {a b c : Expr} {ta tb tc : TE} {pos : Pos}

theorem binT (ha : PE X a ta) (hb : PE X b tb) {pins : List (Addr × Obj)} {s : Shared} {σ : St} {H : Hp} {R : V → V → Hp → Prop} (I : Inv X pins σ H s)
    (h : ta σ H fun x H1 => tb σ H1 fun y H2 => R x y H2) {Q : Value → Shared → Prop} {f : Value → Value → Sem Value}
    (hf : ∀ v u s2 x y H2, Inv X pins σ H2 s2 → RelV x v → RelV y u → R x y H2 → wpAny (model X.prog X.w) X.A (f v u) Q X.xe s2) :
    wpAny (model X.prog X.w) X.A (eval a X.env) (fun v s₁ => wpAny (model X.prog X.w) X.A (eval b X.env) (fun u s₂ => wpAny (model X.prog X.w) X.A (f v u) Q X.xe s₂) X.xe s₁) X.xe s := by
  refine thn (ha pins s σ H _ I h) fun v s1 ⟨x, H1, I1, r1, q1⟩ => ?_
  refine thn (hb pins s1 σ H1 _ I1 q1) fun u s2 ⟨y, H2, I2, r2, q2⟩ => ?_
  exact hf v u s2 x y H2 I2 r1 r2 q2

theorem pe_op {op : Operator} {r : R2} (ho : OpR X (binaryOp op) r) (ha : PE X a ta) (hb : PE X b tb) : PE X (.BinOp a op b pos) (tOp r ta tb) := by
  intro pins s σ H Q I h
  exact wpAny_BinOp (binT ha hb I h fun v u s2 x y H2 I2 rx ry q => ho pins s2 σ H2 x y v u Q I2 rx ry q)
theorem pe_un {op : UnaryOp} {r : V → Hp → VK → Prop} (ho : UnR X (unaryOp op) r) (ha : PE X a ta) : PE X (.UnaryOp op a pos) (tUn r ta) := by
  intro pins s σ H Q I h
  exact UnaryOp_ (thn (ha pins s σ H _ I h) fun v s1 ⟨x, H1, I1, r1, q1⟩ => ho pins s1 σ H1 x v Q I1 r1 q1)

theorem opI {f : Value → Value → Sem Value} {C : Int → Int → Prop} {g : Int → Int → Int}
    (rule : ∀ (i j : Int) (t u : Tok) (s : Shared) (Q : Value → Shared → Prop) (E : Value → Shared → Prop), C i j → Q (.int (g i j) s.toks) { s with toks := s.toks + 1 } → wpAny (model X.prog X.w) X.A (f (.int i t) (.int j u)) Q E s) :
    OpR X f (rI C fun i j => .int (g i j)) := by
  intro pins s σ H x y v u Q I rx ry h
  obtain ⟨i, j, rfl, rfl, hc, q⟩ := h
  obtain ⟨t, rfl⟩ := rx
  obtain ⟨t', rfl⟩ := ry
  exact rule i j t t' s _ _ hc ⟨.int (g i j), H, I.tok _, ⟨_, rfl⟩, q⟩
theorem opI0 {f : Value → Value → Sem Value} {g : Int → Int → Int}
    (rule : ∀ (i j : Int) (t u : Tok) (s : Shared) (Q : Value → Shared → Prop) (E : Value → Shared → Prop), Q (.int (g i j) s.toks) { s with toks := s.toks + 1 } → wpAny (model X.prog X.w) X.A (f (.int i t) (.int j u)) Q E s) :
    OpR X f (rI0 fun i j => .int (g i j)) := by
  intro pins s σ H x y v u Q I rx ry h
  obtain ⟨i, j, rfl, rfl, q⟩ := h
  obtain ⟨t, rfl⟩ := rx
  obtain ⟨t', rfl⟩ := ry
  exact rule i j t t' s _ _ ⟨.int (g i j), H, I.tok _, ⟨_, rfl⟩, q⟩
theorem opB0 {f : Value → Value → Sem Value} {g : Int → Int → Bool}
    (rule : ∀ (i j : Int) (t u : Tok) (s : Shared) (Q : Value → Shared → Prop) (E : Value → Shared → Prop), Q (.bool (g i j)) s → wpAny (model X.prog X.w) X.A (f (.int i t) (.int j u)) Q E s) :
    OpR X f (rI0 fun i j => .bl (g i j)) := by
  intro pins s σ H x y v u Q I rx ry h
  obtain ⟨i, j, rfl, rfl, q⟩ := h
  obtain ⟨t, rfl⟩ := rx
  obtain ⟨t', rfl⟩ := ry
  exact rule i j t t' s _ _ ⟨.bl (g i j), H, I, rfl, q⟩

def CDiv (i j : Int) : Prop := 0 < j ∧ j < 1073741824
def CPow (i j : Int) : Prop := 0 ≤ j ∧ j ≤ 1000000 ∧ i.natAbs < 2 ^ 64
def CMul (i j : Int) : Prop := (-(2 ^ 64) < i ∧ i < 2 ^ 64) ∨ (-(2 ^ 64) < j ∧ j < 2 ^ 64)
theorem CMul.ok {i j : Int} (h : CMul i j) : IntMulOk i j := by
  rcases h with ⟨h1, h2⟩ | ⟨h1, h2⟩
  · exact .of_left (intBits_le_64 h1 h2)
  · exact .of_right (intBits_le_64 h1 h2)
theorem two_pow_nn (k : Nat) : (0 : Int) ≤ 2 ^ k := by
  rw [two_pow_cast]
  exact Int.natCast_nonneg _

theorem op_add : OpR X (binaryOp .Add) (rI0 fun i j => .int (i + j)) := opI0 fun _ _ _ _ _ _ _ q => add_int q
theorem op_sub : OpR X (binaryOp .Sub) (rI0 fun i j => .int (i - j)) := opI0 fun _ _ _ _ _ _ _ q => sub_int q
theorem op_mul : OpR X (binaryOp .Mult) (rI CMul fun i j => .int (i * j)) := opI fun _ _ _ _ _ _ _ hc q => mul_int q hc.ok

theorem op_fdiv : OpR X (binaryOp .FloorDiv) (rI CDiv fun i j => .int (i / j)) := opI fun i j _ _ _ _ _ hc q => by
  have h1 : (0 : Int) < j := hc.1
  have h2 : j < 1073741824 := hc.2
  exact floordiv_int (by omega) (by rw [Int.fdiv_eq_ediv_of_nonneg i (by omega)]; exact q) (.inl (PyProof.noPylong_small (by omega)))
theorem op_mod : OpR X (binaryOp .Mod) (rI (fun _ j => 0 < j) fun i j => .int (i % j)) := opI fun i j _ _ _ _ _ hc q => by
  have h1 : (0 : Int) < j := hc
  exact mod_int' (by omega) (by rw [Int.fmod_eq_emod_of_nonneg i (by omega)]; exact q)
theorem op_shl : OpR X (binaryOp .LShift) (rI CPow fun i j => .int (i * 2 ^ j.toNat)) := opI fun _ _ _ _ _ _ _ hc q => lshift_int_small hc.1 hc.2.1 hc.2.2 q
theorem op_shr : OpR X (binaryOp .RShift) (rI (fun _ j => 0 ≤ j) fun i j => .int (i / 2 ^ j.toNat)) := opI fun i j _ _ _ _ _ hc q =>
  rshift_int hc (by rw [Int.fdiv_eq_ediv_of_nonneg i (two_pow_nn _)]; exact q)
theorem op_and : OpR X (binaryOp .BitAnd) (rI0 fun i j => .int (Builtin.bitAnd i j)) := opI0 fun _ _ _ _ _ _ _ q => and_int q
theorem unI {f : Value → Sem Value} {g : Int → Int}
    (rule : ∀ (i : Int) (t : Tok) (s : Shared) (Q : Value → Shared → Prop) (E : Value → Shared → Prop), Q (.int (g i) s.toks) { s with toks := s.toks + 1 } → wpAny (model X.prog X.w) X.A (f (.int i t)) Q E s) :
    UnR X f (rU fun i => .int (g i)) := by
  intro pins s σ H x v Q I rx h
  obtain ⟨i, rfl, q⟩ := h
  obtain ⟨t, rfl⟩ := rx
  exact rule i t s _ _ ⟨.int (g i), H, I.tok _, ⟨_, rfl⟩, q⟩
theorem un_neg : UnR X (unaryOp .USub) (rU fun i => .int (-i)) := unI fun _ _ _ _ _ q => neg_int q
end



def scal : V → V → Bool
  | .non, .non => true | .non, .int _ => true | .int _, .non => true | .non, .bl _ => true | .bl _, .non => true | .non, .str _ => true | .str _, .non => true
  | .int _, .int _ => true | .bl _, .bl _ => true | .str _, .str _ => true | .byt _, .byt _ => true
  | .int _, .str _ => true | .str _, .int _ => true | .bl _, .str _ => true | .str _, .bl _ => true
  | _, _ => false
def rEq : R2 := fun x y H Q => scal x y = true ∧ Q (.bl (decide (x = y))) H
def rNe : R2 := fun x y H Q => scal x y = true ∧ Q (.bl (!decide (x = y))) H

theorem dec_int {i j : Int} : decide (V.int i = V.int j) = (i == j) := by
  rw [Bool.eq_iff_iff]
  simp
theorem dec_bl {i j : Bool} : decide (V.bl i = V.bl j) = (i == j) := by
  rw [Bool.eq_iff_iff]
  simp
theorem dec_str {i j : Str} : decide (V.str i = V.str j) = (i == j) := by
  rw [Bool.eq_iff_iff]
  simp
theorem dec_byt {i j : Array UInt8} : decide (V.byt i = V.byt j) = (i.toList == j.toList) := by
  rw [Bool.eq_iff_iff]
  cases i
  cases j
  simp

section
variable {X : Cx} {a b c : Expr} {ta tb tc : TE} {pos : Pos}
theorem fin_bl {pins : List (Addr × Obj)} {σ : St} {H : Hp} {s : Shared} {Q : VK} {k k' : Bool} (I : Inv X pins σ H s) (q : Q (.bl k) H) (e : k = k') : EP X pins σ Q (.bool k') s := by
  subst e
  exact ⟨.bl k, H, I, rfl, q⟩
theorem op_eq : OpR X (compareOp .Eq) rEq := by
  intro pins s σ H x y v u Q I rx ry h
  obtain ⟨hs, q⟩ := h
  cases x with
  | non =>
    cases rx
    cases y with
    | non => cases ry; exact PySem.EqNone.eq_none_none (fin_bl I q (by simp))
    | bl j => cases ry; exact PySem.EqNone.eq_none_bool (fin_bl I q (by simp))
    | int j => obtain ⟨t', rfl⟩ := ry; exact PySem.EqNone.eq_none_int (fin_bl I q (by simp))
    | str j => obtain ⟨t', rfl⟩ := ry; exact PySem.EqNone.eq_none_str (fin_bl I q (by simp))
    | _ => exact absurd (show false = true from hs) Bool.false_ne_true
  | bl i =>
    cases rx
    cases y with
    | non => cases ry; exact PySem.EqNone.eq_bool_none (fin_bl I q (by simp))
    | bl j => cases ry; exact eq_bool (fin_bl I q dec_bl)
    | str j => obtain ⟨t', rfl⟩ := ry; exact PySem.EqMixed.eq_bool_str (fin_bl I q (by simp))
    | _ => exact absurd (show false = true from hs) Bool.false_ne_true
  | int i =>
    obtain ⟨t, rfl⟩ := rx
    cases y with
    | non => cases ry; exact PySem.EqNone.eq_int_none (fin_bl I q (by simp))
    | int j => obtain ⟨t', rfl⟩ := ry; exact eq_int (fin_bl I q dec_int)
    | str j => obtain ⟨t', rfl⟩ := ry; exact PySem.EqMixed.eq_int_str (fin_bl I q (by simp))
    | _ => exact absurd (show false = true from hs) Bool.false_ne_true
  | str i =>
    obtain ⟨t, rfl⟩ := rx
    cases y with
    | non => cases ry; exact PySem.EqNone.eq_str_none (fin_bl I q (by simp))
    | bl j => cases ry; exact PySem.EqMixed.eq_str_bool (fin_bl I q (by simp))
    | int j => obtain ⟨t', rfl⟩ := ry; exact PySem.EqMixed.eq_str_int (fin_bl I q (by simp))
    | str j => obtain ⟨t', rfl⟩ := ry; exact eq_str (fin_bl I q dec_str)
    | _ => exact absurd (show false = true from hs) Bool.false_ne_true
  | byt i =>
    obtain ⟨t, rfl⟩ := rx
    cases y with
    | byt j => obtain ⟨t', rfl⟩ := ry; exact PySem.W.eq_bytes (fin_bl I q dec_byt)
    | _ => exact absurd (show false = true from hs) Bool.false_ne_true
  | _ => cases y <;> exact absurd (show false = true from hs) Bool.false_ne_true
theorem op_ne : OpR X (compareOp .NotEq) rNe := by
  intro pins s σ H x y v u Q I rx ry h
  obtain ⟨hs, q⟩ := h
  cases x with
  | non =>
    cases rx
    cases y with
    | non => cases ry; exact PySem.EqNone.ne_none_none (fin_bl I q (by simp))
    | bl j => cases ry; exact PySem.EqNone.ne_none_bool (fin_bl I q (by simp))
    | int j => obtain ⟨t', rfl⟩ := ry; exact PySem.EqNone.ne_none_int (fin_bl I q (by simp))
    | str j => obtain ⟨t', rfl⟩ := ry; exact PySem.EqNone.ne_none_str (fin_bl I q (by simp))
    | _ => exact absurd (show false = true from hs) Bool.false_ne_true
  | bl i =>
    cases rx
    cases y with
    | non => cases ry; exact PySem.EqNone.ne_bool_none (fin_bl I q (by simp))
    | bl j => cases ry; exact ne_bool (fin_bl I q (congrArg not dec_bl))
    | str j => obtain ⟨t', rfl⟩ := ry; exact PySem.EqMixed.ne_bool_str (fin_bl I q (by simp))
    | _ => exact absurd (show false = true from hs) Bool.false_ne_true
  | int i =>
    obtain ⟨t, rfl⟩ := rx
    cases y with
    | non => cases ry; exact PySem.EqNone.ne_int_none (fin_bl I q (by simp))
    | int j => obtain ⟨t', rfl⟩ := ry; exact ne_int (fin_bl I q (congrArg not dec_int))
    | str j => obtain ⟨t', rfl⟩ := ry; exact PySem.EqMixed.ne_int_str (fin_bl I q (by simp))
    | _ => exact absurd (show false = true from hs) Bool.false_ne_true
  | str i =>
    obtain ⟨t, rfl⟩ := rx
    cases y with
    | non => cases ry; exact PySem.EqNone.ne_str_none (fin_bl I q (by simp))
    | bl j => cases ry; exact PySem.EqMixed.ne_str_bool (fin_bl I q (by simp))
    | int j => obtain ⟨t', rfl⟩ := ry; exact PySem.EqMixed.ne_str_int (fin_bl I q (by simp))
    | str j => obtain ⟨t', rfl⟩ := ry; exact ne_str (fin_bl I q (congrArg not dec_str))
    | _ => exact absurd (show false = true from hs) Bool.false_ne_true
  | byt i =>
    obtain ⟨t, rfl⟩ := rx
    cases y with
    | byt j => obtain ⟨t', rfl⟩ := ry; exact PySem.W.ne_bytes (fin_bl I q (congrArg not dec_byt))
    | _ => exact absurd (show false = true from hs) Bool.false_ne_true
  | _ => cases y <;> exact absurd (show false = true from hs) Bool.false_ne_true

theorem op_lt : OpR X (compareOp .Lt) (rI0 fun i j => .bl (decide (i < j))) := opB0 fun _ _ _ _ _ _ _ q => lt_int q
theorem op_gt : OpR X (compareOp .Gt) (rI0 fun i j => .bl (decide (j < i))) := opB0 fun _ _ _ _ _ _ _ q => gt_int q
theorem nomark (b : Expr) {op : CmpOp} (h : op ≠ .In := by decide) (h2 : op ≠ .NotIn := by decide) : behindInMarks op b = false := by
  have e1 : (op == CmpOp.In) = false := by cases op <;> first | rfl | exact absurd rfl h
  have e2 : (op == CmpOp.NotIn) = false := by cases op <;> first | rfl | exact absurd rfl h2
  cases b <;> simp [behindInMarks, e1, e2]

theorem pe_cmpR {op : CmpOp} {r : R2} (ho : OpR X (compareOp op) r) (ha : PE X a ta) (hb : PE X b tb) (hm : behindInMarks op b = false) : PE X (.Compare a [op] [b] pos) (tOp r ta tb) := by
  intro pins s σ H Q I h
  exact wpAny_Compare1 (binT ha hb I h fun v u s2 x y H2 I2 rx ry q => ho pins s2 σ H2 x y v u Q I2 rx ry q) hm

def tTest (t : TE) : TT := fun σ H Q => t σ H fun x H' => ∃ k, x = .bl k ∧ Q k H'
theorem pt_cmpR {op : CmpOp} {r : R2} (ho : OpR X (compareOp op) r) (ha : PE X a ta) (hb : PE X b tb) (hm : behindInMarks op b = false) : PT X (.Compare a [op] [b] pos) (tTest (tOp r ta tb)) := by
  intro pins s σ H Q I h
  refine wpAny_isTrue_Compare1 (thn (ha pins s σ H _ I h) fun v s1 ⟨x, H1, I1, r1, q1⟩ => thn (hb pins s1 σ H1 _ I1 q1) fun u s2 ⟨y, H2, I2, r2, q2⟩ =>
    thn (ho pins s2 σ H2 x y v u _ I2 r1 r2 q2) fun c s3 ⟨z, H3, I3, r3, k, e, q3⟩ => ?_) hm
  subst e
  cases r3
  exact wpAny_truthy_bool ⟨H3, I3, q3⟩

theorem line63 : (sizeLine : Nat) < 2 ^ 63 := by rw [sizeLine_eq]; decide
theorem vals1 {x : V} {us : List Value} (r : Vals [x] us) : ∃ u, us = [u] ∧ RelV x u := by
  cases r with
  | cons r1 r2 => cases r2; exact ⟨_, rfl, r1⟩
theorem vals2 {x y : V} {us : List Value} (r : Vals [x, y] us) : ∃ u w', us = [u, w'] ∧ RelV x u ∧ RelV y w' := by
  cases r with
  | cons r1 r2 =>
    cases r2 with
    | cons r3 r4 => cases r4; exact ⟨_, _, rfl, r1, r3⟩
theorem call_max2 (hc : X.calm = true) : CallR X (.builtin "max") (fun xs H Q => ∃ i j, xs = [.int i, .int j] ∧ Q (.int (if j > i then j else i)) H) := by
  intro pins s σ H xs us Q I r h
  obtain ⟨i, j, rfl, q⟩ := h
  obtain ⟨u, w', rfl, ⟨t, rfl⟩, ⟨t', rfl⟩⟩ := vals2 r
  refine max_two_ints (I.ok.hd hc) fun h' tk k => ⟨_, H, I.kept k, ?_, q⟩
  by_cases hj : j > i
  · rw [if_pos hj, if_pos hj]; exact ⟨_, rfl⟩
  · rw [if_neg hj, if_neg hj]; exact ⟨_, rfl⟩
end
end L2

namespace L2
open PySem PySem.Spec PyProof.Rows


structure ObjM (h : Heap) (x dx C : Addr) (mA : Str → Option Value) : Prop where
  obj : h.get? x = some (PySem.W.instObj C dx)
  ns : h.Ns1 dx mA
  ne : dx ≠ x

theorem lookIn_ns {h : Heap} {dx : Addr} {mA : Str → Option Value} (n : h.Ns1 dx mA) : ∃ od, h.get? dx = some od ∧ ∀ name, PySem.W.lookIn name od = some (mA name) := by
  obtain ⟨o, es, ep, ho, hd, hk, _, hm⟩ := n
  refine ⟨o, ho, fun name => ?_⟩
  have e := hm name
  unfold nsFind findBy at e
  rw [← Array.find?_toList] at e
  unfold PySem.W.lookIn
  rw [hd]
  dsimp only
  split
  · rename_i y q
    rw [q] at e
    exact congrArg some e
  · rename_i q
    rw [q] at e
    have a : es.toList.any (·.refKey) = false := by
      rw [List.any_eq_false]
      intro y hy
      obtain ⟨z, t, hkey⟩ := hk y (Array.mem_toList_iff.mp hy)
      simp [DictEntry.refKey, hkey]
    have a' : ¬ es.toList.any (·.refKey) = true := by rw [a]; exact Bool.false_ne_true
    rw [if_neg a']
    exact congrArg some e

theorem ObjM.look {h : Heap} {x dx C : Addr} {mA : Str → Option Value} (I : ObjM h x dx C mA) : ∃ od, PySem.W.InstAt h x (PySem.W.instObj C dx) C (some od) ∧ ∀ name, PySem.W.lookIn name od = some (mA name) :=
  let ⟨od, ho, hl⟩ := lookIn_ns I.ns
  ⟨od, ⟨I.obj, rfl, rfl, ho⟩, hl⟩

section
variable {prog : Program} {w : World} {A : Around} {E : Value → Shared → Prop} {s : Shared} {K : PySem.W.Frag} {x dx C f : Addr} {mA : Str → Option Value} {name : Str} {v : Value}

theorem get_map {expr : Bool} {Q : Value → Shared → Prop} (X : K.In s.heap) (I : ObjM s.heap x dx C mA) (hg : PySem.W.plainGet K C name = true) (hh : PySem.W.hasDictIn K C = true)
    (ha : PySem.W.findIn K (.ref C) name = some none) (hv : mA name = some v) (hv' : PySem.W.handedIn v = true) (h : Q v { s with toks := s.toks + 1 }) :
    wpAny (model prog w) A (getAttr (.ref x) name expr) Q E s := by
  obtain ⟨od, J, hl⟩ := I.look
  exact PySem.W.get_value X J (PySem.W.plainGet_of hg).1 (PySem.W.findObj_own hh ha rfl (by rw [hl, hv])) hv' h

theorem get_meth {pl : Sem Bool} {Q : Value × List Value → Shared → Prop} (X : K.In s.heap) (I : ObjM s.heap x dx C mA) (hg : PySem.W.plainGet K C name = true)
    (hf : PySem.W.findIn K (.ref C) name = some (some (.ref f))) (ht : PySem.W.isFn K (.ref f) = true) (hv : mA name = none) (h : Q (.ref f, [.ref x]) s) :
    wpAny (model prog w) A (getMethod (.ref x) name pl) Q E s := by
  obtain ⟨od, J, hl⟩ := I.look
  exact PySem.W.method_fn X J (PySem.W.plainGet_of hg).1 (PySem.W.plainGet_of hg).2 hf (beq_iff_eq.mp ht) (by show (PySem.W.lookIn name od).map (·.isSome) = some false; rw [hl, hv]; rfl) h

theorem set_map {ns : List Str} {Q : Unit → Shared → Prop} (X : K.In s.heap) (I : ObjM s.heap x dx C mA)
    (hs : PySem.W.findIn K (.ref C) "__setattr__" = some (some (.builtin "object.__setattr__"))) (hp : PySem.W.plainOver K C = true) (ht : PySem.W.takerIn K C name = some none) (hh : PySem.W.hasDictIn K C = true)
    (hw : PySem.Within mA ns) (hsz : ns.length ≤ sizeLine)
    (h : ∀ h', ObjM h' x dx C (fun y => if y = name then some v else mA y) → Heap.SameBut dx s.heap h' → Q () { s with heap := h', toks := s.toks + 2 }) :
    wpAny (model prog w) A (setAttr (.ref x) name v) Q E s := by
  obtain ⟨od, J, hl⟩ := I.look
  refine PySem.W.set_plain X J hs (PySem.W.osa_open (s := { s with toks := s.toks + 1 }) (r := none) X J hp ht fun b => ?_)
  obtain ⟨cd, hc, hd'⟩ := PySem.W.any_some hh
  have hx : s.heap.get? x = some ⟨.ref C, some dx, .plain, #[]⟩ := I.obj
  refine wpAny_bind (wpAny_pure (wpAny_bind (wpAny_bind (wpAny_loadPart hx (wpAny_bind (PySem.W.Looks.here (s := { s with toks := s.toks + 1 }) (PySem.W.looks_clsIn X hc) ?_))))))
  rw [hd']
  refine wpAny_pure (a := some dx) (wpAny_bind (wpAny_pure (wpAny_bind ?_)))
  refine wpAny_nsSet1 (s := { s with toks := s.toks + 1 }) I.ns fun h' hn2 hs2 => ?_
  obtain ⟨oD, esD, epD, hoD, hdD, hcD⟩ := hn2.count (PySem.Within.cons name v hw)
  refine wpAny_bind (wpAny_lookBehind hoD (by rw [hdD]; exact pastItsLine_dict (Nat.le_trans hcD (by rw [List.length_cons]; omega))) ?_)
  exact wpAny_pure (h _ ⟨(hs2.2 _ (Ne.symm I.ne)).trans I.obj, hn2, I.ne⟩ hs2)


theorem make_map {R : Result → Shared → Prop} {vs : List Value} {kw : List (Str × Value)} (X : K.In s.heap) (hm : PySem.W.makesIn K C = true)
    (hi : PySem.W.findIn K (.ref C) "__init__" = some (some (.ref f))) (hf : PySem.W.typeIn K (.ref f) = some (.type "function"))
    (h : codeAny (model prog w) (A.under (.builtin "type.__call__" ⟨.ref C :: vs, kw⟩)) (.call (.ref f) ⟨.ref (s.heap.objs.size + 1) :: vs, kw⟩) (PySem.W.InitBack (s.heap.objs.size + 1) R)
      { s with heap := (s.heap.push PySem.W.emptyDict).push (PySem.W.instObj C s.heap.objs.size) }) :
    codeAny (model prog w) A (.call (.ref C) ⟨vs, kw⟩) R s := by
  obtain ⟨hh, g, d, t, os⟩ := s
  exact PySem.W.make_core (PySem.W.makes_of X hm) (PySem.W.looks_findIn X hi) (fun self => PySem.W.bind_fn X self hf) (.inl rfl) h

end


def putF (f : Str) (v : V) : List (Str × V) → List (Str × V)
  | [] => [(f, v)]
  | (g, x) :: r => if g = f then (g, v) :: r else (g, x) :: putF f v r
theorem lookup_putF (f g : Str) (v : V) : ∀ fs : List (Str × V), (putF f v fs).lookup g = if g = f then some v else fs.lookup g
  | [] => by
    show List.lookup g [(f, v)] = _
    by_cases h : g = f
    · have hb : (g == f) = true := beq_iff_eq.mpr h
      simp only [List.lookup, hb, if_pos h]
    · have hb : (g == f) = false := beq_eq_false_iff_ne.mpr h
      simp only [List.lookup, hb, if_neg h]
  | (k, x) :: r => by
    have ih := lookup_putF f g v r
    rw [show putF f v ((k, x) :: r) = (if k = f then (k, v) :: r else (k, x) :: putF f v r) from rfl]
    by_cases hk : k = f
    · rw [if_pos hk]
      by_cases h : g = k
      · have hb : (g == k) = true := beq_iff_eq.mpr h
        simp only [List.lookup, hb, if_pos (h.trans hk)]
      · have hb : (g == k) = false := beq_eq_false_iff_ne.mpr h
        simp only [List.lookup, hb, if_neg (fun e : g = f => h (e.trans hk.symm))]
    · rw [if_neg hk]
      by_cases h : g = k
      · have hb : (g == k) = true := beq_iff_eq.mpr h
        simp only [List.lookup, hb, if_neg (fun e : g = f => hk (h.symm.trans e))]
      · have hb : (g == k) = false := beq_eq_false_iff_ne.mpr h
        simp only [List.lookup, hb]
        exact ih
theorem keys_putF (f : Str) (v : V) : ∀ fs : List (Str × V), f ∈ (putF f v fs).map (·.1) ∧ ∀ g, g ∈ fs.map (·.1) → g ∈ (putF f v fs).map (·.1)
  | [] => ⟨by simp [putF], fun g h => by simp at h⟩
  | (k, x) :: r => by
    obtain ⟨i1, i2⟩ := keys_putF f v r
    rw [show putF f v ((k, x) :: r) = (if k = f then (k, v) :: r else (k, x) :: putF f v r) from rfl]
    by_cases hk : k = f
    · rw [if_pos hk]
      subst hk
      exact ⟨by simp, fun g h => by simpa using h⟩
    · rw [if_neg hk]
      refine ⟨?_, fun g h => ?_⟩
      · rw [List.map_cons]
        exact List.mem_cons_of_mem _ i1
      · rw [List.map_cons] at h ⊢
        rcases List.mem_cons.mp h with e | e
        · exact List.mem_cons.mpr (.inl e)
        · exact List.mem_cons_of_mem _ (i2 g e)
theorem length_putF (f : Str) (v : V) : ∀ fs : List (Str × V), (putF f v fs).length ≤ fs.length + 1
  | [] => by simp [putF]
  | (k, x) :: r => by
    have ih := length_putF f v r
    rw [show putF f v ((k, x) :: r) = (if k = f then (k, v) :: r else (k, x) :: putF f v r) from rfl]
    by_cases hk : k = f
    · rw [if_pos hk, List.length_cons, List.length_cons]; omega
    · rw [if_neg hk, List.length_cons, List.length_cons]; omega

theorem RelO.some_of {v : V} {o : Option Value} (r : RelO (some v) o) : ∃ u, o = some u ∧ RelV v u := by
  cases o with
  | none => exact (show False from r).elim
  | some u => exact ⟨u, rfl, r⟩
theorem RelO.none_of {o : Option Value} (r : RelO none o) : o = none := by
  cases o with
  | none => rfl
  | some u => exact (show False from r).elim
theorem handed_of {v : V} {u : Value} (r : RelV v u) : PySem.W.handedIn u = true := by
  cases v with
  | non => cases (show u = Value.none from r); rfl
  | bl b => cases (show u = Value.bool b from r); rfl
  | int i => obtain ⟨t, e⟩ := (show ∃ t, u = Value.int i t from r); cases e; rfl
  | str x => obtain ⟨t, e⟩ := (show ∃ t, u = Value.str x t from r); cases e; rfl
  | byt b => obtain ⟨t, e⟩ := (show ∃ t, u = Value.bytes b t from r); cases e; rfl
  | flt b => obtain ⟨t, e⟩ := (show ∃ t, u = Value.float b t from r); cases e; rfl
  | ref a => cases (show u = Value.ref a from r); rfl
  | ty n => cases (show u = Value.type n from r); rfl

section
variable {P : Program} {w : World} {H H' : Hp} {h h' : Heap} {a C dx : Addr} {fs fs' : List (Str × V)}
theorem ins_get (hok : HOk P w H h) (e : H a = some (.ins C dx fs)) : ∃ mA, ObjM h a dx C mA ∧ (∀ f, RelO (fs.lookup f) (mA f)) ∧ PySem.Within mA (fs.map (·.1)) ∧ fs.length ≤ 1000 ∧ H dx = some (.own a) := by
  obtain ⟨d, z, ne, ob, mA, n, r, q⟩ := (show ObjOk P w H h a (.ins C dx fs) from hok a _ e)
  exact ⟨mA, ⟨ob, n, ne⟩, r, q, z, d⟩
end


structure Cls (K : PySem.W.Frag) (C : Addr) : Prop where
  pg : PySem.W.plainGet K C Str.empty = true
  hd : PySem.W.hasDictIn K C = true
  po : PySem.W.plainOver K C = true
  sa : PySem.W.findIn K (.ref C) "__setattr__" = some (some (.builtin "object.__setattr__"))
theorem Cls.get {K : PySem.W.Frag} {C : Addr} (c : Cls K C) (f : Str) : PySem.W.plainGet K C f = true := c.pg

def NoAttr (K : PySem.W.Frag) (C : Addr) (f : Str) : Prop := PySem.W.findIn K (.ref C) f = some none
theorem NoAttr.taker {K : PySem.W.Frag} {C : Addr} {f : Str} (n : NoAttr K C f) : PySem.W.takerIn K C f = some none := by
  unfold PySem.W.takerIn
  rw [show PySem.W.findIn K (.ref C) f = some none from n]
  rfl

structure Con (K : PySem.W.Frag) (C : Addr) (f : Str) (v : V) (u : Value) : Prop where
  at_ : PySem.W.findIn K (.ref C) f = some (some u)
  rel : RelV v u
  get : PySem.W.specialIn K u "__get__" = some none
  cp : PySem.W.copiedNames.contains f = false

structure Meth (K : PySem.W.Frag) (C : Addr) (m : Str) (f : Addr) : Prop where
  at_ : PySem.W.findIn K (.ref C) m = some (some (.ref f))
  fn : PySem.W.isFn K (.ref f) = true
  kp : PySem.W.keepIn K (.ref f) = true

section
variable {X : Cx} {pins : List (Addr × Obj)} {σ : St} {H : Hp} {s : Shared} {a C dx : Addr} {fs : List (Str × V)} {f : Str} {v : V} {A : Around} {E : Value → Shared → Prop}

theorem getattr_ok {b : Bool} {Q : Value → Shared → Prop} (I : Inv X pins σ H s) (e : H a = some (.ins C dx fs)) (c : Cls X.K C) (n : NoAttr X.K C f) (l : fs.lookup f = some v)
    (h : ∀ u s', Inv X pins σ H s' → RelV v u → Q u s') : wpAny (model X.prog X.w) A (getAttr (.ref a) f b) Q E s := by
  obtain ⟨mA, O, r, _, _, _⟩ := ins_get I.hok e
  obtain ⟨u, hu, ru⟩ := RelO.some_of (v := v) (o := mA f) (by rw [← l]; exact r f)
  exact get_map I.kIn O (c.get f) c.hd n hu (handed_of ru) (h u _ (I.tok _) ru)

theorem getmeth_ok {m : Str} {g : Addr} {pl : Sem Bool} {Q : Value × List Value → Shared → Prop} (I : Inv X pins σ H s) (e : H a = some (.ins C dx fs)) (c : Cls X.K C) (k : Meth X.K C m g) (l : fs.lookup m = none)
    (h : Q (.ref g, [.ref a]) s) : wpAny (model X.prog X.w) A (getMethod (.ref a) m pl) Q E s := by
  obtain ⟨mA, O, r, _, _, _⟩ := ins_get I.hok e
  have hn : mA m = none := RelO.none_of (by rw [← l]; exact r m)
  exact get_meth I.kIn O (c.get m) k.at_ k.fn hn h

theorem setattr_ok {y : V} {u : Value} {Q : Unit → Shared → Prop} (I : Inv X pins σ H s) (e : H a = some (.ins C dx fs)) (c : Cls X.K C) (n : NoAttr X.K C f) (hl : fs.length < 1000) (ry : RelV y u)
    (h : ∀ s', Inv X pins σ (upd H a (.ins C dx (putF f y fs))) s' → Q () s') : wpAny (model X.prog X.w) A (setAttr (.ref a) f u) Q E s := by
  obtain ⟨mA, O, r, wi, _, ho⟩ := ins_get I.hok e
  have hz : (fs.map (·.1)).length ≤ sizeLine := by rw [List.length_map, sizeLine_eq]; omega
  refine set_map I.kIn O c.sa c.po n.taker c.hd wi hz fun h' O' sb => h _ ?_
  have hd : ∃ o, h'.get? dx = some o := let ⟨o, _, _, e', _⟩ := O'.ns; ⟨o, e'⟩
  refine I.write (x := a) (e := dx) (by rw [e]; exact True.intro) (.inr ho) (fun b q hb z => (sb.2 b hb).trans z) hd ?_
  refine ⟨by rw [upd_ne O.ne]; exact ho, ?_, O.ne, O'.obj, _, O'.ns, fun g => ?_, fun g hg => ?_⟩
  · have := length_putF f y fs; omega
  · show RelO ((putF f y fs).lookup g) (if g = f then some u else mA g)
    rw [lookup_putF]
    by_cases q : g = f
    · rw [if_pos q, if_pos q]; exact ry
    · rw [if_neg q, if_neg q]; exact r g
  · by_cases q : g = f
    · rw [q]; exact (keys_putF f y fs).1
    · refine (keys_putF f y fs).2 g (wi g fun z => hg ?_)
      show (if g = f then some u else mA g) = none
      rw [if_neg q]; exact z


theorem Inv.made (I : Inv X pins σ H s) : Inv X pins σ (upd (upd H s.heap.objs.size (.own (s.heap.objs.size + 1))) (s.heap.objs.size + 1) (.ins C s.heap.objs.size []))
    { s with heap := (s.heap.push PySem.W.emptyDict).push (PySem.W.instObj C s.heap.objs.size) } := by
  have e1 : (s.heap.push PySem.W.emptyDict).get? s.heap.objs.size = some PySem.W.emptyDict := Heap.get?_push_size s.heap rfl
  have e2 : ((s.heap.push PySem.W.emptyDict).push (PySem.W.instObj C s.heap.objs.size)).get? (s.heap.objs.size + 1) = some (PySem.W.instObj C s.heap.objs.size) := by
    have := Heap.get?_push_size (s.heap.push PySem.W.emptyDict) (o := PySem.W.instObj C s.heap.objs.size) rfl
    rwa [Heap.size_push] at this
  have e3 : (s.heap.push PySem.W.emptyDict).Ns s.heap.objs.size (fun _ => none) := ⟨PySem.W.emptyDict, #[], _, e1, rfl, (fun e he => absurd he (by simp)), fun _ => rfl⟩
  have I1 := I.laid (a := s.heap.objs.size) (o := .own (s.heap.objs.size + 1)) (h' := s.heap.push PySem.W.emptyDict) (t' := s.toks) (fun b u q => Heap.get?_push_of_some _ q) (Nat.le_refl _) ⟨_, e1⟩
  refine I1.laid (a := s.heap.objs.size + 1) (o := .ins C s.heap.objs.size []) (t' := s.toks) (fun b u q => Heap.get?_push_of_some _ q) (Nat.le_of_eq (Heap.size_push _ _)) ?_
  have ne : s.heap.objs.size ≠ s.heap.objs.size + 1 := Nat.ne_of_lt (Nat.lt_succ_self _)
  refine ⟨by rw [upd_ne ne, upd_same], Nat.zero_le _, ne, e2, fun _ => none, (Heap.Ns1.of_empty e3).at fun o q => Heap.get?_push_of_some _ q, fun _ => True.intro, fun y hy => absurd rfl hy⟩


theorem attr_of {prog : Program} {w : World} {env : Env} {e : Expr} {f : Str} {pos : Pos} {s : Shared} {Q : Value → Shared → Prop} (hb : attributeBase e f env (eval e env) = eval e env)
    (h : wpAny (model prog w) A (eval e env) (fun o s₁ => wpAny (model prog w) A (getAttr o f true) Q E s₁) E s) : wpAny (model prog w) A (eval (.Attribute e f pos) env) Q E s :=
  Attribute_any_ h (by rw [arm_eval_Attribute, hb])
end



def tFld (K : PySem.W.Frag) (ta : TE) (f : Str) : TE := fun σ H Q => ta σ H fun x H1 => ∃ a C dx fs v, x = .ref a ∧ H1 a = some (.ins C dx fs) ∧ Cls K C ∧ NoAttr K C f ∧ fs.lookup f = some v ∧ Q v H1

def sFld (K : PySem.W.Frag) (ta tv : TE) (f : Str) : TS := fun D σ H => tv σ H fun y H1 => ta σ H1 fun x H2 => ∃ a C dx fs, x = .ref a ∧ H2 a = some (.ins C dx fs) ∧ Cls K C ∧ NoAttr K C f ∧ fs.length < 1000 ∧
  D.nx σ (upd H2 a (.ins C dx (putF f y fs)))

section
variable {X : Cx} {o e value : Expr} {f : Str} {pos pos' tpos : Pos} {ta tv : TE}
theorem pe_fld (he : PE X e ta) (hb : attributeBase e f X.env (eval e X.env) = eval e X.env) : PE X (.Attribute e f pos) (tFld X.K ta f) := by
  intro pins s σ H Q I h
  refine attr_of hb (thn (he pins s σ H _ I h) fun u s1 ⟨x, H1, I1, rx, a, C, dx, fs, v, ex, ea, c, n, l, q⟩ => ?_)
  subst ex
  obtain rfl : u = Value.ref a := rx
  exact getattr_ok I1 ea c n l fun u' s2 I2 ru => ⟨v, H1, I2, ru, q⟩
theorem ps_fld (ha : PE X o ta) (hv : PE X value tv) (hs : swapsWith value (some (.Attribute o f pos')) pos.line X.env = pure false) : PS X (.Assign [.Attribute o f pos'] value pos) (sFld X.K ta tv f) := by
  intro pins s σ H D I h
  refine plainObj_wpAny_Assign_Attribute (thn (hv pins s σ H _ I h) fun u s1 ⟨y, H1, I1, ry, q⟩ => thn (ha pins s1 σ H1 _ I1 q) fun ov s2 ⟨x, H2, I2, rx, a, C, dx, fs, ex, ea, c, n, l, q2⟩ => ?_) hs
  subst ex
  obtain rfl : ov = Value.ref a := rx
  exact setattr_ok I2 ea c n l ry fun s3 I3 => ⟨σ, _, I3, q2⟩
end


section
variable {X : Cx} {pins : List (Addr × Obj)} {σ : St} {H : Hp} {s : Shared} {A : Around} {E : Value → Shared → Prop} {Q : Value → Shared → Prop} {c : Value} {b : Bool}

inductive TyOf (K : PySem.W.Frag) (H : Hp) : V → Value → Prop where
  | non : TyOf K H .non (.type "NoneType")
  | bl (x : Bool) : TyOf K H (.bl x) (.type "bool")
  | int (i : Int) : TyOf K H (.int i) (.type "int")
  | str (x : Str) : TyOf K H (.str x) (.type "str")
  | flt (x : UInt64) : TyOf K H (.flt x) (.type "float")
  | lst {a : Addr} {xs : List V} (e : H a = some (.lst xs)) : TyOf K H (.ref a) (.type "list")
  | frz {a : Addr} {o : Obj} {xs : List V} (e : H a = some (.frz o (.lst xs))) : TyOf K H (.ref a) (.type "list")
  | tup {a : Addr} {xs : List V} (e : H a = some (.tup xs)) : TyOf K H (.ref a) (.type "tuple")
  | dK {a : Addr} {kvs : List (Key × V)} (e : H a = some (.dK kvs)) : TyOf K H (.ref a) (.type "dict")
  | dT {a : Addr} {kvs : List (List Key × V)} (e : H a = some (.dT kvs)) : TyOf K H (.ref a) (.type "dict")
  | ins {a C dx : Addr} {fs : List (Str × V)} (e : H a = some (.ins C dx fs)) (cl : Cls K C) (ha : PySem.W.findIn K (.ref C) "__class__" = some (some (.builtin "object.__class__")))
      (hn : PySem.W.specialIn K (.builtin "object.__class__") "__get__" = some (some (.builtin "getset_descriptor.__get__"))) (htk : PySem.W.takesIn K (.builtin "object.__class__") = some true)
      (hm : PySem.W.mroIn K C (.type "object") = some true) : TyOf K H (.ref a) (.ref C)

theorem isinst_ok {x : V} {u t : Value} (I : Inv X pins σ H s) (rx : RelV x u) (ty : TyOf X.K H x t) (e : PySem.W.kitOne X.K t c = some b) (h : ∀ tk, Q (.bool b) { s with toks := tk }) :
    wpAny (model X.prog X.w) A (call (.builtin "isinstance") [u, c]) Q E s := by
  cases ty with
  | non => cases (show u = Value.none from rx); exact PySem.W.kia_one PySem.W.kitx_none I.kIn True.intro e (fun z => nomatch z) h
  | bl y => cases (show u = Value.bool y from rx); exact PySem.W.kia_one PySem.W.kitx_bool I.kIn True.intro e (fun z => nomatch z) h
  | int i => obtain ⟨t, q⟩ := (show ∃ t, u = Value.int i t from rx); cases q; exact PySem.W.kia_one PySem.W.kitx_int I.kIn True.intro e (fun z => nomatch z) h
  | str y => obtain ⟨t, q⟩ := (show ∃ t, u = Value.str y t from rx); cases q; exact PySem.W.kia_one PySem.W.kitx_str I.kIn True.intro e (fun z => nomatch z) h
  | flt y => obtain ⟨t, q⟩ := (show ∃ t, u = Value.float y t from rx); cases q; exact PySem.W.kia_one PySem.W.kitx_float I.kIn True.intro e (fun z => nomatch z) h
  | @lst a xs ea =>
    cases (show u = Value.ref a from rx)
    obtain ⟨_, _, n, _, h1⟩ := (show ObjOk X.prog X.w H s.heap a (.lst xs) from I.hok a _ ea)
    exact PySem.W.kia_one PySem.W.kitx_list I.kIn ⟨_, h1, rfl⟩ e (fun z => nomatch z) h
  | @frz a ob xs ea =>
    cases (show u = Value.ref a from rx)
    obtain ⟨_, _, _, n, _, h1⟩ := (show ObjOk X.prog X.w H s.heap a (.frz ob (.lst xs)) from I.hok a _ ea)
    exact PySem.W.kia_one PySem.W.kitx_list I.kIn ⟨_, h1, rfl⟩ e (fun z => nomatch z) h
  | @tup a xs ea =>
    cases (show u = Value.ref a from rx)
    obtain ⟨_, _, _, p⟩ := (show ObjOk X.prog X.w H s.heap a (.tup xs) from I.hok a _ ea)
    obtain ⟨o, h1, h2, _⟩ := p
    exact PySem.W.kia_one PySem.W.kitx_tuple I.kIn ⟨o, h1, h2⟩ e (fun z => nomatch z) h
  | @dK a kvs ea =>
    cases (show u = Value.ref a from rx)
    obtain ⟨_, _, vs, _, p⟩ := (show ObjOk X.prog X.w H s.heap a (.dK kvs) from I.hok a _ ea)
    obtain ⟨o, es, ep, h1, h2, _⟩ := p
    exact PySem.W.kia_one PySem.W.kitx_dict I.kIn ⟨o, h1, h2.1⟩ e (fun z => nomatch z) h
  | @dT a kvs ea =>
    cases (show u = Value.ref a from rx)
    obtain ⟨_, _, xs, _, o, es, ep, h1, h2, _⟩ := (show ObjOk X.prog X.w H s.heap a (.dT kvs) from I.hok a _ ea)
    exact PySem.W.kia_one PySem.W.kitx_dict I.kIn ⟨o, h1, h2.1⟩ e (fun z => nomatch z) h
  | @ins a C dx fs ea cl ha hn htk hm =>
    cases (show u = Value.ref a from rx)
    obtain ⟨mA, O, _⟩ := ins_get I.hok ea
    obtain ⟨od, J, _⟩ := O.look
    exact PySem.W.kia_one (PySem.W.kitx_own (cl.get _) cl.hd ha hn htk hm) I.kIn J e (fun z => nomatch z) h
end
end L2

namespace L2
open PySem PySem.Spec PyProof.Rows


structure Room (k : Nat) (A : Around) : Prop where
  hd : A.handled = none
  dp : A.depth + 3 * k + 5 < recursionLimit
  un : A.units + 16 * k + 200 < cLine
theorem Room.mono {j k : Nat} {A : Around} (r : Room k A) (h : j ≤ k) : Room j A := ⟨r.hd, by have := r.dp; omega, by have := r.un; omega⟩
theorem Room.deeper {k : Nat} {A : Around} (r : Room (k + 1) A) (env : Env) : Room k (A.deeper env) :=
  ⟨r.hd, by have := r.dp; show A.depth + 1 + 3 * k + 5 < _; omega, by have := r.un; show A.units + 3 + 16 * k + 200 < _; omega⟩
theorem make_depth {A : Around} {C : Addr} {us : List Value} {kw : List (Str × Value)} : (A.under (.builtin "type.__call__" ⟨.ref C :: us, kw⟩)).depth = A.depth + 1 := by
  first | rfl | simp [Around.under, Code.weight, Code.isCreation, Code.isGuard, Code.isCaller, Code.frames, Code.isFrame, guardIds]
theorem make_units {A : Around} {C : Addr} {us : List Value} {kw : List (Str × Value)} : (A.under (.builtin "type.__call__" ⟨.ref C :: us, kw⟩)).units = A.units + 1 := by
  first | rfl | simp [Around.under, Code.cUnits, Code.frames, Code.isFrame]
theorem Room.make {k : Nat} {A : Around} (r : Room (k + 1) A) (C : Addr) (us : List Value) (kw : List (Str × Value)) : Room k (A.under (.builtin "type.__call__" ⟨.ref C :: us, kw⟩)) :=
  ⟨r.hd, by have := r.dp; rw [make_depth]; omega, by have := r.un; rw [make_units]; omega⟩
theorem Room.depth {k : Nat} {A : Around} (r : Room k A) : A.depth < recursionLimit := by have := r.dp; omega
theorem Room.units {k : Nat} {A : Around} (r : Room k A) : A.units + 64 < cLine := by have := r.un; omega
def tNil : TA := fun _ H Q => Q [] H
def tCons (ta : TE) (tr : TA) : TA := fun σ H Q => ta σ H fun x H1 => tr σ H1 fun xs H2 => Q (x :: xs) H2
section
variable {X : Cx} {e : Expr} {es : List Expr} {te : TE} {t : TA} {pos : Pos}
theorem pa_nil : PA X [] tNil := fun _ _ _ _ H Q I h => Calls.spliced_nil ⟨[], H, I, .nil, h⟩
theorem pa_cons (ha : PE X e te) (hr : PA X es t) (hs : starEach (e :: es) X.env = (false, eval e X.env) :: starEach es X.env := by rfl) : PA X (e :: es) (tCons te t) := by
  intro pos pins s σ H Q I h
  rw [hs]
  show wpAny _ _ (spliced ((false, eval e X.env) :: backTo pos (starEach es X.env))) _ _ s
  refine Calls.spliced_cons (thn (ha pins s σ H _ I h) fun u s1 ⟨x, H1, I1, r1, q1⟩ => ?_)
  exact thn (hr pos pins s1 σ H1 _ I1 q1) fun us s2 ⟨xs, H2, I2, r2, q2⟩ => ⟨x :: xs, H2, I2, .cons r1 r2, q2⟩


def tTup (t : TA) : TE := fun σ H Q => t σ H fun xs H1 => xs.length ≤ sizeLine ∧ ∀ p, H1 p = none → Q (.ref p) (upd H1 p (.tup xs))
def tLst (t : TA) : TE := fun σ H Q => t σ H fun xs H1 => xs.length ≤ sizeLine ∧ ∀ p, H1 p = none → Q (.ref p) (upd H1 p (.lst xs))
theorem pe_tup {x1} (h : PA X es t) : PE X (.Tuple es x1 pos) (tTup t) := by
  intro pins s σ H Q I hq
  refine wpAny_Tuple_spliced (thn (h pos pins s σ H _ I hq) fun us s1 ⟨xs, H1, I1, r, z, q⟩ => ⟨by rw [← r.length]; exact z, ?_⟩)
  have hf : H1 s1.heap.objs.size = none := I1.hok.fresh (Nat.le_refl _)
  refine ⟨.ref s1.heap.objs.size, upd H1 s1.heap.objs.size (.tup xs), I1.laid (t' := s1.toks) (fun b u e => Heap.get?_push_of_some _ e) (Nat.le_refl _) ?_, rfl, q _ hf⟩
  exact ⟨z, us, r, ⟨_, Heap.get?_push_size _ rfl, rfl, _, rfl⟩⟩
theorem pe_lst (h : PA X es t) : PE X (.List es pos) (tLst t) := by
  intro pins s σ H Q I hq
  refine wpAny_List_spliced (thn (h pos pins s σ H _ I hq) fun us s1 ⟨xs, H1, I1, r, z, q⟩ => ⟨by rw [← r.length]; exact z, ?_⟩)
  have hf : H1 s1.heap.objs.size = none := I1.hok.fresh (Nat.le_refl _)
  refine ⟨.ref s1.heap.objs.size, upd H1 s1.heap.objs.size (.lst xs), I1.laid (t' := s1.toks) (fun b u e => Heap.get?_push_of_some _ e) (Nat.le_refl _) ?_, rfl, q _ hf⟩
  exact ⟨z, us, 0, r, Heap.get?_push_size _ rfl⟩
end



abbrev Sp := List V → Hp → VK → XK → Prop

abbrev CXT := List Env → Hp → Shared → XK → Value → Shared → Prop


structure Env0 (P : Program) (w : World) (K : PySem.W.Frag) (mg : Str → Option Value) (base : Heap) (A : Around) (outer : List Env) (s : Shared) (H : Hp) : Prop where
  frames : A.frames = some outer
  mod : Mod K mg base
  bs : ∀ b o, base.get? b = some o → s.heap.get? b = some o ∧ H b = none
  bsz : base.objs.size ≤ s.heap.objs.size
  funs : s.heap.FunFrames base outer
  frf : ∀ b ∈ frs outer, H b = none
  hok : HOk P w H s.heap
  bare : AllBare s.gens

def CE (outer : List Env) (P : Program) (w : World) (H : Hp) (s : Shared) (Q : VK) (u : Value) (s' : Shared) : Prop :=
  ∃ v H', s'.os = s.os ∧ AllBare s'.gens ∧ Un (frs outer) [] H H' s.heap s'.heap ∧ HOk P w H' s'.heap ∧ RelV v u ∧ Q v H'
def CR (CX : CXT) (outer : List Env) (P : Program) (w : World) (H : Hp) (s : Shared) (Q : VK) (E : XK) (r : Result) (s' : Shared) : Prop :=
  match r with
  | .ok (.ret u) => CE outer P w H s Q u s'
  | .ok _ => False
  | .error e => CX outer H s E e s'
structure FnOk (P : Program) (w : World) (K : PySem.W.Frag) (mg : Str → Option Value) (base : Heap) (CX : CXT) (k : Nat) (f : Addr) (fd : FuncData) (ps : List Str) (sp : Sp) : Prop where
  len : ∀ vs H Q E, sp vs H Q E → vs.length = ps.length
  run : ∀ (A : Around) (outer : List Env) (s : Shared) (H : Hp) (args : Args) (us : List Value) (vs : List V) (Q : VK) (E : XK), Room k A → Env0 P w K mg base A outer s H → BindsTo s fd args (ps.zip us) → Vals vs us → sp vs H Q E →
    codeAny (model P w) A (.call (.ref f) args) (CR CX outer P w H s Q E) s
theorem Env0.make {P : Program} {w : World} {K : PySem.W.Frag} {mg : Str → Option Value} {base : Heap} {A : Around} {outer : List Env} {s : Shared} {H : Hp} (e : Env0 P w K mg base A outer s H) (C : Addr) (us : List Value) (kw : List (Str × Value)) :
    Env0 P w K mg base (A.under (.builtin "type.__call__" ⟨.ref C :: us, kw⟩)) outer s H := ⟨by first | exact e.frames | (simpa [Around.under, Code.envs, Code.isFrame, pushEnvs] using e.frames), e.mod, e.bs, e.bsz, e.funs, e.frf, e.hok, e.bare⟩
section
variable {X : Cx} {pins : List (Addr × Obj)} {σ : St} {H : Hp} {s s' : Shared}

theorem Inv.env0 (I : Inv X pins σ H s) : Env0 X.prog X.w X.K X.mg X.base X.A X.stack s H :=
  ⟨I.ok.frames, I.ok.mod, I.bs, Nat.le_trans I.ok.bsz I.sz, I.stack, I.stkFree, I.hok, I.bare⟩

theorem Inv.after {Q : VK} {u : Value} (I : Inv X pins σ H s) (h : CE X.stack X.prog X.w H s Q u s') : EP X pins σ Q u s' := by
  obtain ⟨v, H', os, bare, un, hok, r, q⟩ := h
  obtain ⟨hh, g, d, t, os'⟩ := s'
  obtain rfl : os' = s.os := os
  exact ⟨v, H', I.call (h' := hh) (g' := g) (d' := d) (t' := t) (ch := []) un hok bare (fun b z => absurd z (by simp)), r, q⟩
end



def tCall (sp : Sp) (dvs : List V) (E : XK) (t : TA) : TE := fun σ H Q => t σ H fun vs H1 => sp (vs ++ dvs) H1 Q E

def tMeth (C : Addr) (m : Str) (sp : Sp) (dvs : List V) (E : XK) (ta : TE) (t : TA) : TE := fun σ H Q => ta σ H fun x H1 => ∃ a dx fs, x = .ref a ∧ H1 a = some (.ins C dx fs) ∧ fs.lookup m = none ∧
  t σ H1 fun vs H2 => sp (x :: (vs ++ dvs)) H2 Q E

def tMake (C : Addr) (sp : Sp) (dvs : List V) (E : XK) (t : TA) : TE := fun σ H Q => t σ H fun vs H1 => ∀ x dx, H1 x = none → H1 dx = none → dx ≠ x →
  sp (.ref x :: (vs ++ dvs)) (upd (upd H1 dx (.own x)) x (.ins C dx [])) (fun v H2 => v = .non ∧ Q (.ref x) H2) E


def Binds (K : PySem.W.Frag) (fd : FuncData) (ps : List Str) (ds : List Value) : Prop :=
  ∀ (s : Shared) (us : List Value), K.In s.heap → (us ++ ds).length = ps.length → BindsTo s fd ⟨us, []⟩ (ps.zip (us ++ ds))

theorem Binds.all {K : PySem.W.Frag} {fd : FuncData} {ps : List Str} (h : ∀ us : List Value, us.length = ps.length → bindArgs fd ⟨us, []⟩ = pure (ps.zip us)) : Binds K fd ps [] := fun s us _ hl => by
  rw [List.append_nil] at hl ⊢
  exact .of_eq (h us hl)


def Passes (CX : CXT) (X : Cx) (E : XK) : Prop := ∀ (pins : List (Addr × Obj)) (σ : St) (H : Hp) (s : Shared) (e : Value) (s' : Shared), Inv X pins σ H s → CX X.stack H s E e s' → X.xe e s'

section
variable {X : Cx} {CX : CXT} {k : Nat} {f C : Addr} {fd : FuncData} {ps : List Str} {sp : Sp} {dvs : List V} {ds : List Value} {E : XK} {x m : Str} {p pos apos : Pos} {e o : Expr} {es : List Expr} {ta : TE} {t : TA}


theorem run_fn {pins : List (Addr × Obj)} {σ : St} {H : Hp} {s : Shared} {Q : VK} {us : List Value} {vs : List V} (F : FnOk X.prog X.w X.K X.mg X.base CX k f fd ps sp) (hr : Room k X.A) (hb : Binds X.K fd ps ds) (hd : Vals dvs ds) (hx : Passes CX X E)
    (I : Inv X pins σ H s) (r : Vals vs us) (h : sp (vs ++ dvs) H Q E) : wpAny (model X.prog X.w) X.A (call (.ref f) us) (EP X pins σ Q) X.xe s := by
  have r2 : Vals (vs ++ dvs) (us ++ ds) := r.append hd
  have hl : (us ++ ds).length = ps.length := by rw [← r2.length]; exact F.len _ _ _ _ h
  refine wpAny_call (codeAny_mono (F.run X.A X.stack s H ⟨us, []⟩ (us ++ ds) (vs ++ dvs) Q E hr I.env0 (hb s us I.kIn hl) r2 h) fun r s' hq => ?_)
  cases r with
  | error e => exact hx pins σ H s e s' I hq
  | ok fl =>
    cases fl with
    | ret u => exact I.after hq
    | next => exact False.elim hq
    | brk => exact False.elim hq
    | cont => exact False.elim hq

theorem pe_call (F : FnOk X.prog X.w X.K X.mg X.base CX k f fd ps sp) (hr : Room k X.A) (hg : Gl X x) (hm : X.mg x = some (.ref f)) (hk : PySem.W.keepIn X.K (.ref f) = true) (hb : Binds X.K fd ps ds) (hd : Vals dvs ds) (hx : Passes CX X E)
    (ha : PA X (e :: es) t) (hdb : (x == ("__debug__" : Str)) = false := by decide) (he : starEach (e :: es) X.env = (false, eval e X.env) :: starEach es X.env := by rfl) (hpl : (backTo pos (starEach es X.env)).any (·.1) = false := by rfl) :
    PE X (.Call (.Name x p) (e :: es) [] pos) (tCall sp dvs E t) := by
  intro pins s σ H Q I h
  refine wpAny_Call_Name_kw (ld_glob I hg hm ?_ hdb)
  refine PySem.W.callWith_K (h₀ := X.base) I.ok.mod.kin hk (thn (ha pos pins s σ H _ I h) fun us s1 ⟨vs, H1, I1, r, q⟩ => ⟨I1.kIn, ?_⟩) he hpl
  exact run_fn F hr hb hd hx I1 r q
theorem pe_meth {pl : Sem Bool} (he : PE X o ta) (c : Cls X.K C) (hm : Meth X.K C m f) (F : FnOk X.prog X.w X.K X.mg X.base CX k f fd ps sp) (hr : Room k X.A) (hb : Binds X.K fd ps ds) (hd : Vals dvs ds) (hx : Passes CX X E) (ha : PA X (e :: es) t)
    (hst : starEach (e :: es) X.env = (false, eval e X.env) :: starEach es X.env := by rfl) (hpl : (backTo pos (starEach es X.env)).any (·.1) = false := by rfl)
    (ht : eval (.Call (.Attribute o m apos) (e :: es) [] pos) X.env = (do
      let ov ← eval o X.env
      standAt apos.atName
      let (f, first) ← holding [ov] (getMethod ov m pl)
      callWith pos f first (backTo pos (starEach (e :: es) X.env)) (backToKw pos (keywordEach [] X.env))) := by rfl) :
    PE X (.Call (.Attribute o m apos) (e :: es) [] pos) (tMeth C m sp dvs E ta t) := by
  intro pins s σ H Q I h
  refine PySem.W.methodCall_KW (pl := pl) (thn (he pins s σ H _ I h) fun u s1 ⟨x, H1, I1, rx, a, dx, fs, ex, ea, l, q⟩ => ?_) ht
  subst ex
  obtain rfl : u = Value.ref a := rx
  refine getmeth_ok I1 ea c hm l ?_
  refine PySem.W.callWith_K (first := [.ref a]) (h₀ := X.base) I.ok.mod.kin hm.kp (thn (ha pos pins s1 σ H1 _ I1 q) fun us s2 ⟨vs, H2, I2, r, q2⟩ => ⟨I2.kIn, ?_⟩) hst hpl
  exact run_fn (us := .ref a :: us) (vs := .ref a :: vs) F hr hb hd hx I2 (.cons rfl r) q2

theorem pe_meth0 {pl : Sem Bool} (he : PE X o ta) (c : Cls X.K C) (hm : Meth X.K C m f) (F : FnOk X.prog X.w X.K X.mg X.base CX k f fd ps sp) (hr : Room k X.A) (hb : Binds X.K fd ps ds) (hd : Vals dvs ds) (hx : Passes CX X E)
    (ht : eval (.Call (.Attribute o m apos) [] [] pos) X.env = (do
      let ov ← eval o X.env
      standAt apos.atName
      let (f, first) ← holding [ov] (getMethod ov m pl)
      callWith pos f first (backTo pos (starEach [] X.env)) (backToKw pos (keywordEach [] X.env))) := by rfl) :
    PE X (.Call (.Attribute o m apos) [] [] pos) (tMeth C m sp dvs E ta tNil) := by
  intro pins s σ H Q I h
  refine PySem.W.methodCall_KW (pl := pl) (thn (he pins s σ H _ I h) fun u s1 ⟨x, H1, I1, rx, a, dx, fs, ex, ea, l, q⟩ => ?_) ht
  subst ex
  obtain rfl : u = Value.ref a := rx
  refine getmeth_ok I1 ea c hm l ?_
  exact PySem.W.callWith_K0 (first := [.ref a]) I1.kIn hm.kp (run_fn (us := [.ref a]) (vs := [.ref a]) F hr hb hd hx I1 (.cons rfl .nil) q)


structure Mk (K : PySem.W.Frag) (C f : Addr) : Prop where
  makes : PySem.W.makesIn K C = true
  init : PySem.W.findIn K (.ref C) "__init__" = some (some (.ref f))
  fn : PySem.W.isFn K (.ref f) = true
  kp : PySem.W.keepIn K (.ref C) = true

theorem run_make {pins : List (Addr × Obj)} {σ : St} {H : Hp} {s : Shared} {Q : VK} {us : List Value} {vs : List V} (M : Mk X.K C f) (F : FnOk X.prog X.w X.K X.mg X.base CX k f fd ps sp) (hr : Room (k + 1) X.A) (hb : Binds X.K fd ps ds) (hd : Vals dvs ds)
    (hx : Passes CX X E) (I : Inv X pins σ H s) (r : Vals vs us)
    (h : ∀ x dx, H x = none → H dx = none → dx ≠ x → sp (.ref x :: (vs ++ dvs)) (upd (upd H dx (.own x)) x (.ins C dx [])) (fun v H2 => v = .non ∧ Q (.ref x) H2) E) :
    wpAny (model X.prog X.w) X.A (call (.ref C) us) (EP X pins σ Q) X.xe s := by
  have hq := h (s.heap.objs.size + 1) s.heap.objs.size (I.hok.fresh (Nat.le_succ _)) (I.hok.fresh (Nat.le_refl _)) (Nat.ne_of_lt (Nat.lt_succ_self _))
  have I2 := Inv.made (C := C) I
  have r2 : Vals (V.ref (s.heap.objs.size + 1) :: (vs ++ dvs)) (Value.ref (s.heap.objs.size + 1) :: (us ++ ds)) := .cons rfl (r.append hd)
  have hl : (Value.ref (s.heap.objs.size + 1) :: us ++ ds).length = ps.length := by
    have e := r2.length
    rw [F.len _ _ _ _ hq] at e
    exact e.symm
  refine wpAny_call (make_map (f := f) I.kIn M.makes M.init (beq_iff_eq.mp M.fn) (codeAny_mono (F.run _ X.stack _ _ ⟨Value.ref (s.heap.objs.size + 1) :: us, []⟩ (Value.ref (s.heap.objs.size + 1) :: (us ++ ds)) _ _ E (hr.make C us [])
    (I2.env0.make C us []) (hb _ (Value.ref (s.heap.objs.size + 1) :: us) I2.kIn hl) r2 hq) fun r s' hq' => ?_))
  cases r with
  | error e => exact hx pins σ _ _ e s' I2 hq'
  | ok fl =>
    cases fl with
    | ret u =>
      obtain ⟨v, H', I3, rv, ev, q3⟩ := I2.after hq'
      subst ev
      exact ⟨rv, ⟨V.ref (s.heap.objs.size + 1), H', I3, rfl, q3⟩⟩
    | next => exact False.elim hq'
    | brk => exact False.elim hq'
    | cont => exact False.elim hq'
theorem pe_make (M : Mk X.K C f) (F : FnOk X.prog X.w X.K X.mg X.base CX k f fd ps sp) (hr : Room (k + 1) X.A) (hg : Gl X x) (hm : X.mg x = some (.ref C)) (hb : Binds X.K fd ps ds) (hd : Vals dvs ds) (hx : Passes CX X E)
    (ha : PA X (e :: es) t) (hdb : (x == ("__debug__" : Str)) = false := by decide) (he : starEach (e :: es) X.env = (false, eval e X.env) :: starEach es X.env := by rfl) (hpl : (backTo pos (starEach es X.env)).any (·.1) = false := by rfl) :
    PE X (.Call (.Name x p) (e :: es) [] pos) (tMake C sp dvs E t) := by
  intro pins s σ H Q I h
  refine wpAny_Call_Name_kw (ld_glob I hg hm ?_ hdb)
  refine PySem.W.callWith_K (h₀ := X.base) I.ok.mod.kin M.kp (thn (ha pos pins s σ H _ I h) fun us s1 ⟨vs, H1, I1, r, q⟩ => ⟨I1.kIn, ?_⟩) he hpl
  exact run_make M F hr hb hd hx I1 r q
theorem pe_make0 (M : Mk X.K C f) (F : FnOk X.prog X.w X.K X.mg X.base CX k f fd ps sp) (hr : Room (k + 1) X.A) (hg : Gl X x) (hm : X.mg x = some (.ref C)) (hb : Binds X.K fd ps ds) (hd : Vals dvs ds) (hx : Passes CX X E)
    (hdb : (x == ("__debug__" : Str)) = false := by decide) : PE X (.Call (.Name x p) [] [] pos) (tMake C sp dvs E tNil) := by
  intro pins s σ H Q I h
  refine wpAny_Call_Name_kw (ld_glob I hg hm ?_ hdb)
  exact PySem.W.callWith_K0 I.kIn M.kp (run_make (us := []) M F hr hb hd hx I .nil h)
end



section
variable {X : Cx} {CX : CXT} {k : Nat} {f C : Addr} {fd : FuncData} {ps ks : List Str} {sp : Sp} {E : XK} {x m : Str} {p pos apos kpos : Pos} {e o : Expr} {es : List Expr} {kws : List Keyword} {te ta : TE} {t tk : TA} {nm : Option Str}
structure KBinds (K : PySem.W.Frag) (fd : FuncData) (ps ks : List Str) (g : List Value → List Value → List Value) (gV : List V → List V → List V) : Prop where
  to : ∀ (s : Shared) (us ws : List Value), K.In s.heap → (g us ws).length = ps.length → BindsTo s fd ⟨us, ks.zip ws⟩ (ps.zip (g us ws))
  rel : ∀ {vs : List V} {us : List Value} {zs : List V} {ws : List Value}, Vals vs us → Vals zs ws → Vals (gV vs zs) (g us ws)
variable {g : List Value → List Value → List Value} {gV : List V → List V → List V}
end



structure FnScope (N P : List Str) (sc : Scope) : Prop where
  kind : sc.kind = .function
  co : sc.isCoroutine = false
  gen : sc.isGenerator = false
  nd : N.Nodup
  pre : N.take P.length = P
  par : ∀ x ∈ P, sc.names.lookup x = some .local ∨ sc.names.lookup x = some .cell
  nofree : ∀ y ∈ sc.names, y.2 ≠ .free

theorem bindL_out {kindOf : Str → Option NameKind} {x : Str} : ∀ {binds : List (Str × Value)} {m : Str → Option Value}, (∀ v, (x, v) ∉ binds) → bindL kindOf binds m x = m x
  | [], _, _ => rfl
  | (n, v) :: r, m, h => by
    unfold bindL
    rw [bindL_out fun w hw => h w (List.mem_cons_of_mem _ hw)]
    split
    · have : x ≠ n := by rintro rfl; exact h v List.mem_cons_self
      simp [this]
    · rfl
theorem bindC_out {kindOf : Str → Option NameKind} {x : Str} : ∀ {binds : List (Str × Value)} {m : Str → Option Value}, (∀ v, (x, v) ∉ binds) → bindC kindOf binds m x = m x
  | [], _, _ => rfl
  | (n, v) :: r, m, h => by
    unfold bindC
    rw [bindC_out fun w hw => h w (List.mem_cons_of_mem _ hw)]
    split
    · rfl
    · have : x ≠ n := by rintro rfl; exact h v List.mem_cons_self
      simp [this]
theorem bindL_get {kindOf : Str → Option NameKind} {x : Str} {v : Value} : ∀ {P : List Str} {vs : List Value} {i : Nat} {m : Str → Option Value}, P.Nodup → P[i]? = some x → vs[i]? = some v → kindOf x = some .local →
    bindL kindOf (P.zip vs) m x = some v
  | [], _, _, _, _, h, _, _ => by simp at h
  | _ :: _, [], _, _, _, _, h, _ => by simp at h
  | p :: P, w :: vs, 0, m, nd, h1, h2, hk => by
    simp at h1 h2; subst h1; subst h2
    show bindL kindOf ((p, w) :: P.zip vs) m p = _
    unfold bindL
    rw [bindL_out fun v hv => (List.nodup_cons.mp nd).1 (List.of_mem_zip hv).1, if_pos hk]
    simp
  | p :: P, w :: vs, i + 1, m, nd, h1, h2, hk => by
    show bindL kindOf ((p, w) :: P.zip vs) m x = _
    unfold bindL
    exact bindL_get (i := i) (List.nodup_cons.mp nd).2 (by simpa using h1) (by simpa using h2) hk
theorem bindC_get {kindOf : Str → Option NameKind} {x : Str} {v : Value} : ∀ {P : List Str} {vs : List Value} {i : Nat} {m : Str → Option Value}, P.Nodup → P[i]? = some x → vs[i]? = some v → kindOf x ≠ some .local →
    bindC kindOf (P.zip vs) m x = some v
  | [], _, _, _, _, h, _, _ => by simp at h
  | _ :: _, [], _, _, _, _, h, _ => by simp at h
  | p :: P, w :: vs, 0, m, nd, h1, h2, hk => by
    simp at h1 h2; subst h1; subst h2
    show bindC kindOf ((p, w) :: P.zip vs) m p = _
    unfold bindC
    rw [bindC_out fun v hv => (List.nodup_cons.mp nd).1 (List.of_mem_zip hv).1, if_neg hk]
    simp
  | p :: P, w :: vs, i + 1, m, nd, h1, h2, hk => by
    show bindC kindOf ((p, w) :: P.zip vs) m x = _
    unfold bindC
    exact bindC_get (i := i) (List.nodup_cons.mp nd).2 (by simpa using h1) (by simpa using h2) hk


def start (N : List Str) (vs : List V) : St := vs.map some ++ List.replicate (N.length - vs.length) none


def cxOf (CX : CXT) (P : Program) (w : World) (K : PySem.W.Frag) (mg : Str → Option Value) (base : Heap) (N : List Str) (qual : Str) (scope : Scope) (f : Addr) (cd : Value) (A : Around) (outer : List Env) (s : Shared) (H : Hp) (E : XK) : Cx where
  prog := P
  w := w
  K := K
  mg := mg
  base := base
  A := A.deeper (envOfC qual scope s.heap.objs.size f cd)
  N := N
  s₀ := s
  H₀ := H
  env := envOfC qual scope s.heap.objs.size f cd
  outer := outer
  stack := envOfC qual scope s.heap.objs.size f cd :: outer
  ex := []
  calm := true
  fn := fun _ => true
  pn := []
  xe := fun e s' => wpAny (model P w) (A.deeper (envOfC qual scope s.heap.objs.size f cd)) (leaving (envOfC qual scope s.heap.objs.size f cd) e) (fun _ s'' => CX outer H s E e s'') (fun e' s'' => CX outer H s E e' s'') s'

theorem cell_has {sc : Scope} {n : Nat} {x : Str} (h : sc.names.lookup x = some .cell) : ∃ c, (cellsFrom n sc.names []).lookup x = some c := by
  have q := PySem.W.cellsFrom_some sc.names n [] (.inl h)
  exact Option.isSome_iff_exists.mp q

theorem inv_start {CX : CXT} {P : Program} {w : World} {K : PySem.W.Frag} {mg : Str → Option Value} {base : Heap} {N ps : List Str} {qual : Str} {scope : Scope} {f : Addr} {cd : Value} {A : Around} {outer : List Env} {s s1 : Shared} {H : Hp} {E : XK} {us : List Value} {vs : List V}
    (S : FnScope N ps scope) (hd : A.handled = none) (e0 : Env0 P w K mg base A outer s H) (hl : vs.length = ps.length) (r : Vals vs us)
    (x : InCallC s s.heap.objs.size (bindL (envOfC qual scope s.heap.objs.size f cd).kindOf (ps.zip us) fun _ => none) (cellsFrom (s.heap.objs.size + 1) scope.names []) (bindC (envOfC qual scope s.heap.objs.size f cd).kindOf (ps.zip us) fun _ => none) s1) :
    Inv (cxOf CX P w K mg base N qual scope f cd A outer s H E) [] (start N vs) H s1 := by
  have hpl : ps.length ≤ N.length := by have := congrArg List.length S.pre; rw [List.length_take] at this; omega
  obtain ⟨h1, tk, rfl, hk⟩ := x.done
  have noA : ∀ b : Addr, b ∉ (cxOf CX P w K mg base N qual scope f cd A outer s H E).ex := fun b z => absurd (show b ∈ ([] : List Addr) from z) (by simp)
  refine ⟨⟨e0.mod, S.kind, rfl, rfl, Nat.le_refl _, fun y z c h1 h2 => ?_, fun y hy => ?_, fun y c _ h => ?_, fun _ => hd, Around.frames_deeper e0.frames, .inr ⟨rfl, rfl⟩, fun b z => absurd z (noA b), e0.bs, e0.bsz, fun b _ _ => noA b, fun b z => absurd z (noA b), e0.funs, e0.frf⟩,
    rfl, e0.bare, Un.kept hk, ⟨_, x.toInCall.ns, fun i y v h1 h2 h3 => ?_⟩, fun y c h => ⟨_, x.cell y c h⟩, e0.hok.fresh (Nat.le_refl _), fun y c h => ?_, fun p hp => absurd (show p ∈ ([] : List (Addr × Obj)) from hp) (by simp), e0.hok.kept hk, ?_⟩
  · exact name_of_addr x.apart (PySem.mem_of_lookup h1) (PySem.mem_of_lookup h2)
  · have hy : scope.names.lookup y = some .cell ∨ scope.names.lookup y = some .free := hy
    rcases hy with hy | hy
    · exact cell_has hy
    · exact absurd rfl (S.nofree _ (PySem.mem_of_lookup hy))
  · exact Nat.le_of_lt (x.above y c (PySem.mem_of_lookup h))
  · have hi : i < vs.length := by
      unfold start at h2
      by_cases hi : i < vs.length
      · exact hi
      · rw [List.getElem?_append_right (by simpa using hi)] at h2
        rw [List.getElem?_replicate] at h2
        split at h2 <;> cases h2
    have ha : vs[i]? = some v := by
      unfold start at h2
      rw [List.getElem?_append_left (by simpa using hi), List.getElem?_map] at h2
      cases e : vs[i]? with
      | none => rw [e] at h2; cases h2
      | some a => rw [e] at h2; cases h2; rfl
    obtain ⟨u, hu, rv⟩ := r.get ha
    have hp : ps[i]? = some y := by
      rw [← S.pre, List.getElem?_take_of_lt (by omega)]; exact h1
    have ndP : ps.Nodup := by rw [← S.pre]; exact S.nd.sublist (List.take_sublist _ _)
    refine ⟨u, rv, ?_⟩
    rcases S.par y (List.mem_of_getElem? hp) with k | k
    · exact .inl ⟨k, bindL_get ndP hp hu k⟩
    · obtain ⟨c, e⟩ := cell_has (n := s.heap.objs.size + 1) k
      refine .inr ⟨.inl k, c, e, ?_⟩
      have q := x.cell y c e
      rw [bindC_get ndP hp hu (by show scope.names.lookup y ≠ _; rw [k]; decide)] at q
      exact q
  · exact e0.hok.fresh (Nat.le_of_lt (x.above y c (PySem.mem_of_lookup h)))
  · unfold start
    show _ = N.length
    rw [List.length_append, List.length_map, List.length_replicate]
    omega


theorem fn_of {CX : CXT} {P : Program} {w : World} {K : PySem.W.Frag} {mg : Str → Option Value} {base : Heap} {k : Nat} {f : Addr} {name qual : Str} {params : Arguments} {body : List Stmt} {scope : Scope} {dV kV doc pm cdv ct oc : Value} {an od : Option Addr}
    {osl : Array (Option Value)} {N ps : List Str} {sp : Sp} (lk : K.lookup f = some ⟨oc, od, .func (PySem.W.fnOf name qual params body scope dV kV doc pm an cdv ct), osl⟩) (hcd : PySem.W.codeIn K cdv qual = true) (S : FnScope N ps scope)
    (len : ∀ vs H Q E, sp vs H Q E → vs.length = ps.length)
    (hbody : ∀ (A : Around) (outer : List Env) (s : Shared) (H : Hp) (vs : List V) (Q : VK) (E : XK), Room k (A.deeper (envOfC qual scope s.heap.objs.size f cdv)) → sp vs H Q E →
      ∃ t, PSs (cxOf CX P w K mg base N qual scope f cdv A outer s H E) body t ∧ t { nx := fun _ H' => Q .non H', rt := Q } (start N vs) H) :
    FnOk P w K mg base CX (k + 1) f (PySem.W.fnOf name qual params body scope dV kV doc pm an cdv ct) ps sp := by
  refine ⟨len, fun A outer s H args us vs Q E hr e0 hb r hsp => ?_⟩
  have hl := len _ _ _ _ hsp
  have KX : K.In s.heap := e0.mod.kin.keeps fun b o e => (e0.bs b o e).1
  have lim : s.heap.NoLimit := e0.mod.nolimit.keeps fun b o e => (e0.bs b o e).1
  have hkind : ∀ y ∈ ps.zip us, scope.names.lookup y.1 = some .local ∨ (scope.names.lookup y.1 = some .cell ∧ ((cellsFrom (s.heap.objs.size + 1) scope.names []).lookup y.1).isSome = true) := fun ⟨n, v⟩ hy => by
    rcases S.par n (List.of_mem_zip hy).1 with q | q
    · exact .inl q
    · exact .inr ⟨q, PySem.W.cellsFrom_some _ _ _ (.inl q)⟩
  refine codeAny_call_function hr.depth (KX _ _ lk) rfl S.co S.gen rfl (PySem.W.codeRec_of KX hcd) (hb _ _ _ _ ?_)
  refine wpAny_newFunctionEnv_cells S.kind hkind fun env he s1 x => ?_
  subst he
  refine ⟨lim.keeps x.toInCall.keep, codeAny_func ?_⟩
  obtain ⟨t, ht, hq⟩ := hbody A outer s H vs Q E (hr.deeper _) hsp
  have I : Inv (cxOf CX P w K mg base N qual scope f cdv A outer s H E) [] (start N vs) H s1 := inv_start S hr.hd e0 hl r x
  refine wpAny_mono (ht [] s1 (start N vs) H _ I hq) (fun fl s' hs => ?_) fun e s' hs => hs
  have fin : ∀ {σ' : St} {H' : Hp} {v : V} {u : Value}, Inv (cxOf CX P w K mg base N qual scope f cdv A outer s H E) [] σ' H' s' → RelV v u → Q v H' → CE outer P w H s Q u s' :=
    fun {σ' H' v u} J rv q => ⟨v, H', J.os, J.bare, J.base, J.hok, rv, q⟩
  cases fl with
  | ret u =>
    obtain ⟨v, σ', H', J, rv, q⟩ := hs
    exact fin J rv q
  | next =>
    obtain ⟨σ', H', J, q⟩ := hs
    exact fin (v := V.non) (u := Value.none) J rfl q
  | brk =>
    obtain ⟨_, _, _, q⟩ := hs
    exact False.elim q
  | cont =>
    obtain ⟨_, _, _, q⟩ := hs
    exact False.elim q
end L2

namespace L2
open PySem PySem.Spec PyProof.Rows
section
variable {X : Cx} {x : Str} {p pos : Pos} {e : Expr} {es : List Expr} {t : TA} {id T : String} {r : List V → Hp → VK → Prop}

def tCB (r : List V → Hp → VK → Prop) (t : TA) : TE := fun σ H Q => t σ H fun vs H1 => r vs H1 Q

theorem pe_callB (hc : CallR X (.builtin id) r) (hg : Gl X x) (hm : X.mg x = none) (hv : bootBuiltins x = some (.builtin id)) (ha : PA X (e :: es) t) (hn : x ≠ "__name__" := by decide) (hdb : (x == ("__debug__" : Str)) = false := by decide)
    (he : starEach (e :: es) X.env = (false, eval e X.env) :: starEach es X.env := by rfl) (hpl : (backTo pos (starEach es X.env)).any (·.1) = false := by rfl) : PE X (.Call (.Name x p) (e :: es) [] pos) (tCB r t) := by
  intro pins s σ H Q I h
  refine wpAny_Call_Name_kw (ld_blt I hg hm hv ?_ hn hdb)
  exact PyProof.Rows.callWith_builtin1 (thn (ha pos pins s σ H _ I h) fun us s1 ⟨vs, H1, I1, r1, q1⟩ => hc pins s1 σ H1 vs us Q I1 r1 q1) he hpl

theorem pe_callTy (hc : CallR X (.type T) r) (hg : Gl X x) (hm : X.mg x = none) (hv : bootBuiltins x = some (.type T)) (ha : PA X (e :: es) t) (hn : x ≠ "__name__" := by decide) (hdb : (x == ("__debug__" : Str)) = false := by decide)
    (he : starEach (e :: es) X.env = (false, eval e X.env) :: starEach es X.env := by rfl) (hpl : (backTo pos (starEach es X.env)).any (·.1) = false := by rfl) : PE X (.Call (.Name x p) (e :: es) [] pos) (tCB r t) := by
  intro pins s σ H Q I h
  refine wpAny_Call_Name_kw (ld_blt I hg hm hv ?_ hn hdb)
  exact PyProof.Rows.callWith_type1 (thn (ha pos pins s σ H _ I h) fun us s1 ⟨vs, H1, I1, r1, q1⟩ => hc pins s1 σ H1 vs us Q I1 r1 q1) he hpl

end
end L2

namespace HT
open PySem PyProof.Rows


section
open PySem.SeqAt
open PySem.AutoSeq1 (wpAny_loadPart')
open PySem.MeetsSeq PySem.MeetsSeq2 PySem.MeetsSeq3

end

section
variable {prog : Program} {w : World} {A : Around} {E : Value → Shared → Prop} {s : Shared}

def sIx (n d : Nat) : Option Int → Nat
  | none => d
  | some v => if v < 0 then (v + (n : Int)).toNat else min v.toNat n
theorem sIx_none (n d : Nat) : sIx n d none = d := rfl
theorem sIx_nat (n d k : Nat) : sIx n d (some (k : Int)) = min k n := by
  show (if (k : Int) < 0 then ((k : Int) + (n : Int)).toNat else min (k : Int).toNat n) = min k n
  rw [if_neg (by omega), Int.toNat_natCast]
end
end HT

namespace L2
open PySem PySem.Spec PyProof.Rows


abbrev TO := St → Hp → (Option Int → Hp → Prop) → Prop

def PO (X : Cx) (e : Option Expr) (t : TO) : Prop :=
  ∀ (pins : List (Addr × Obj)) (s : Shared) (σ : St) (H : Hp) (Q : Option Int → Hp → Prop), Inv X pins σ H s → t σ H Q →
    wpAny (model X.prog X.w) X.A (evalPart e X.env) (fun u s' => ∃ o H', Inv X pins σ H' s' ∧ IsPart u o ∧ Q o H') X.xe s
def tNoPart : TO := fun _ H Q => Q none H
def tPart (t : TE) : TO := fun σ H Q => t σ H fun x H1 => ∃ i, x = .int i ∧ Q (some i) H1

section
variable {X : Cx} {e : Expr} {te : TE} {lo hi : Option Expr} {tl th : TO} {pos p2 : Pos}

theorem po_none : PO X none tNoPart := by
  intro pins s σ H Q I h
  rw [evalPart_none]
  exact wpAny_pure ⟨none, H, I, .none, h⟩
theorem po_some (h : PE X e te) : PO X (some e) (tPart te) := by
  intro pins s σ H Q I hw
  rw [evalPart_some]
  refine thn (h pins s σ H _ I hw) fun u s1 ⟨x, H1, I1, r1, q1⟩ => ?_
  obtain ⟨i, rfl, q⟩ := q1
  obtain ⟨t, rfl⟩ := r1
  exact ⟨some i, H1, I1, .int i t, q⟩


def SlR (X : Cx) (r : V → Option Int → Option Int → Hp → VK → Prop) : Prop :=
  ∀ (pins : List (Addr × Obj)) (s : Shared) (σ : St) (H : Hp) (x : V) (v vl vu : Value) (lo hi : Option Int) (sl : Addr) (Q : VK), Inv X pins σ H s → RelV x v → s.heap.IsSliceOf sl vl vu .none → IsPart vl lo → IsPart vu hi → r x lo hi H Q →
    ∃ T id, typeLookup (.type T) "__getitem__" = pure (some (.builtin id)) ∧ s.TypeIs v T ∧ wpAny (model X.prog X.w) X.A (getItem v (.ref sl)) (EP X pins σ Q) X.xe s
def tSl (r : V → Option Int → Option Int → Hp → VK → Prop) (te : TE) (tl th : TO) : TE := fun σ H Q => te σ H fun x H1 => tl σ H1 fun l H2 => th σ H2 fun u H3 => r x l u H3 Q

theorem pe_slice {r : V → Option Int → Option Int → Hp → VK → Prop} (hr : SlR X r) (he : PE X e te) (hl : PO X lo tl) (hu : PO X hi th) : PE X (.Subscript e (.Slice lo hi none p2) pos) (tSl r te tl th) := by
  intro pins s σ H Q I h
  refine Subscript_ (thn (he pins s σ H _ I h) fun v s1 ⟨x, H1, I1, r1, q1⟩ => ?_)
  refine wpAny_Slice (thn (hl pins s1 σ H1 _ I1 q1) fun vl s2 ⟨l, H2, I2, pl, q2⟩ => thn (hu pins s2 σ H2 _ I2 q2) fun vu s3 ⟨u, H3, I3, pu, q3⟩ => ?_)
  rw [evalPart_none]
  refine wpAny_pure ?_
  have I4 : Inv X pins σ H3 { s3 with heap := s3.heap.push { cls := .type "slice", data := .fields #[vl, vu, .none] } } := I3.kept (t' := s3.toks) fun b ob q => Heap.get?_push_of_some _ q
  obtain ⟨T, id, hT, ht, hg⟩ := hr pins { s3 with heap := s3.heap.push { cls := .type "slice", data := .fields #[vl, vu, .none] } } σ H3 x v vl vu l u s3.heap.objs.size Q I4 r1 (Heap.IsSliceOf.new ..) pl pu q3
  show wpAny (model X.prog X.w) X.A (subscriptTail e (.Slice lo hi none p2) v (.ref s3.heap.objs.size)) (EP X pins σ Q) X.xe { s3 with heap := s3.heap.push { cls := .type "slice", data := .fields #[vl, vu, .none] } }
  exact tail_any (ops := [.ref s3.heap.objs.size, v]) ht hT hg (by with_unfolding_all rfl)


def cutV (xs : List V) (lo hi : Option Int) : List V := (xs.drop (HT.sIx xs.length 0 lo)).take (HT.sIx xs.length xs.length hi - HT.sIx xs.length 0 lo)
theorem cutV_length (xs : List V) (lo hi : Option Int) : (cutV xs lo hi).length ≤ xs.length := by
  unfold cutV
  rw [List.length_take, List.length_drop]
  omega

end
end L2

namespace L2
open PySem PySem.Spec PyProof.Rows



def ixN (n : Nat) (i : Int) : Option Nat := if 0 ≤ i then (if i < n then some i.toNat else none) else if -(n : Int) ≤ i then some (i + n).toNat else none
def atI {α : Type} (xs : List α) (i : Int) : Option α := (ixN xs.length i).bind fun j => xs[j]?
theorem ixN_seq {n : Nat} {i : Int} {j : Nat} (h : ixN n i = some j) : seqIndex? i n = some j ∧ j < n ∧ -(n : Int) ≤ i ∧ i < n := by
  unfold ixN at h
  by_cases h0 : 0 ≤ i
  · rw [if_pos h0] at h
    by_cases h1 : i < n
    · rw [if_pos h1] at h
      have e : i.toNat = j := Option.some.inj h
      exact ⟨by rw [seqIndex_of h0 h1, e], by omega, by omega, h1⟩
    · rw [if_neg h1] at h; cases h
  · rw [if_neg h0] at h
    by_cases h1 : -(n : Int) ≤ i
    · rw [if_pos h1] at h
      have e : (i + n).toNat = j := Option.some.inj h
      exact ⟨by rw [seqIndex_neg (by omega) h1, e], by omega, h1, by omega⟩
    · rw [if_neg h1] at h; cases h
theorem atI_get {α : Type} {xs : List α} {i : Int} {v : α} (h : atI xs i = some v) : ∃ j, seqIndex? i xs.length = some j ∧ xs[j]? = some v ∧ j < xs.length ∧ -(xs.length : Int) ≤ i ∧ i < xs.length := by
  unfold atI at h
  cases e : ixN xs.length i with
  | none => rw [e] at h; cases h
  | some j =>
    rw [e] at h
    obtain ⟨h1, h2, h3, h4⟩ := ixN_seq e
    exact ⟨j, h1, h, h2, h3, h4⟩
theorem atI_nat {α : Type} {xs : List α} {j : Nat} {v : α} (h : xs[j]? = some v) : atI xs (j : Int) = some v := by
  have hj : j < xs.length := (List.getElem?_eq_some_iff.mp h).1
  have e : ixN xs.length (j : Int) = some j := by
    unfold ixN
    rw [if_pos (by omega), if_pos (by omega)]; simp
  unfold atI; rw [e]; exact h
def PlainIx (b : Expr) : Prop := ∀ o i, subscripted b false o i = operate [o, i] (getItem o i)

def IxR (X : Cx) (r : R2) : Prop :=
  ∀ (value slice : Expr) (pins : List (Addr × Obj)) (s : Shared) (σ : St) (H : Hp) (x y : V) (v u : Value) (Q : VK), Inv X pins σ H s → RelV x v → RelV y u → r x y H Q →
    subscripted slice false v u = operate [v, u] (getItem v u) → wpAny (model X.prog X.w) X.A (subscriptTail value slice v u) (EP X pins σ Q) X.xe s

def MtR (X : Cx) (id : String) (r : V → List V → Hp → VK → Prop) : Prop :=
  ∀ (pins : List (Addr × Obj)) (s : Shared) (σ : St) (H : Hp) (x : V) (xs : List V) (v : Value) (us : List Value) (Q : VK), Inv X pins σ H s → RelV x v → Vals xs us → r x xs H Q →
    wpAny (model X.prog X.w) X.A (call (.builtin id) (v :: us)) (EP X pins σ Q) X.xe s
section
variable {X : Cx} {a b : Expr} {ta tb : TE} {pos : Pos}
theorem pe_ix {r : R2} (hr : IxR X r) (ha : PE X a ta) (hb : PE X b tb) (hs : PlainIx b) : PE X (.Subscript a b pos) (tOp r ta tb) := by
  intro pins s σ H Q I h
  exact Subscript_ (binT ha hb I h fun v u s2 x y H2 I2 rx ry q => hr a b pins s2 σ H2 x y v u Q I2 rx ry q (hs _ _))

def rIxL (K : PySem.W.Frag) : R2 := fun x y H Q => ∃ p xs i v, x = .ref p ∧ y = .int i ∧ SqL K H p xs ∧ atI xs i = some v ∧ Q v H
def rIxT (K : PySem.W.Frag) : R2 := fun x y H Q => ∃ p xs i v, x = .ref p ∧ y = .int i ∧ SqT K H p xs ∧ atI xs i = some v ∧ Q v H
theorem ix_list : IxR X (rIxL X.K) := by
  intro value slice pins s σ H x y v u Q I rx ry h hs
  obtain ⟨p, xs, i, z, rfl, rfl, hq, he, q⟩ := h
  cases rx
  obtain ⟨t, rfl⟩ := ry
  obtain ⟨its, r, pl, hz⟩ := I.list hq
  obtain ⟨j, h1, h2, h3, h4, h5⟩ := atI_get he
  obtain ⟨w, ew, rw'⟩ := r.get h2
  have hl := r.length
  have hn := line63
  have fin : EP X pins σ Q w s := ⟨z, H, I, rw', q⟩
  by_cases h0 : 0 ≤ i
  · have hj : i.toNat = j := by
      rw [seqIndex_of h0 h5] at h1
      exact Option.some.inj h1
    exact item_listR pl.isList h0 (by omega) (by rw [hj]; simpa using ew) fin hs
  · have hj : (i + (its.toArray.size : Int)).toNat = j := by
      rw [seqIndex_neg (by omega) h4] at h1
      rw [List.size_toArray, ← hl]
      exact Option.some.inj h1
    exact subscriptTail_builtinR (x := w) pl.isList.typeIs slot_list_getitem.lookup
      (wpAny_getItem_list_neg (Q := fun r s' => r = w ∧ EP X pins σ Q r s') pl.isList (by omega) (by rw [List.size_toArray] <;> omega) (by omega) (by rw [hj]; simpa using ew) ⟨rfl, fin⟩) hs
theorem ix_tup : IxR X (rIxT X.K) := by
  intro value slice pins s σ H x y v u Q I rx ry h hs
  obtain ⟨p, xs, i, z, rfl, rfl, hq, he, q⟩ := h
  cases rx
  obtain ⟨t, rfl⟩ := ry
  obtain ⟨its, r, pl, hz⟩ := I.tuple hq
  obtain ⟨j, h1, h2, h3, h4, h5⟩ := atI_get he
  obtain ⟨w, ew, rw'⟩ := r.get h2
  have hl := r.length
  have hn := line63
  have fin : EP X pins σ Q w s := ⟨z, H, I, rw', q⟩
  exact subscriptTail_builtinR (x := w) pl.typeIs slot_tuple_getitem.lookup
    (getItem_tuple (j := j) (Q := fun r s' => r = w ∧ EP X pins σ Q r s') pl (by omega) (by omega) (by rw [List.size_toArray, ← hl]; exact h1) (by simpa using ew) ⟨rfl, fin⟩) hs
theorem slice_bounds (lo hi : Option Int) (n : Nat) : (sliceBounds lo hi none n).1 = ((HT.sIx n 0 lo : Nat) : Int) ∧ (sliceBounds lo hi none n).2.1 = ((HT.sIx n n hi : Nat) : Int) ∧ (sliceBounds lo hi none n).2.2 = 1 := by
  refine ⟨?_, ?_, rfl⟩
  · cases lo with
    | none => simp [sliceBounds, HT.sIx]
    | some i =>
      simp only [sliceBounds, HT.sIx, Option.getD_none, show (1 : Int) > 0 by decide, if_true]
      by_cases h : i < 0
      · simp only [h, if_true] <;> omega
      · simp only [h, if_false] <;> omega
  · cases hi with
    | none => simp [sliceBounds, HT.sIx]
    | some i =>
      simp only [sliceBounds, HT.sIx, Option.getD_none, show (1 : Int) > 0 by decide, if_true]
      by_cases h : i < 0
      · simp only [h, if_true] <;> omega
      · simp only [h, if_false] <;> omega
theorem slicePick_cut (its : List Value) (lo hi : Option Int) : slicePick its.toArray lo hi none = ((its.drop (HT.sIx its.length 0 lo)).take (HT.sIx its.length its.length hi - HT.sIx its.length 0 lo)).toArray := by
  obtain ⟨h1, h2, h3⟩ := slice_bounds lo hi its.toArray.size
  unfold slicePick
  rw [h1, h2, h3]
  simp only [sliceRange_one, pick_run, List.size_toArray] <;> rfl

def rSlL (K : PySem.W.Frag) : V → Option Int → Option Int → Hp → VK → Prop := fun x lo hi H Q => ∃ a xs, x = .ref a ∧ SqL K H a xs ∧ ∀ p, H p = none → Q (.ref p) (upd H p (.lst (cutV xs lo hi)))
theorem sl_list : SlR X (rSlL X.K) := by
  intro pins s σ H x v vl vu lo hi sl Q I rx hs pl pu h
  obtain ⟨a, xs, rfl, hx, q⟩ := h
  cases rx
  obtain ⟨its, r, ht, hz⟩ := I.list hx
  have hlen := r.length
  refine ⟨"list", _, slot_list_getitem.lookup, ht.isList.typeIs, ?_⟩
  refine wpAny_getItem_list_slice ht.isList hs pl pu .none (by simp) ?_ (by rw [List.size_toArray] <;> omega)
  rw [slicePick_cut, ← hlen]
  refine ⟨.ref s.heap.objs.size, _, I.laid (t' := s.toks) (o := .lst (cutV xs lo hi)) (fun b ob q => Heap.get?_push_of_some _ q) (Nat.le_refl _) ?_, rfl, q _ (I.hok.fresh (Nat.le_refl _))⟩
  exact ⟨Nat.le_trans (cutV_length xs lo hi) hz, _, 0, (r.drop (HT.sIx xs.length 0 lo)).take (HT.sIx xs.length xs.length hi - HT.sIx xs.length 0 lo), Heap.get?_push_size _ rfl⟩


theorem call_len_seq : CallR X (.builtin "len") (fun xs H Q => ∃ p ys, xs = [.ref p] ∧ (SqL X.K H p ys ∨ SqT X.K H p ys) ∧ Q (.int ys.length) H) := by
  intro pins s σ H xs us Q I r h
  obtain ⟨p, ys, rfl, hq, q⟩ := h
  obtain ⟨u, rfl, rx⟩ := vals1 r
  cases rx
  have hn := line63
  rcases hq with hq | hq
  · obtain ⟨its, r', pl, hz⟩ := I.list hq
    have hlen := r'.length
    exact Calls.call_len_list pl.isList (by simp only [List.size_toArray] <;> omega) ⟨.int ys.length, H, I.tok _, ⟨s.toks + 1, by rw [List.size_toArray, hlen]⟩, q⟩
  · obtain ⟨its, r', pl, hz⟩ := I.tuple hq
    have hlen := r'.length
    exact len_tuple pl (by simp only [List.size_toArray] <;> omega) ⟨.int ys.length, H, I.tok _, ⟨s.toks + 1, by rw [List.size_toArray, hlen]⟩, q⟩
theorem call_tuple_of : CallR X (.type "tuple") (fun xs H Q => ∃ p ys, xs = [.ref p] ∧ ((SqL X.K H p ys ∧ ∀ l, H l = none → Q (.ref l) (upd H l (.tup ys))) ∨ (SqT X.K H p ys ∧ Q (.ref p) H))) := by
  intro pins s σ H xs us Q I r h
  obtain ⟨p, ys, rfl, h⟩ := h
  obtain ⟨u, rfl, rx⟩ := vals1 r
  cases rx
  rcases h with ⟨hq, q⟩ | ⟨hq, q⟩
  · obtain ⟨its, r', pl, hz⟩ := I.list hq
    have hlen := r'.length
    refine call_tuple_list pl.isList (fun h' kp => ?_) (by simp only [List.size_toArray] <;> omega)
    have I1 : Inv X pins σ H { s with heap := h' } := I.kept (t' := s.toks) kp
    have I2 : Inv X pins σ (upd H h'.objs.size (.tup ys)) { s with heap := h'.push { cls := .type "tuple", data := .seq its.toArray } } :=
      I1.laid (t' := s.toks) (fun b o e => Heap.get?_push_of_some _ e) (Nat.le_refl _) (show ObjOk X.prog X.w _ _ _ (.tup ys) from ⟨hz, its, r', IsTup.new _ _⟩)
    exact ⟨.ref h'.objs.size, _, I2, rfl, q _ (I1.hok.fresh (Nat.le_refl _))⟩
  · obtain ⟨its, r', pl, hz⟩ := I.tuple hq
    exact call_tuple_same pl ⟨.ref p, H, I, rfl, q⟩



def tyV (K : PySem.W.Frag) (T : String) (x : V) (H : Hp) : Prop := match x with
  | .str _ => T = "str"
  | .int _ => T = "int"
  | .ref p => (T = "list" ∧ ∃ xs, SqL K H p xs) ∨ (T = "tuple" ∧ ∃ o, K.lookup p = some o ∧ o.cls = .type "tuple" ∧ o.dict = none) ∨
      (T = "dict" ∧ ((∃ kvs, H p = some (.dK kvs)) ∨ ∃ kvs, H p = some (.dT kvs))) ∨ (T = "set" ∧ ∃ S n, H p = some (.set S n))
  | _ => False
theorem tyV_is {pins : List (Addr × Obj)} {σ : St} {H : Hp} {s : Shared} {T : String} {x : V} {v : Value} (I : Inv X pins σ H s) (r : RelV x v) (ty : tyV X.K T x H) :
    s.TypeIs v T ∧ ∀ a, v = .ref a → ∃ ob, s.heap.get? a = some ob ∧ ob.dict = none := by
  cases x with
  | str z =>
    obtain ⟨t, rfl⟩ := r
    cases (show T = "str" from ty)
    exact ⟨typeIs_str s z t, fun _ e => nomatch e⟩
  | int i =>
    obtain ⟨t, rfl⟩ := r
    cases (show T = "int" from ty)
    exact ⟨typeIs_int s i t, fun _ e => nomatch e⟩
  | ref p =>
    cases r
    rcases ty with ⟨rfl, xs, hq⟩ | ⟨rfl, o, hk, hc, hd⟩ | ⟨rfl, hk⟩ | ⟨rfl, S, n, hk⟩
    · obtain ⟨its, _, pl, _⟩ := I.list hq
      refine ⟨pl.isList.typeIs, fun a e => ?_⟩
      cases e
      obtain ⟨o, n, e, c, hd, _⟩ := pl
      exact ⟨o, e, hd⟩
    · refine ⟨⟨o, I.kIn p o hk, hc⟩, fun a e => ?_⟩
      cases e
      exact ⟨o, I.kIn _ o hk, hd⟩
    · have z : ∃ o, s.heap.get? p = some o ∧ o.ExactDict := by
        rcases hk with ⟨kvs, hk⟩ | ⟨kvs, hk⟩
        · obtain ⟨_, _, _, _, o, _, _, e, ex, _⟩ := I.hok p _ hk
          exact ⟨o, e, ex⟩
        · obtain ⟨_, _, _, _, o, _, _, e, ex, _⟩ := I.hok p _ hk
          exact ⟨o, e, ex⟩
      obtain ⟨o, e, ex⟩ := z
      refine ⟨⟨o, e, ex.1⟩, fun a e2 => ?_⟩
      cases e2
      exact ⟨o, e, ex.2.1⟩
    · obtain ⟨o, _, _, _, e, ex, _⟩ := I.hok p _ hk
      refine ⟨⟨o, e, ex.1⟩, fun a e2 => ?_⟩
      cases e2
      exact ⟨o, e, ex.2.1⟩
  | _ => exact False.elim ty
def tBM (K : PySem.W.Frag) (T : String) (r : V → List V → Hp → VK → Prop) (to : TE) (t : TA) : TE := fun σ H Q => to σ H fun x H1 => tyV K T x H1 ∧ t σ H1 fun xs H2 => r x xs H2 Q
variable {o e : Expr} {es : List Expr} {to : TE} {t : TA} {name : Str} {apos cpos : Pos} {T id : String} {r : V → List V → Hp → VK → Prop}
theorem pe_bm (pa : PlainAttrs T) (slot : Slot T name id) (hty : typeOf (.builtin id) = pure (.type "method_descriptor")) (hm : MtR X id r) (ho : PE X o to) (ha : PA X (e :: es) t)
    (hbase : attributeBase o name X.env (eval o X.env) = eval o X.env := by rfl)
    (hfew : ((backTo cpos (starEach (e :: es) X.env)).all (fun x => !x.1) && (backToKw cpos (keywordEach [] X.env)).all (fun x => x.1.isSome)
      && decide ((e :: es).length + ([] : List Keyword).length + (if ([] : List Keyword).isEmpty then 0 else 1) < 30)) = true := by rfl)
    (hline : (apos.endLine == cpos.line) = true := by rfl) (hs : starEach (e :: es) X.env = (false, eval e X.env) :: starEach es X.env := by rfl) (hplain : (backTo cpos (starEach es X.env)).any (·.1) = false := by rfl) :
    PE X (.Call (.Attribute o name apos) (e :: es) [] cpos) (tBM X.K T r to t) := by
  intro pins s σ H Q I h
  refine wpAny_Call_method_late hbase hfew hline rfl (thn (ho pins s σ H _ I h) fun v s1 ⟨x, H1, I1, r1, ty, q1⟩ => ?_)
  obtain ⟨h1, h2⟩ := tyV_is I1 r1 ty
  refine ⟨T, id, pa, slot, hty, h1, h2, ?_⟩
  have hA := ha cpos pins s1 σ H1 _ I1 q1
  rw [hs] at hA ⊢
  refine Calls.callWith_builtin (by show (false || (backTo cpos (starEach es X.env)).any (·.1)) = false; rw [hplain] <;> rfl) (Calls.evalArgs_plain ?_)
  exact thn hA fun us s2 ⟨vs, H2, I2, r2, q2⟩ => hm pins s2 σ H2 x vs v us Q I2 r1 r2 q2

end
end L2

namespace L2
open PySem PySem.Spec PyProof.Rows

def MtM (X : Cx) (id : String) (r : V → List V → Hp → VK → Prop) : Prop :=
  ∀ (pins : List (Addr × Obj)) (s : Shared) (σ : St) (H : Hp) (x : V) (xs : List V) (v : Value) (us : List Value) (Q : VK), Inv X pins σ H s → RelV x v → Vals xs us → r x xs H Q →
    wpAny (model X.prog X.w) X.A (call (.builtin id) (v :: us)) (EP X pins σ Q) X.xe s


theorem Vals.one : ∀ {x : V} {us : List Value}, Vals [x] us → ∃ u, us = [u] ∧ RelV x u
  | _, _, .cons r .nil => ⟨_, rfl, r⟩
theorem Vals.two : ∀ {x y : V} {us : List Value}, Vals [x, y] us → ∃ u v, us = [u, v] ∧ RelV x u ∧ RelV y v
  | _, _, _, .cons r (.cons q .nil) => ⟨_, _, rfl, r, q⟩
theorem Vals.reverse {xs : List V} {us : List Value} (h : Vals xs us) : Vals xs.reverse us.reverse := by
  induction h with
  | nil => exact .nil
  | cons r t ih => rw [List.reverse_cons, List.reverse_cons]; exact Vals.append ih (.cons r .nil)
theorem Vals.rep {xs : List V} {us : List Value} (h : Vals xs us) : ∀ k : Nat, Vals (List.replicate k xs).flatten (List.replicate k us).flatten
  | 0 => .nil
  | k + 1 => by
    rw [List.replicate_succ, List.replicate_succ, List.flatten_cons, List.flatten_cons]
    exact Vals.append h (Vals.rep h k)
theorem foldl_rep (its : List Value) : ∀ (k : Nat) (acc : List Value),
    List.foldl (fun x1 x2 => x1 ++ x2) acc.toArray (List.replicate k its.toArray) = (acc ++ (List.replicate k its).flatten).toArray
  | 0, acc => by simp
  | k + 1, acc => by
    have e : acc.toArray ++ its.toArray = (acc ++ its).toArray := by simp
    have e2 : (acc ++ its) ++ (List.replicate k its).flatten = acc ++ (List.replicate (k + 1) its).flatten := by
      rw [List.replicate_succ, List.flatten_cons, List.append_assoc]
    rw [← e2, ← foldl_rep its k (acc ++ its), ← e, List.replicate_succ, List.foldl_cons]

section
variable {X : Cx} {pins : List (Addr × Obj)} {σ : St} {H : Hp} {s : Shared} {l b : Addr} {xs ys zs : List V}


theorem Inv.lset {its its' : List Value} {n : Nat} {f : Array Value → Array Value} {t' : Nat} (I : Inv X pins σ H s) (hH : H l = some (.lst xs))
    (e : s.heap.get? l = some { cls := .type "list", data := .seq its.toArray n }) (hf : f its.toArray = its'.toArray) (hv : Vals ys its') (hz : ys.length ≤ sizeLine) :
    Inv X pins σ (upd H l (.lst ys)) { s with heap := s.heap.update l (Obj.mapSeq f), toks := t' } := by
  have q := PySem.IsL.update e f
  rw [hf] at q
  refine I.write (x := l) (e := l) (by rw [hH]; exact trivial) (.inl rfl) (fun b' u hb hu => (Heap.get?_update_other s.heap (Obj.mapSeq f) (Ne.symm hb)).trans hu) ⟨_, q⟩ ?_
  exact ⟨hz, its', _, hv, q⟩
theorem Inv.lnew {its : List Value} {t' : Nat} (I : Inv X pins σ H s) (hv : Vals ys its) (hz : ys.length ≤ sizeLine) :
    Inv X pins σ (upd H s.heap.objs.size (.lst ys)) { s with heap := s.heap.push { cls := .type "list", data := .seq its.toArray }, toks := t' } :=
  I.laid (fun _ _ q => Heap.get?_push_of_some _ q) (Nat.le_refl _) ⟨hz, its, 0, hv, Heap.get?_push_size _ rfl⟩
theorem Inv.fresh (I : Inv X pins σ H s) : H s.heap.objs.size = none := I.hok.fresh (Nat.le_refl _)
theorem Inv.lstM (I : Inv X pins σ H s) (hH : H l = some (.lst xs)) : xs.length ≤ sizeLine ∧ ∃ (its : List Value) (n : Nat), Vals xs its ∧ xs.length = its.length ∧ s.heap.get? l = some { cls := .type "list", data := .seq its.toArray n } := by
  obtain ⟨z, its, n, r, e⟩ := I.hok l _ hH
  exact ⟨z, its, n, r, r.length, e⟩

theorem notLongL {n : Nat} (h : n ≤ sizeLine) : Builtin.List.listTooLong n = false := by
  unfold Builtin.List.listTooLong
  exact decide_eq_false (by omega)
end

section
variable {X : Cx}


def rAppend : V → List V → Hp → VK → Prop := fun x vs H Q => ∃ l xs y, x = .ref l ∧ vs = [y] ∧ H l = some (.lst xs) ∧ xs.length < sizeLine ∧ Q .non (upd H l (.lst (xs ++ [y])))
theorem mt_append : MtM X "list.append" rAppend := by
  intro pins s σ H x vs v us Q I rx rv h
  obtain ⟨l, xs, y, rfl, rfl, hH, hz, q⟩ := h
  cases rx
  obtain ⟨u, rfl, ru⟩ := rv.one
  obtain ⟨z, its, n, r, hl, e⟩ := I.lstM hH
  refine call_meets F.slot_list_append ⟨_, e, rfl⟩ F.entry_list_append (F.args_list_append_2 _ _) (PySem.list_append l its.toArray n u (by rw [List.size_toArray]; omega)) ⟨e, ?_⟩
  refine ⟨.non, _, I.lset (its' := its ++ [u]) hH e (by simp) (r.append (.cons ru .nil)) ?_, rfl, q⟩
  rw [List.length_append, List.length_singleton]
  omega

def rExtend : V → List V → Hp → VK → Prop := fun x vs H Q => ∃ l b xs zs, x = .ref l ∧ vs = [.ref b] ∧ H l = some (.lst xs) ∧ H b = some (.lst zs) ∧ xs.length + zs.length ≤ sizeLine ∧ Q .non (upd H l (.lst (xs ++ zs)))
theorem mt_extend : MtM X "list.extend" rExtend := by
  intro pins s σ H x vs v us Q I rx rv h
  obtain ⟨l, b, xs, zs, rfl, rfl, hH, hB, hz, q⟩ := h
  cases rx
  obtain ⟨u, rfl, ru⟩ := rv.one
  cases ru
  obtain ⟨z, its, n, r, hl, e⟩ := I.lstM hH
  obtain ⟨z2, its2, n2, r2, hl2, e2⟩ := I.lstM hB
  have hsz : its.toArray.size + its2.toArray.size ≤ sizeLine := by rw [List.size_toArray, List.size_toArray]; omega
  have hlong : ¬ (!its.toArray.isEmpty && Builtin.List.listTooLong (its.toArray.size + its2.toArray.size)) = true := by
    rw [notLongL hsz, Bool.and_false]
    exact Bool.false_ne_true
  refine call_meets F.slot_list_extend ⟨_, e, rfl⟩ F.entry_list_extend (F.args_list_extend_2 _ _)
    (AutoSeq1.list_extend_list_list_0 l its.toArray n b its2.toArray n2 hlong (by rw [List.size_toArray]; omega) (by omega)) ⟨e, e2, ?_⟩
  refine ⟨.non, _, I.lset (its' := its ++ its2) hH e (by simp) (r.append r2) ?_, rfl, q⟩
  rw [List.length_append]
  omega

def rRep : R2 := fun x y H Q => ∃ l k xs, x = .ref l ∧ y = .int k ∧ H l = some (.lst xs) ∧ -(2 ^ 63) ≤ k ∧ k < 2 ^ 63 ∧ xs.length * k.toNat ≤ sizeLine ∧
  ∀ p, H p = none → Q (.ref p) (upd H p (.lst (List.replicate k.toNat xs).flatten))
theorem len_rep {α : Type} (xs : List α) (k : Nat) : (List.replicate k xs).flatten.length = k * xs.length := by
  induction k with
  | zero => simp
  | succ k ih => rw [List.replicate_succ, List.flatten_cons, List.length_append, ih, Nat.succ_mul, Nat.add_comm]
theorem op_rep : OpR X (binaryOp .Mult) rRep := by
  intro pins s σ H x y v u Q I rx ry h
  obtain ⟨l, k, xs, rfl, rfl, hH, h1, h2, hz, q⟩ := h
  cases rx
  obtain ⟨t, rfl⟩ := ry
  obtain ⟨z, its, n, r, hl, e⟩ := I.lstM hH
  have hlen : its.toArray.size * k.toNat ≤ sizeLine := by rw [List.size_toArray, ← hl]; exact hz
  have hcap : ¬ its.toArray.size * k.toNat > (2 ^ 63 - 1) / 8 := by
    have : (sizeLine : Nat) ≤ (2 ^ 63 - 1) / 8 := by decide
    omega
  have hfit : ¬ (!Builtin.List.listFitsIndex k) = true := by
    rw [fitsIndex_both h1 h2]
    exact Bool.false_ne_true
  have hlong : ¬ Builtin.List.listTooLong (its.toArray.size * k.toNat) = true := by
    rw [notLongL hlen]
    exact Bool.false_ne_true
  have hnew : List.foldl (fun x1 x2 => x1 ++ x2) #[] (List.replicate (if its.toArray.isEmpty = true then 0 else k.toNat) its.toArray) = (List.replicate k.toNat its).flatten.toArray := by
    have f0 : ∀ m : Nat, List.foldl (fun x1 x2 => x1 ++ x2) #[] (List.replicate m its.toArray) = (List.replicate m its).flatten.toArray := fun m => by
      have := foldl_rep its m []
      rw [List.nil_append] at this
      exact this
    rw [f0]
    cases its with
    | nil => simp
    | cons a r' => rw [if_neg (by simp)]
  refine wpAny_binaryOp_repeat_ref (T := "list") (U := "int") (by decide) ⟨_, e, rfl⟩ (fun s' => typeIs_int s' k t) noFill_list_mul F.fills_int_mul F.slot_int_rmul repeat_list F.slot_int_index.lookup
    (call_meets F.slot_int_rmul (typeIs_int s k t) F.entry_int_rmul (F.args_int_rmul_2 _ _) (int___rmul___int_list k t l its.toArray n)
      ⟨e, rfl, ⟨_, e, rfl⟩, call_meets F.slot_list_mul ⟨_, e, rfl⟩ F.entry_list_mul (F.args_list_mul_2 _ _) (AutoListH.list___mul___list_int_3 l its.toArray n k t hfit hcap hlong) ⟨e, ?_⟩⟩)
  rw [hnew]
  exact ⟨.ref _, _, I.lnew (t' := s.toks) (r.rep k.toNat) (by rw [len_rep, Nat.mul_comm]; exact hz), rfl, q _ I.fresh⟩


end


section
variable {prog : Program} {w : World} {A : Around} {E : Value → Shared → Prop} {s : Shared}
end

section
variable {X : Cx}

end
end L2

namespace Att
open PySem PySem.W PySem.Calls PyProof.Rows


theorem ints_of_wellAll {P : Params} {h : Heap} : ∀ (ns : List Int) (vs : List Value), WellAll P h vs (ns.map WData.int) → IntsAre vs ns := by
  intro ns
  induction ns with
  | nil =>
    intro vs w
    rw [List.map_nil] at w
    cases w
    exact .nil
  | cons n ns ih =>
    intro vs w
    rw [List.map_cons] at w
    cases w with
    | cons a b =>
      cases a
      exact .cons _ _ (ih _ b)

theorem script_of {l : OpenLaw} {n : Nat} (hn : l.most = some n) {P : Params} {h : Heap} {args : List WData} {vals : List Value}
    (hpre : l.row.toRowW.claim.pre args = true) (hwl : WellAll P h vals args) :
    ∃ a vs ns, vals = [Value.ref a] ∧ args = [WData.list (ns.map WData.int)] ∧ h.get? a = some { cls := .type "list", data := .seq vs.toArray } ∧ IntsAre vs ns ∧ ns.length ≤ n := by
  have hsh : WShape.hasAll [] args [.list .int] = true := (pre_splitW hpre).1
  have hc : l.pre.holds [] { args := args } = true := (pre_splitW hpre).2
  obtain ⟨d, r, rfl, h1, h2⟩ := hasAllW_cons hsh
  obtain rfl := hasAllW_nil h2
  obtain ⟨xs, rfl, h3⟩ := hasW_list h1
  obtain ⟨ns, rfl⟩ := items_int h3
  have hlen : ns.length ≤ n := by
    unfold OpenLaw.pre at hc
    have h4 : (WTm.not (.lt (.lit (.int (n : Int))) (.len (.arg 0)))).holds [] { args := [.list (ns.map .int)] } = true := by
      have h4 := (holds_andW hc).1
      rw [hn] at h4
      exact h4
    have h5 := condW_of h4 (w_not (w_lt w_lit (w_len_list (w_arg rfl))))
    rw [List.length_map] at h5
    refine Nat.le_of_not_lt fun q => ?_
    have q' : (n : Int) < ((ns.length : Nat) : Int) := by omega
    first
      | (rw [decide_eq_true q'] at h5; exact absurd h5 (by decide))
      | (simp at h5; omega)
  cases hwl with
  | cons w1 w2 =>
    cases w2
    cases w1 with
    | list ho hall => exact ⟨_, _, ns, rfl, rfl, ho, ints_of_wellAll ns _ hall, hlen⟩

theorem post_true (l : OpenLaw) (args : List WData) : l.row.toRowW.claim.post args (.bool true) args = true :=
  postW_of (r := l.row.toRowW) (X := (true == true))
    (show WShape.has [] (.bool true) .bool = true by first | rfl | decide | simp [WShape.has, WShape.arms, WShape.armsAll])
    (show (WTm.eq .res (.lit (.bool true))).value [] { args := args, res := some (.bool true), after := args } = some (.bool (true == true)) from w_eq_bool (w_res rfl) w_lit) rfl


theorem attach_call {l : OpenLaw} {n : Nat} {q : Program} {loose : List Str} {XP : (Str → Option Value) → Heap → Prop} {YP : World → Heap → Prop} {d : DefRec}
    (hn : l.most = some n) (hdf : d.params.defaults = [])
    (call : ∀ (w : World) (s₀ s₁ : Shared) (mg mb : Str → Option Value) (fa : Addr) (o : Obj) (pm cd doc : Value) (a : Addr) (vs : List Value) (ns : List Int),
      Ground q loose [] XP w s₀ mg mb s₁.heap → YP w s₁.heap →
      s₁.heap.get? fa = some o → o.data = .func (docDef d.name d.params d.body d.scope pm cd doc) → s₁.heap.CodeRec cd d.name → mg d.name = some (.ref fa) →
      s₁.heap.get? a = some { cls := .type "list", data := .seq vs.toArray } → IntsAre vs ns → ns.length ≤ n → s₁.gens = #[] →
      codeAny (model l.prog w) callerA (.call (.ref fa) ⟨[.ref a], []⟩) (fun r s' => r = .ok (.ret (.bool true)) ∧ OldK s₁.heap s'.heap ∧ s'.os = s₁.os ∧ AllBare s'.gens) s₁) :
    WalkO q loose XP YP l.row.toRowW d [] (fun f vs => PySem.call f vs) := by
  intro w s₀ s₁ mg mb G Y fa o pm cd doc dV kV ho hd hcd hD hmg hg args vals as hpre hlay hrd hwl hlo
  obtain rfl : dV = .none := Dflts.none hD hdf
  obtain rfl : kV = .none := Dflts.noKw hD
  obtain ⟨a, vs, ns, rfl, rfl, hobj, hints, hlen⟩ := script_of hn hpre hwl
  refine enter_call (codeAny_mono (call w s₀ s₁ mg mb fa o pm cd doc a vs ns G Y ho (fd_plain hd) hcd hmg hobj hints hlen hg) fun r s' hq => ?_)
  obtain ⟨rfl, h2, h3, h4⟩ := hq
  exact ⟨.inl ⟨.bool true, .bool true, [], rfl, fun _ => rfl, .bool true, post_true l _, fun _ => ⟨List.Pairwise.nil, fun _ hm => (nomatch hm)⟩⟩, h2, h3, h4⟩


section
variable {prog : Program} {w : World} {A : Around} {E : Value → Shared → Prop} {s : Shared} {K : Frag}


end
end Att

namespace L2
open PySem PySem.Spec PyProof.Rows

theorem vals_ints : ∀ {vs : List Value} {ns : List Int}, IntsAre vs ns → Vals (ns.map V.int) vs
  | _, _, .nil => .nil
  | _, _, .cons n t h => .cons ⟨t, rfl⟩ (vals_ints h)


def Only (H : Hp) : Prop := ∀ b, H b = none ∨ ∃ o xs, H b = some (.frz o (.lst xs))


theorem law_call {P : Program} {w : World} {K : PySem.W.Frag} {mg mb : Str → Option Value} {CX : CXT} {k : Nat} {fa a : Addr} {fd : FuncData} {x : Str} {sp : Sp} {s₁ : Shared} {vs : List Value} {ns : List Int}
    (KX : K.In s₁.heap) (hns : s₁.heap.Ns mainGlobals mg) (hb : s₁.heap.Ns builtinsNs mb) (hbb : ∀ x : Str, x ≠ "__name__" → mb x = bootBuiltins x) (hlim : s₁.heap.NoLimit) (hg : s₁.gens = #[])
    (ha : s₁.heap.get? a = some { cls := .type "list", data := .seq vs.toArray }) (hi : IntsAre vs ns) (hl : ns.length ≤ sizeLine) (hr : Room k callerA)
    (F : ∀ base : Heap, K.In base → base.Ns mainGlobals mg → FnOk P w K mg base CX k fa fd [x] sp) (hbind : ∀ (s : Shared) (u : Value), BindsTo s fd ⟨[u], []⟩ [(x, u)])
    (hsp : ∀ H : Hp, Only H → SqL K H a (ns.map V.int) → sp [.ref a] H (fun v _ => v = .bl true) fun _ _ _ => False)
    (hCX : ∀ H e s', CX [] H s₁ (fun _ _ _ => False) e s' → False) :
    codeAny (model P w) callerA (.call (.ref fa) ⟨[.ref a], []⟩) (fun r s' => r = .ok (.ret (.bool true)) ∧ OldK s₁.heap s'.heap ∧ s'.os = s₁.os ∧ AllBare s'.gens) s₁ := by
  have rv := vals_ints hi
  have lenV := hi.length
  -- from an abstract heap in which nothing but the script may be tracked
  have core : ∀ H : Hp, Only H → SqL K H a (ns.map V.int) → HOk P w H s₁.heap → (∀ b, H b ≠ none → b = a) → (H a ≠ none → K.lookup a = none) →
      codeAny (model P w) callerA (.call (.ref fa) ⟨[.ref a], []⟩) (fun r s' => r = .ok (.ret (.bool true)) ∧ OldK s₁.heap s'.heap ∧ s'.os = s₁.os ∧ AllBare s'.gens) s₁ := by
    intro H hO hS hok hA hK
    have base_of : ∀ {b : Addr} {o : Obj}, s₁.heap.get? b = some o → H b = none → (hidT s₁.heap H).get? b = some o := fun e n => hidT_get e n
    have noA : ∀ {b : Addr} {o : Obj} {es : Array DictEntry} {ep : Nat}, s₁.heap.get? b = some o → o.data = .dict es ep → H b = none := fun {b o es ep} e d => by
      cases q : H b with
      | none => rfl
      | some u =>
        have e' : b = a := hA b (by rw [q]; simp)
        subst e'
        rw [ha] at e; cases e
        have d' : Data.seq vs.toArray _ = Data.dict es ep := d
        cases d'
    have nsK : ∀ {b : Addr} {m : Str → Option Value}, s₁.heap.Ns b m → (hidT s₁.heap H).Ns b m := fun {b m} ⟨o, es, ep, e, d, r⟩ => ⟨o, es, ep, base_of e (noA e d), d, r⟩
    have hKb : K.In (hidT s₁.heap H) := fun b o e => base_of (KX b o e) (by
      cases q : H b with
      | none => rfl
      | some u =>
        have e' : b = a := hA b (by rw [q]; simp)
        subst e'
        rw [hK (by rw [q]; simp)] at e; cases e)
    have hM : Mod K mg (hidT s₁.heap H) := ⟨hKb, nsK hns, ⟨mb, nsK hb, hbb⟩, let ⟨mc, h1, h2⟩ := hlim; ⟨mc, nsK h1, h2⟩⟩
    have e0 : Env0 P w K mg (hidT s₁.heap H) callerA [] s₁ H := ⟨rfl, hM, fun b o e => of_hidT e, Nat.le_of_eq (hidT_size _ _), trivial, fun b hb => absurd (show b ∈ ([] : List Addr) from hb) (by simp), hok, .of_eq hg⟩
    refine codeAny_mono ((F _ hKb (nsK hns)).run callerA [] s₁ H ⟨[.ref a], []⟩ [.ref a] [.ref a] _ _ hr e0 (hbind s₁ (.ref a)) (.cons rfl .nil) (hsp H hO hS)) fun r s' h => ?_
    cases r with
    | error e => exact (hCX H e s' h).elim
    | ok fl =>
      cases fl with
      | next => exact False.elim h
      | brk => exact False.elim h
      | cont => exact False.elim h
      | ret u =>
        obtain ⟨v, H', os, bare, un, hok', r', q⟩ := h
        have q' : v = .bl true := q
        subst q'
        obtain rfl : u = Value.bool true := r'
        refine ⟨rfl, OldK.of_keep fun b o e => ?_, os, bare⟩
        cases q : H b with
        | none => exact un.keep b o e q (by intro z; exact absurd (show b ∈ ([] : List Addr) from z) (by simp)) (by simp)
        | some u =>
          rcases hO b with z | ⟨ob, xs, z⟩
          · rw [q] at z; cases z
          · have z2 := un.frzs b ob _ z
            obtain ⟨e1, _⟩ := hok b _ z
            obtain ⟨e2, _⟩ := hok' b _ z2
            rw [e] at e1; cases e1
            exact e2
  cases hk : K.lookup a with
  | some o =>
    -- the script is one of the module's own objects
    have e := KX a o hk
    rw [ha] at e
    cases e
    refine core (fun _ => none) (fun _ => .inl rfl) (.inr ⟨_, vs.toArray, _, hk, rfl, rfl, rfl, by rw [List.size_toArray, lenV]; exact hl, by simpa using rv⟩) (fun b u z => by have z' : (none : Option HO) = some u := z; cases z') (fun b z => absurd rfl z) fun z => absurd rfl z
  | none =>
    refine core (fun b => if b = a then some (.frz { cls := .type "list", data := .seq vs.toArray } (.lst (ns.map V.int))) else none) (fun b => ?_) (.inl (.inr ⟨{ cls := .type "list", data := .seq vs.toArray }, if_pos rfl⟩)) (fun b u z => ?_) (fun b z => ?_) fun _ => hk
    · by_cases hb : b = a
      · exact .inr ⟨_, _, if_pos hb⟩
      · exact .inl (if_neg hb)
    · by_cases hb : b = a
      · have z' := (if_pos hb).symm.trans z
        cases z'
        subst hb
        exact ⟨ha, by rw [List.length_map]; exact hl, vs, _, rv, ha⟩
      · have z' := (if_neg hb).symm.trans z
        cases z'
    · by_cases hb : b = a
      · exact hb
      · exact absurd (if_neg hb) z
end L2

namespace L2
open PySem PySem.Spec PyProof.Rows

theorem walk_of {l : PySem.W.OpenLaw} {n k : Nat} {q : Program} {loose : List Str} {XP : (Str → Option Value) → Heap → Prop} {YP : World → Heap → Prop} {d : DefRec} {K : Params → PySem.W.Frag} {CX : World → CXT} {sp : World → Sp} {x : Str}
    (hn : l.most = some n) (hn2 : n ≤ sizeLine) (hdf : d.params.defaults = []) (hr : Room k callerA)
    (hY : ∀ (w : World) (h : Heap), YP w h → (K w.params).In h)
    (F : ∀ (w : World) (mg : Str → Option Value) (fa : Addr) (h : Heap), (K w.params).In h → h.Ns mainGlobals mg → mg d.name = some (.ref fa) →
      ∃ fd : FuncData, (∀ (s : Shared) (u : Value), BindsTo s fd ⟨[u], []⟩ [(x, u)]) ∧
        ∀ base : Heap, (K w.params).In base → base.Ns mainGlobals mg → FnOk l.prog w (K w.params) mg base (CX w) k fa fd [x] (sp w))
    (hsp : ∀ (w : World) (H : Hp) (a : Addr) (ns : List Int), ns.length ≤ n → Only H → SqL (K w.params) H a (ns.map V.int) → sp w [.ref a] H (fun v _ => v = .bl true) fun _ _ _ => False)
    (hCX : ∀ (w : World) (H : Hp) (s : Shared) (e : Value) (s' : Shared), CX w [] H s (fun _ _ _ => False) e s' → False) :
    PySem.W.WalkO q loose XP YP l.row.toRowW d [] (fun f vs => PySem.call f vs) := by
  refine Att.attach_call hn hdf fun w s₀ s₁ mg mb fa o pm cd doc a vs ns G Y ho hd hcd hmg hobj hints hlen hg => ?_
  have KX := hY w _ Y
  obtain ⟨fd, hb, hF⟩ := F w mg fa _ KX G.T.g hmg
  exact law_call KX G.T.g G.T.b G.T.builtins G.T.nolimit hg hobj hints (Nat.le_trans hlen hn2) hr hF hb (fun H hO hS => hsp w H a ns hlen hO hS) fun H e s' => hCX w H s₁ e s'

end L2




namespace L2
open PySem PySem.Spec PyProof.Rows





abbrev CX0 : CXT := fun _ _ _ _ _ _ => False
abbrev E0 : XK := fun _ _ _ => False
theorem pass0 {X : Cx} : Passes CX0 X E0 := fun _ _ _ _ _ _ _ h => h.elim


structure Fun (K : PySem.W.Frag) (x qual : Str) (st : Stmt) (f : Addr) (fd : FuncData) : Prop where
  ex : ∃ (oc : Value) (od : Option Addr) (kV doc pm : Value) (an : Option Addr) (cdv ct : Value) (osl : Array (Option Value)),
    fd = PySem.W.fnOf x qual (defArgs st) (defBody st) (defScope st) .none kV doc pm an cdv ct ∧ K.lookup f = some ⟨oc, od, .func fd, osl⟩ ∧ PySem.W.codeIn K cdv qual = true
  kp : PySem.W.keepIn K (.ref f) = true
section
variable {P : Program} {w : World} {K : PySem.W.Frag} {mg : Str → Option Value} {base : Heap}

theorem Fun.ok {x qual : Str} {st : Stmt} {f : Addr} {fd : FuncData} {N ps : List Str} {k : Nat} {sp : Sp} (F : Fun K x qual st f fd) (S : FnScope N ps (defScope st)) (len : ∀ vs H Q E, sp vs H Q E → vs.length = ps.length)
    (hbody : ∀ (cdv : Value) (A : Around) (outer : List Env) (s : Shared) (H : Hp) (vs : List V) (Q : VK) (E : XK), Room k (A.deeper (envOfC qual (defScope st) s.heap.objs.size f cdv)) → sp vs H Q E →
      ∃ t, PSs (cxOf CX0 P w K mg base N qual (defScope st) f cdv A outer s H E).nox (defBody st) t ∧ t { nx := fun _ H' => Q .non H', rt := Q } (start N vs) H) : FnOk P w K mg base CX0 (k + 1) f fd ps sp := by
  obtain ⟨oc, od, kV, doc, pm, an, cdv, ct, osl, rfl, lk, hcd⟩ := F.ex
  refine fn_of lk hcd S len fun A outer s H vs Q E hr hsp => ?_
  obtain ⟨t, h, q⟩ := hbody cdv A outer s H vs Q E hr hsp
  exact ⟨t, h.nox, q⟩

theorem Fun.binds {x qual : Str} {st : Stmt} {f : Addr} {fd : FuncData} {ps : List Str} (F : Fun K x qual st f fd)
    (h : ∀ (kV doc pm : Value) (an : Option Addr) (cdv ct : Value) (us : List Value), us.length = ps.length → bindArgs (PySem.W.fnOf x qual (defArgs st) (defBody st) (defScope st) .none kV doc pm an cdv ct) ⟨us, []⟩ = pure (ps.zip us)) : Binds K fd ps [] := by
  obtain ⟨oc, od, kV, doc, pm, an, cdv, ct, osl, rfl, lk, hcd⟩ := F.ex
  exact .all (h kV doc pm an cdv ct)
theorem fun_mk {x qual : Str} {st : Stmt} {f : Addr} {oc : Value} {od an : Option Addr} {osl : Array (Option Value)} {kV doc pm cdv ct : Value} (l : K.lookup f = some ⟨oc, od, .func (PySem.W.fnOf x qual (defArgs st) (defBody st) (defScope st) .none kV doc pm an cdv ct), osl⟩)
    (c : PySem.W.codeIn K cdv qual = true) (k : PySem.W.keepIn K (.ref f) = true) : Fun K x qual st f (PySem.W.fnOf x qual (defArgs st) (defBody st) (defScope st) .none kV doc pm an cdv ct) := ⟨⟨oc, od, kV, doc, pm, an, cdv, ct, osl, rfl, l, c⟩, k⟩
end
theorem small1000 {n : Nat} (h : n ≤ 1000) : n < sizeLine := Nat.lt_of_le_of_lt h (by decide)


section
variable {X : Cx}
theorem pv (i : Nat) {x : Str} {pos : Pos} (hN : X.N[i]? = some x := by rfl) (hv : Vis X.env.scope x := by first | exact Or.inl rfl | exact Or.inr (Or.inl rfl) | exact Or.inr (Or.inr rfl)) (hd : (x == ("__debug__" : Str)) = false := by decide)
    (hcd : (x == ("__classdict__" : Str)) = false := by decide) : PE X (.Name x pos) (tVar i) := pe_var hN hv hd hcd
end


theorem iteF {A B : Prop} (h : B) : if false = true then A else B := by
  rw [if_neg Bool.false_ne_true]
  exact h
theorem iteT {A B : Prop} (h : A) : if true = true then A else B := by
  rw [if_pos rfl]
  exact h
def Same (H H' : Hp) : Prop := ∀ b o, H b = some o → H' b = some o
theorem Same.refl (H : Hp) : Same H H := fun _ _ h => h
theorem Same.trans {H H1 H2 : Hp} (a : Same H H1) (b : Same H1 H2) : Same H H2 := fun c o h => b c o (a c o h)
theorem Same.seq {K : PySem.W.Frag} {H H' : Hp} {a : Addr} {xs : List V} (e : Same H H') (h : SqL K H a xs) : SqL K H' a xs := by
  rcases h with (h | ⟨o, h⟩) | h
  · exact .inl (.inl (e _ _ h))
  · exact .inl (.inr ⟨o, e _ _ h⟩)
  · exact .inr h

end L2
set_option maxHeartbeats 4000000
namespace L2
open PySem PySem.Spec PyProof.Rows


section
variable {prog : Program} {w : World} {A : Around} {R : Result → Shared → Prop} {s : Shared}
theorem comp_loop {elt target iter : Expr} {ifs : List Expr} {scope : Scope} {pos : Pos} {it acc : Value} {env : Env} (I : Nat → Shared → Prop)
    (turn : ∀ n s, I n s → wpAny (model prog w) A (pyNext it) (fun r s1 => match r with
      | none => R (.ok .next) s1
      | some v => wpAny (model prog w) A (letOwnedTupleGo target it v) (fun _ s1' => wpAny (model prog w) A (assign target env v) (fun _ s2 =>
          wpAny (model prog w) A (forIn ifs true fun c r => if r = true then do let ok ← isTrue c env (eval c env); pure (ForInStep.yield ok) else pure (ForInStep.yield r)) (fun ok s3 =>
            if ok = true then wpAny (model prog w) A (eval elt env) (fun x s4 =>
              wpAny (model prog w) A (call (.builtin "list.append") [acc, x]) (fun _ s5 => ∃ m, m < n ∧ I m s5) (fun _ _ => False) s4) (fun _ _ => False) s3
            else ∃ m, m < n ∧ I m s3) (fun _ _ => False) s2) (fun _ _ => False) s1') (fun _ _ => False) s1) (fun _ _ => False) s)
    (n : Nat) (h : I n s) :
    codeAny (model prog w) A (.compLoop (.ListComp elt [⟨target, iter, ifs, 0⟩] scope pos) 0 it acc env) R s := by
  refine codeAny_loop rfl I (fun n s hI => ?_) n h
  show wpAny _ A ((compTurn (.ListComp elt [⟨target, iter, ifs, 0⟩] scope pos) 0 it acc env).onRaise (fun x => do noteFrame x env; theTreesLotGoes x)) _ _ s
  refine wpAny_noted ?_
  rw [compTurn_list]
  refine wpAny_bind (wpAny_standAt (wpAny_bind (wpAny_mono (turn n s hI) (fun r s1 h1 => ?_) fun _ _ f => f.elim)))
  cases r with
  | none => exact wpAny_pure h1
  | some v =>
    refine wpAny_bind (wpAny_mono h1 (fun _ s1' h1' => ?_) fun _ _ f => f.elim)
    refine wpAny_bind (wpAny_mono h1' (fun _ s2 h2 => wpAny_bind (wpAny_mono h2 (fun ok s3 h3 => ?_) fun _ _ f => f.elim)) fun _ _ f => f.elim)
    cases ok with
    | false => exact wpAny_pure ⟨rfl, h3⟩
    | true =>
      exact wpAny_bind (wpAny_bind (wpAny_mono h3 (fun x s4 h4 => wpAny_bind (wpAny_mono h4 (fun _ s5 h5 => wpAny_pure (wpAny_pure ⟨rfl, h5⟩)) fun _ _ f => f.elim)) fun _ _ f => f.elim))
end


def clOf (env : Env) : List (Str × NameKind) → List (Str × Addr) → List (Str × Addr)
  | [], cs => cs
  | (n, k) :: r, cs => clOf env r (if (k == NameKind.free) = true then (match env.cells.lookup n with | some a => (n, a) :: cs | none => cs) else cs)
theorem closure_loop {env : Env} {f : Str × NameKind → List (Str × Addr) → Sem (ForInStep (List (Str × Addr)))}
    (hf : ∀ n k cs, f (n, k) cs = if (k == NameKind.free) = true then (do let a ← cellOf env n; pure (.yield ((n, a) :: cs))) else pure (.yield cs)) :
    ∀ (l : List (Str × NameKind)) (cs : List (Str × Addr)), (∀ y ∈ l, y.2 = .free → ∃ c, env.cells.lookup y.1 = some c) → forIn l cs f = pure (clOf env l cs)
  | [], cs, _ => by rw [List.forIn_nil]; rfl
  | (n, k) :: r, cs, h => by
    have hr : ∀ y ∈ r, y.2 = .free → ∃ c, env.cells.lookup y.1 = some c := fun y hy => h y (List.mem_cons_of_mem _ hy)
    rw [List.forIn_cons, hf]
    unfold clOf
    by_cases hk : (k == NameKind.free) = true
    · obtain ⟨c, hc⟩ := h (n, k) List.mem_cons_self (by simpa using hk)
      have hc' : env.cells.lookup n = some c := hc
      rw [if_pos hk, if_pos hk]
      simp only [cellOf, hc', pure_bind]
      exact closure_loop hf r _ hr
    · rw [if_neg hk, if_neg hk, pure_bind]
      exact closure_loop hf r _ hr
theorem closure_eq {env : Env} {scope : Scope} (h : ∀ y ∈ scope.names, y.2 = .free → ∃ c, env.cells.lookup y.1 = some c) : closureFor scope env = pure (clOf env scope.names []) := by
  simp only [closureFor]
  rw [closure_loop (env := env) (fun n k cs => by cases hk : k == NameKind.free <;> simp [hk]) scope.names [] h]
  rfl
theorem clOf_mem {env : Env} {x : Str} {c : Addr} : ∀ {l : List (Str × NameKind)} {cs : List (Str × Addr)}, (∀ z d, cs.lookup z = some d → env.cells.lookup z = some d) → (clOf env l cs).lookup x = some c → env.cells.lookup x = some c
  | [], _, hc, h => hc _ _ h
  | (n, k) :: r, cs, hc, h => by
    unfold clOf at h
    refine clOf_mem (l := r) ?_ h
    intro z d hz
    split at hz
    · split at hz
      · rename_i a ha
        rw [List.lookup_cons] at hz
        split at hz
        · rename_i e
          have e' : z = n := by simpa using e
          subst e'
          rw [ha]
          exact hz
        · exact hc z d hz
      · exact hc z d hz
    · exact hc z d hz
theorem clOf_get {env : Env} {x : Str} {c : Addr} (e : env.cells.lookup x = some c) : ∀ {l : List (Str × NameKind)} {cs : List (Str × Addr)}, (∀ z d, cs.lookup z = some d → env.cells.lookup z = some d) →
    ((x, NameKind.free) ∈ l ∨ ∃ d, cs.lookup x = some d) → (clOf env l cs).lookup x = some c
  | [], cs, hc, h => by
    rcases h with h | ⟨d, h⟩
    · simp at h
    · have := hc x d h
      rw [e] at this
      cases this
      exact h
  | (n, k) :: r, cs, hc, h => by
    unfold clOf
    have hc2 : ∀ z d, (if (k == NameKind.free) = true then (match env.cells.lookup n with | some a => (n, a) :: cs | none => cs) else cs).lookup z = some d → env.cells.lookup z = some d := by
      intro z d hz
      split at hz
      · split at hz
        · rename_i a ha
          rw [List.lookup_cons] at hz
          split at hz
          · rename_i e
            have e' : z = n := by simpa using e
            subst e'
            rw [ha]
            exact hz
          · exact hc z d hz
        · exact hc z d hz
      · exact hc z d hz
    refine clOf_get e (l := r) hc2 ?_
    have keep : ∀ d, cs.lookup x = some d → ∃ d, (if (k == NameKind.free) = true then (match env.cells.lookup n with | some a => (n, a) :: cs | none => cs) else cs).lookup x = some d := by
      intro d hd
      split
      · split
        · rename_i a ha
          rw [List.lookup_cons]
          split
          · exact ⟨_, rfl⟩
          · exact ⟨d, hd⟩
        · exact ⟨d, hd⟩
      · exact ⟨d, hd⟩
    rcases h with h | ⟨d, h⟩
    · rcases List.mem_cons.mp h with h | h
      · have e1 : x = n := congrArg Prod.fst h
        have e2 : k = NameKind.free := (congrArg Prod.snd h).symm
        subst e1 e2
        refine .inr ⟨c, ?_⟩
        rw [if_pos (by decide), e]
        simp [List.lookup_cons]
      · exact .inl h
    · exact .inr (keep d h)

theorem relabel_free {env : Env} : ∀ {names : List (Str × NameKind)} {x : Str} {k : NameKind},
    (names.map fun (n, k) => if (k == NameKind.free && env.scope.kind == .function && env.kindOf n == some .cell) then (n, NameKind.cell) else (n, k)).lookup x = some k → (k = .cell ∨ k = .free) → (∀ y ∈ names, y.2 ≠ .cell) → names.lookup x = some .free
  | [], _, _, h, _, _ => by simp at h
  | (n, k0) :: r, x, k, h, hk, hn => by
    have ih := @relabel_free env r x k
    have h' : List.lookup x ((if (k0 == NameKind.free && env.scope.kind == .function && env.kindOf n == some .cell) = true then (n, NameKind.cell) else (n, k0)) :: (r.map fun (n, k) => if (k == NameKind.free && env.scope.kind == .function && env.kindOf n == some .cell) then (n, NameKind.cell) else (n, k))) = some k := h
    cases hx : x == n with
    | true =>
      have go : List.lookup x ((n, k0) :: r) = some k0 := by simp [List.lookup_cons, hx]
      rw [go]
      by_cases hc : (k0 == NameKind.free && env.scope.kind == .function && env.kindOf n == some .cell) = true
      · have : k0 = NameKind.free := by
          simp only [Bool.and_eq_true] at hc
          simpa using hc.1.1
        rw [this]
      · rw [if_neg hc] at h'
        simp only [List.lookup_cons, hx] at h'
        cases h'
        rcases hk with hk | hk
        · exact absurd hk (hn _ List.mem_cons_self)
        · rw [hk]
    | false =>
      have go : List.lookup x ((n, k0) :: r) = List.lookup x r := by simp [List.lookup_cons, hx]
      rw [go]
      refine ih ?_ hk (fun y hy => hn y (List.mem_cons_of_mem _ hy))
      by_cases hc : (k0 == NameKind.free && env.scope.kind == .function && env.kindOf n == some .cell) = true
      · rw [if_pos hc] at h'
        simp only [List.lookup_cons, hx] at h'
        exact h'
      · rw [if_neg hc] at h'
        simp only [List.lookup_cons, hx] at h'
        exact h'
theorem relabel_of_free {env : Env} : ∀ {names : List (Str × NameKind)} {x : Str}, names.lookup x = some .free →
    (names.map fun (n, k) => if (k == NameKind.free && env.scope.kind == .function && env.kindOf n == some .cell) then (n, NameKind.cell) else (n, k)).lookup x = some .cell ∨
    (names.map fun (n, k) => if (k == NameKind.free && env.scope.kind == .function && env.kindOf n == some .cell) then (n, NameKind.cell) else (n, k)).lookup x = some .free
  | [], _, h => by simp at h
  | (n, k0) :: r, x, h => by
    have ih := @relabel_of_free env r x
    show List.lookup x ((if (k0 == NameKind.free && env.scope.kind == .function && env.kindOf n == some .cell) = true then (n, NameKind.cell) else (n, k0)) :: _) = _ ∨ List.lookup x ((if (k0 == NameKind.free && env.scope.kind == .function && env.kindOf n == some .cell) = true then (n, NameKind.cell) else (n, k0)) :: _) = _
    cases hx : x == n with
    | true =>
      simp only [List.lookup_cons, hx] at h
      by_cases hc : (k0 == NameKind.free && env.scope.kind == .function && env.kindOf n == some .cell) = true
      · rw [if_pos hc]
        left
        simp only [List.lookup_cons, hx]
      · rw [if_neg hc]
        right
        simp only [List.lookup_cons, hx]
        exact h
    | false =>
      simp only [List.lookup_cons, hx] at h
      by_cases hc : (k0 == NameKind.free && env.scope.kind == .function && env.kindOf n == some .cell) = true
      · rw [if_pos hc]
        simp only [List.lookup_cons, hx]
        exact ih h
      · rw [if_neg hc]
        simp only [List.lookup_cons, hx]
        exact ih h



def blk (X : Cx) (N : List Str) (scope : Scope) (C : Addr) (s : Shared) (H : Hp) (ex : List Addr) : Cx where
  prog := X.prog
  w := X.w
  K := X.K
  mg := X.mg
  base := X.base
  A := X.A
  N := N
  s₀ := s
  H₀ := H
  env := compEnvC scope (clOf X.env scope.names []) C X.env
  outer := X.stack
  stack := X.stack
  ex := ex
  fn := fun _ => false
  calm := X.calm
  pn := []
  xe := fun _ _ => False

structure BlkScope (sc : Scope) (N own cn : List Str) (ci : List Nat) (scope : Scope) : Prop where
  kind : scope.kind = .function
  nocell : ∀ y ∈ scope.names, y.2 ≠ .cell
  names : ∀ y ∈ scope.names, y.2 = .local → scope.names.lookup y.1 = some .local
  free : ∀ y ∈ scope.names, y.2 = .free → sc.names.lookup y.1 = some .cell ∨ sc.names.lookup y.1 = some .free
  cap : (cn.map fun x => (some x : Option Str)) = ci.map fun i => N[i]?
  capk : ∀ x ∈ cn, scope.names.lookup x = some .free
  nd : (own ++ cn).Nodup
def blkS (own : List Str) (ci : List Nat) (σ : St) : St := own.map (fun _ => none) ++ ci.map fun i => (σ[i]?).join

section
variable {X : Cx} {pins : List (Addr × Obj)} {σ : St} {H H2 : Hp} {s s2 : Shared} {sc : Scope} {N own cn : List Str} {ci : List Nat} {scope : Scope} {fp : List Addr}
theorem blk_cells (S : BlkScope sc N own cn ci scope) (hsc : X.env.scope = sc) (I : Inv X pins σ H s) : ∀ y ∈ scope.names, y.2 = .free → ∃ c, X.env.cells.lookup y.1 = some c := fun y hy hf => by
  refine I.ok.has y.1 ?_
  have := S.free y hy hf
  rw [← hsc] at this
  exact this
theorem blk_inv (S : BlkScope sc N own cn ci scope) (hsc : X.env.scope = sc) (hN : X.N = N) (I : Inv X pins σ H s) (hfp : ∀ b ∈ fp, FpOk X pins H b) (hlt : ∀ b ∈ fp, b < s.heap.objs.size) {h1 : Heap} {tk : Nat} {m : Str → Option Value}
    (hns : h1.Ns s.heap.objs.size m) (keep : ∀ b o, s.heap.get? b = some o → h1.get? b = some o) :
    Inv (blk X (own ++ cn) scope s.heap.objs.size s H fp) [] (blkS own ci σ) H { s with heap := h1, toks := tk } := by
  have ccl : ∀ x c, (clOf X.env scope.names []).lookup x = some c → X.env.cells.lookup x = some c := fun x c e => clOf_mem (fun z d h => by simp at h) e
  have cnl : cn.length = ci.length := by have := congrArg List.length S.cap; simpa using this
  refine ⟨⟨I.ok.mod, ?_, I.ok.glob, I.ok.blt, Nat.le_refl _, fun x y c e1 e2 => I.ok.inj x y c (ccl x c e1) (ccl y c e2), fun x hx => ?_, fun x c hf _ => ?_, I.ok.hd, I.ok.frames, .inl rfl, fun b hb => ⟨Nat.ne_of_lt (hlt b hb), fun x c e => (hfp b hb).2.2.2.2.1 x c (ccl x c e)⟩, I.bs, Nat.le_trans I.ok.bsz I.sz, fun b o e hb => ?_, fun b hb hb2 => ?_, I.stack, I.stkFree⟩,
    rfl, I.bare, Un.kept keep, ⟨m, hns, fun i x v e1 e2 e3 => ?_⟩, fun x c e => ?_, I.hok.fresh (Nat.le_refl _), fun x c e => I.freeC x c (ccl x c e), fun p hp => absurd (show p ∈ ([] : List (Addr × Obj)) from hp) (by simp), I.hok.kept keep, ?_⟩
  · exact S.kind
  · have hx' : (relabel scope X.env).names.lookup x = some .cell ∨ (relabel scope X.env).names.lookup x = some .free := hx
    have hfree : scope.names.lookup x = some .free := by
      rcases hx' with q | q
      · exact relabel_free q (.inl rfl) S.nocell
      · exact relabel_free q (.inr rfl) S.nocell
    have hm := PySem.mem_of_lookup hfree
    obtain ⟨c, hc⟩ := blk_cells S hsc I _ hm rfl
    exact ⟨c, clOf_get hc (fun z d h => by simp at h) (.inl hm)⟩
  · exact absurd hf (by show ¬ (false = true); decide)
  · rcases (hfp b hb).2.2.2.1 with z | z
    · exact I.ok.noex b o e z
    · exact absurd (Nat.lt_of_lt_of_le (Heap.lt_size (I.ok.bs b o e).1) z) (Nat.lt_irrefl _)
  · rcases List.mem_cons.mp (I.stkSub b hb2) with z | z
    · exact (hfp b hb).2.1 z
    · exact (hfp b hb).2.2.1 z
  · have e1' : (own ++ cn)[i]? = some x := e1
    unfold blkS at e2
    by_cases hi : i < own.length
    · rw [List.getElem?_append_left (by simpa using hi), List.getElem?_map] at e2
      cases q : own[i]? with
      | none => rw [q] at e2; cases e2
      | some z => rw [q] at e2; cases e2
    · rw [List.getElem?_append_right (by simpa using hi)] at e2
      rw [List.getElem?_append_right (by omega)] at e1'
      rw [List.length_map, List.getElem?_map] at e2
      cases q : ci[i - own.length]? with
      | none => rw [q] at e2; cases e2
      | some j =>
        rw [q] at e2
        have e2' : (σ[j]?).join = some v := Option.some.inj e2
        have e3' : σ[j]? = some (some v) := by
          cases z : σ[j]? with
          | none => rw [z] at e2'; cases e2'
          | some o => rw [z] at e2'; exact congrArg some e2'
        have hNj : X.N[j]? = some x := by
          have c1 := congrArg (fun l => l[i - own.length]?) S.cap
          simp only [List.getElem?_map, e1', q, Option.map_some] at c1
          rw [hN]
          exact (Option.some.inj c1).symm
        have hfree := S.capk x (List.mem_of_getElem? e1')
        have hm := PySem.mem_of_lookup hfree
        have hk := S.free _ hm rfl
        rw [← hsc] at hk
        have hvis : Vis X.env.scope x := .inr hk
        obtain ⟨m0, _, hl⟩ := I.loc
        obtain ⟨u, r, l⟩ := hl j x v hNj e3' hvis
        refine ⟨u, r, .inr ⟨relabel_of_free hfree, ?_⟩⟩
        rcases l with ⟨l, _⟩ | ⟨_, c, ec, z⟩
        · have l' : X.env.scope.names.lookup x = some .local := l
          rcases hk with hk | hk <;> (rw [hk] at l'; cases l')
        · refine ⟨c, clOf_get ec (fun z d h => by simp at h) (.inl hm), ?_⟩
          obtain ⟨o, ho, hd⟩ := z
          exact ⟨o, keep c o ho, hd⟩
  · obtain ⟨v, o, ho, hd⟩ := I.cell x c (ccl x c e)
    exact ⟨v, o, keep c o ho, hd⟩
  · show (blkS own ci σ).length = (own ++ cn).length
    unfold blkS
    rw [List.length_append, List.length_append, List.length_map, List.length_map, cnl]
end


def PTs (X : Cx) (ifs : List Expr) (t : TT) : Prop :=
  ∀ (pins : List (Addr × Obj)) (s : Shared) (σ : St) (H : Hp) (Q : Bool → Hp → Prop), Inv X pins σ H s → t σ H Q →
    wpAny (model X.prog X.w) X.A (forIn ifs true fun c r => if r = true then do let ok ← isTrue c X.env (eval c X.env); pure (ForInStep.yield ok) else pure (ForInStep.yield r)) (TP X pins σ Q) X.xe s
def tTrue : TT := fun _ H Q => Q true H
theorem pts_nil {X : Cx} : PTs X [] tTrue := fun _ _ _ H _ I h => wpAny_tests_nil ⟨H, I, h⟩
theorem pts_one {X : Cx} {c : Expr} {t : TT} (h : PT X c t) : PTs X [c] t := fun pins s σ H Q I q => wpAny_tests_one (h pins s σ H Q I q)


def LcW (J : It) (g : TG) (tt : TT) (te : TE) (D : Addr) (Q : Hp → Prop) (W : Nat → Nat → St → Hp → Prop) : Prop := ∀ i m σ H, W i m σ H →
  (J.stop i H ∧ Q H) ∨ (J.go i H ∧ ∀ x H1, J.yld i H x H1 → g x σ H1 fun σ2 H2 => tt σ2 H2 fun ok H3 => if ok = true then te σ2 H3 fun y H4 => ∃ ys, H4 D = some (.lst ys) ∧ ys.length < sizeLine ∧
    ∃ m', m' < m ∧ W (i + 1) m' σ2 (upd H4 D (.lst (ys ++ [y]))) else ∃ m', m' < m ∧ W (i + 1) m' σ2 H3)
def tLC (own : List Str) (ci : List Nat) (wi : TI) (g : TG) (tt : TT) (te : TE) : TE := fun σ H Q => wi σ H fun J H1 => ∀ D, H1 D = none →
  ∃ W : Nat → Nat → St → Hp → Prop, (∃ m, W 0 m (blkS own ci σ) (upd H1 D (.lst []))) ∧ LcW J g tt te D (Q (.ref D)) W

section
variable {X : Cx} {pins : List (Addr × Obj)} {σ : St} {H H2 : Hp} {s s2 : Shared} {sc : Scope} {N own cn : List Str} {ci : List Nat} {scope : Scope} {fp : List Addr}
  {elt tg iter : Expr} {ifs : List Expr} {pos : Pos} {g : TG} {tt : TT} {te : TE} {wi : TI}
theorem lc_block {it : Addr} {tn : Nat → Heap → Prop} {J : It} {Q : VK} {E : Value → Shared → Prop} {RR : Value → Addr → Result → Shared → Prop} (S : BlkScope sc N own cn ci scope) (hsc : X.env.scope = sc) (hN : X.N = N) (hc : X.calm = true)
    (I2 : Inv X pins σ H2 s2) (T : Turn X.prog X.w X.K tg J fp it tn) (st2 : tn 0 s2.heap) (f2 : ∀ b ∈ fp, FpOk X pins H2 b)
    (hg : ∀ C s H, PG (blk X (own ++ cn) scope C s H fp) tg g) (ht : ∀ C s H, PTs (blk X (own ++ cn) scope C s H fp) ifs tt) (he : ∀ C s H, PE (blk X (own ++ cn) scope C s H fp) elt te)
    (q : ∀ D, H2 D = none → ∃ W : Nat → Nat → St → Hp → Prop, (∃ m, W 0 m (blkS own ci σ) (upd H2 D (.lst []))) ∧ LcW J g tt te D (Q (.ref D)) W)
    (hRR : ∀ D C H' s', Inv X pins σ H' s' → Q (.ref D) H' → (∃ m, s'.heap.Ns C m) → FpOk X pins H' C → RR (.ref D) C (.ok .next) s') :
    wpAny (model X.prog X.w) X.A (newList []) (fun acc s3 => wpAny (model X.prog X.w) X.A (newFunctionEnv scope X.env.globals (clOf X.env scope.names []) [] X.env.qual none .none (some X.env)) (fun cenv s4 =>
      codeAny (model X.prog X.w) X.A (.compStart (.ListComp elt [⟨tg, iter, ifs, 0⟩] scope pos) 0 (.ref it) acc { cenv with scope := relabel scope X.env }) (RR acc cenv.locals) s4) E s3) E s2 := by
  refine wpAny_newObj_type (wpAny_newFunctionEnv S.nocell (by intro y hy; simp at hy) (fun h1 hns1 hsb1 => ?_) S.kind)
  dsimp only at hns1 hsb1 ⊢
  have I3 : Inv X pins σ (upd H2 s2.heap.objs.size (.lst [])) { s2 with heap := s2.heap.push { cls := .type "list", data := .seq ([] : List Value).toArray }, toks := s2.toks } := I2.lnew (its := []) (t' := s2.toks) .nil (Nat.zero_le _)
  have hD : H2 s2.heap.objs.size = none := I2.hok.fresh (Nat.le_refl _)
  have fpe : ∀ b ∈ fp, b < s2.heap.objs.size := fun b hb => by
    obtain ⟨o, e, _⟩ := T.obj _ _ st2 b hb
    exact Heap.lt_size e
  have f3 : ∀ b ∈ fp, FpOk X pins (upd H2 s2.heap.objs.size (.lst [])) b := fun b hb => ⟨by rw [upd_ne (Nat.ne_of_lt (fpe b hb))]; exact (f2 b hb).1, (f2 b hb).2⟩
  obtain ⟨W, ⟨m0, w0⟩, turn⟩ := q s2.heap.objs.size hD
  generalize hs3 : ({ s2 with heap := s2.heap.push { cls := .type "list", data := .seq ([] : List Value).toArray }, toks := s2.toks } : Shared) = s3 at I3
  have e3 : s3.heap = s2.heap.push { cls := .type "list", data := .seq ([] : List Value).toArray } := by rw [← hs3]
  have hsz3 : s3.heap.objs.size = s2.heap.objs.size + 1 := by rw [e3, Heap.size_push]
  have keep3 : ∀ b o, s2.heap.get? b = some o → s3.heap.get? b = some o := fun b o e => by rw [e3]; exact Heap.get?_push_of_some _ e
  have keep : ∀ b o, s3.heap.get? b = some o → h1.get? b = some o := fun b o e => by
    refine hsb1.extBut b o ?_ (Heap.get?_push_of_some _ (by rw [← e3]; exact e))
    have := Heap.lt_size e
    rw [e3] at this
    exact Nat.ne_of_lt this
  have hns : h1.Ns s3.heap.objs.size (fun x => ([] : List (Str × Value)).reverse.lookup x) := by rw [e3]; exact hns1
  have I4 := blk_inv (fp := fp) (tk := s2.toks + ([] : List (Str × Value)).length) S hsc hN I3 f3 (fun b hb => by rw [hsz3]; exact Nat.lt_succ_of_lt (fpe b hb)) hns keep
  have st4 : tn 0 h1 := T.keep _ _ _ st2 fun b hb o e => keep b o (keep3 b o e)
  have hC : (s2.heap.push { cls := .type "list", data := .seq ([] : List Value).toArray }).objs.size = s3.heap.objs.size := by rw [e3]
  have stat : ∀ {H' : Hp}, (∀ b ∈ fp, H' b = none) → ∀ b ∈ fp, FpOk (blk X (own ++ cn) scope s3.heap.objs.size s3 (upd H2 s2.heap.objs.size (.lst [])) fp) [] H' b := fun hn b hb =>
    ⟨hn b hb, Nat.ne_of_lt (by rw [hsz3]; exact Nat.lt_succ_of_lt (fpe b hb)), fun z => I4.ok.exfs b hb z, .inl hb, (I4.ok.exf b hb).2, fun p hp => absurd (show p ∈ ([] : List (Addr × Obj)) from hp) (by simp)⟩
  have loop : ∀ s4 : Shared, s4 = { s3 with heap := h1, toks := s2.toks + ([] : List (Str × Value)).length } →
      codeAny (model X.prog X.w) X.A (.compLoop (.ListComp elt [⟨tg, iter, ifs, 0⟩] scope pos) 0 (.ref it) (.ref s2.heap.objs.size) (compEnvC scope (clOf X.env scope.names []) s3.heap.objs.size X.env)) (RR (.ref s2.heap.objs.size) s3.heap.objs.size) s4 := by
    rintro s4 rfl
    refine comp_loop (fun n s' => ∃ i σ' H', Inv (blk X (own ++ cn) scope s3.heap.objs.size s3 (upd H2 s2.heap.objs.size (.lst [])) fp) [] σ' H' s' ∧ tn i s'.heap ∧ (∀ b ∈ fp, H' b = none) ∧ W i n σ' H') ?_ m0
      ⟨0, _, _, I4, st4, fun b hb => (f3 b hb).1, w0⟩
    rintro n s5 ⟨i, σ5, H5, I5, st5, fr5, w5⟩
    rcases turn i n σ5 H5 w5 with ⟨stop, qn⟩ | ⟨go, step⟩
    · refine thn (T.done (blk X (own ++ cn) scope s3.heap.objs.size s3 (upd H2 s2.heap.objs.size (.lst [])) fp) rfl rfl rfl hc i [] s5 σ5 H5 (fun _ _ => False) I5 (stat fr5) st5 stop) fun r s6 ⟨hr, I6⟩ => ?_
      subst hr
      refine hRR _ _ H5 s6 (I3.call' I6.os I6.base I6.hok I6.bare fun b hb => ⟨(f3 b hb).2.2.2.1, (f3 b hb).2.1, (f3 b hb).2.2.2.2.1, (f3 b hb).2.2.2.2.2⟩) qn (let ⟨m, hn, _⟩ := I6.loc; ⟨m, hn⟩) (I3.fpOk (Nat.le_refl _) I6.free)
    · refine thn (T.item (blk X (own ++ cn) scope s3.heap.objs.size s3 (upd H2 s2.heap.objs.size (.lst [])) fp) rfl rfl rfl hc i [] s5 σ5 H5 (fun _ _ => False) I5 (stat fr5) st5 go) fun r s6 ⟨u, hr, h6⟩ => ?_
      subst hr
      refine thn h6 fun _ s7 ⟨x, H7, I7, r7, y7, st7, fr7⟩ => ?_
      have I7' := I7.pinned (stat fr7) (T.obj _ _ st7)
      refine thn (hg _ _ _ _ s7 σ5 H7 x u _ I7' r7 (step x H7 y7)) fun _ s8 ⟨σ8, H8, I8, q8⟩ => ?_
      refine thn (ht _ _ _ _ s8 σ8 H8 _ I8 q8) fun ok s9 ⟨H9, I9, q9⟩ => ?_
      have again : ∀ {H' : Hp} {s' : Shared} {m' : Nat}, Inv (blk X (own ++ cn) scope s3.heap.objs.size s3 (upd H2 s2.heap.objs.size (.lst [])) fp) ([] ++ pinsAt fp s7.heap) σ8 H' s' → W (i + 1) m' σ8 H' →
          ∃ i σ' H', Inv (blk X (own ++ cn) scope s3.heap.objs.size s3 (upd H2 s2.heap.objs.size (.lst [])) fp) [] σ' H' s' ∧ tn i s'.heap ∧ (∀ b ∈ fp, H' b = none) ∧ W i m' σ' H' := fun {H' s' m'} I' w' => by
        refine ⟨i + 1, σ8, H', I'.unpinned, T.keep _ _ _ st7 fun b hb o e => (I'.pin (b, o) (List.mem_append_right _ (List.mem_append_right _ (mem_pinsAt hb e)))).1, fun b hb => ?_, w'⟩
        obtain ⟨o, e, _⟩ := T.obj _ _ st7 b hb
        exact (I'.pin (b, o) (List.mem_append_right _ (List.mem_append_right _ (mem_pinsAt hb e)))).2.1
      cases ok with
      | false =>
        obtain ⟨m', hm, w'⟩ := q9
        exact ⟨m', hm, again I9 w'⟩
      | true =>
        refine thn (he _ _ _ _ s9 σ8 H9 _ I9 q9) fun v s10 ⟨y, H10, I10, r10, ys, hDl, hz, m', hm, w'⟩ => ?_
        refine thn (mt_append _ s10 σ8 H10 (.ref s2.heap.objs.size) [y] (.ref s2.heap.objs.size) [v] (fun _ H11 => H11 = upd H10 s2.heap.objs.size (.lst (ys ++ [y]))) I10 rfl (.cons r10 .nil) ⟨_, ys, y, rfl, rfl, hDl, hz, rfl⟩) fun _ s11 ⟨_, H11, I11, _, e11⟩ => ?_
        subst e11
        exact ⟨m', hm, again I11 w'⟩
  have es : ({ s2 with heap := h1, toks := s2.toks + ([] : List (Str × Value)).length } : Shared) = { s3 with heap := h1, toks := s2.toks + ([] : List (Str × Value)).length } := by rw [← hs3]
  rw [hC]
  exact codeAny_compStart_list (loop _ es) (T.self _ 0 _ _ _ st4 (loop _ es))

theorem pe_lc (S : BlkScope sc N own cn ci scope) (hsc : X.env.scope = sc) (hN : X.N = N) (hc : X.calm = true) (hi : PI X tg iter wi)
    (hg : ∀ fp C s H, PG (blk X (own ++ cn) scope C s H fp) tg g) (ht : ∀ fp C s H, PTs (blk X (own ++ cn) scope C s H fp) ifs tt) (he : ∀ fp C s H, PE (blk X (own ++ cn) scope C s H fp) elt te)
    (hs : ∀ x, foldedSetIterable iter X.env x = pure x := by intro _; rfl) : PE X (.ListComp elt [⟨tg, iter, ifs, 0⟩] scope pos) (tLC own ci wi g tt te) := by
  intro pins s σ H Q I h
  rw [eval_ListComp]
  refine wpAny_comprehension_free (use := none) rfl hs (closure_eq (blk_cells S hsc I)) S.kind S.names (thn (hi pins s σ H _ I h) fun xv s1 h1 => thn h1 fun itv s2 h2 => ?_)
  obtain ⟨it, fp, tn, J, H2, e, I2, T, st2, f2, q⟩ := h2
  subst e
  refine lc_block (RR := fun acc C => compPost (model X.prog X.w) X.A X.xe none (EP X pins σ Q) acc C) S hsc hN hc I2 T st2 f2 (hg fp) (ht fp) (he fp) q ?_
  intro D C H' s' I' q' ⟨m, hn⟩ fC
  exact ⟨m, hn, fun h' hs' => ⟨.ref D, H', I'.turned (t' := s'.toks) (fun b o hb e => (hs'.2 b hb).trans e) fC.1 (Ne.symm (Ne.symm fC.2.1)) fC.2.2.2.1 fC.2.2.2.2.1 fC.2.2.2.2.2, rfl, q'⟩⟩


def tSetLC (i : Nat) (t : TE) : TS := fun D σ H => t σ H fun v H1 => D.nx (σ.set i (some v)) H1
theorem ps_setlc {i : Nat} {y : Str} {py spos : Pos} (S : BlkScope sc N own cn ci scope) (hsc : X.env.scope = sc) (hN : X.N = N) (hc : X.calm = true) (hi : PI X tg iter wi)
    (hg : ∀ fp C s H, PG (blk X (own ++ cn) scope C s H fp) tg g) (ht : ∀ fp C s H, PTs (blk X (own ++ cn) scope C s H fp) ifs tt) (he : ∀ fp C s H, PE (blk X (own ++ cn) scope C s H fp) elt te)
    (hnd : X.N.Nodup) (hiy : X.N[i]? = some y) (hy : X.env.scope.names.lookup y = some .local)
    (hsw : swapsWith (.ListComp elt [⟨tg, iter, ifs, 0⟩] scope pos) (some (.Name y py)) spos.line X.env = pure true)
    (hs : ∀ x, foldedSetIterable iter X.env x = pure x := by intro _; rfl) : PS X (.Assign [.Name y py] (.ListComp elt [⟨tg, iter, ifs, 0⟩] scope pos) spos) (tSetLC i (tLC own ci wi g tt te)) := by
  intro pins s σ H D I h
  rw [exec_Assign_Name_used _ _ _ _ hsw]
  refine wpAny_bind (wpAny_standAt (wpAny_bind ?_))
  show wpAny _ X.A (do let _ ← comprehension (.ListComp elt [⟨tg, iter, ifs, 0⟩] scope pos) scope X.env _ (newList []) false (eval iter X.env) (some (assign (.Name y py) X.env))) _ _ s
  refine wpAny_bind (wpAny_mono (wpAny_comprehension_free (use := some (assign (.Name y py) X.env)) (Q := fun _ s' => SP X pins D .next s') rfl hs (closure_eq (blk_cells S hsc I)) S.kind S.names
    (thn (hi pins s σ H _ I h) fun xv s1 h1 => thn h1 fun itv s2 h2 => ?_)) (fun _ s' hq => wpAny_pure (wpAny_pure hq)) fun _ _ e => e)
  obtain ⟨it, fp, tn, J, H2, e, I2, T, st2, f2, q⟩ := h2
  subst e
  refine lc_block (RR := fun acc C => compPost (model X.prog X.w) X.A X.xe (some (assign (.Name y py) X.env)) (fun _ s' => SP X pins D .next s') acc C) (Q := fun v H1 => D.nx (σ.set i (some v)) H1) S hsc hN hc I2 T st2 f2 (hg fp) (ht fp) (he fp) q ?_
  intro D' C H' s' I' q' ⟨m, hn⟩ fC
  refine wpAny_assign_Name (store_ok2 (v := .ref D') I' hnd hiy (.inl hy) rfl (fun s'' I'' ⟨a, hsb, ha⟩ => ?_) (.inr hy))
  have hCa : C ≠ a := by
    rcases ha with ha | ha
    · rw [ha]; exact fC.2.1
    · exact Ne.symm (fC.2.2.2.2.1 _ _ ha)
  exact ⟨m, hn.sameBut hsb hCa, fun h' hs' => ⟨_, H', I''.turned (t' := s''.toks) (fun b o hb e => (hs'.2 b hb).trans e) fC.1 fC.2.1 fC.2.2.2.1 fC.2.2.2.2.1 fC.2.2.2.2.2, q'⟩⟩
end


theorem lc_range {lo : Int} {n : Nat} {caps : St} {tt : TT} {te : TE} {D : Addr} {Q : Hp → Prop} {H1 : Hp} (Pv : Nat → List V → Hp → Prop) (hz : n ≤ sizeLine) (h0 : Pv 0 [] (upd H1 D (.lst []))) (hl : ∀ i ys H, Pv i ys H → ys.length ≤ i)
    (hs : ∀ i ys H (N : VK) (M : Hp → Prop), i < n → Pv i ys H → (∀ y H4, H4 D = some (.lst ys) → Pv (i + 1) (ys ++ [y]) (upd H4 D (.lst (ys ++ [y]))) → N y H4) → (∀ H3, Pv (i + 1) ys H3 → M H3) →
      tt (some (.int (lo + i)) :: caps) H fun ok H3 => if ok = true then te (some (.int (lo + i)) :: caps) H3 N else M H3)
    (hd : ∀ ys H, Pv n ys H → Q H) : ∃ W : Nat → Nat → St → Hp → Prop, (∃ m, W 0 m (none :: caps) (upd H1 D (.lst []))) ∧ LcW (Itr lo n) (gName 0) tt te D Q W := by
  refine ⟨fun i m σ H => m = n - i ∧ i ≤ n ∧ (∃ v, σ = v :: caps) ∧ ∃ ys, Pv i ys H, ⟨n, by simp, Nat.zero_le _, ⟨none, rfl⟩, [], h0⟩, ?_⟩
  rintro i m σ H ⟨rfl, hi, ⟨v, rfl⟩, ys, p⟩
  have hy := hl i ys H p
  by_cases hlt : i < n
  · refine .inr ⟨hlt, fun x H1 y => ?_⟩
    obtain ⟨e, y⟩ := y
    subst e y
    refine hs i ys _ _ _ hlt p (fun y H4 a c => ⟨ys, a, by omega, n - (i + 1), by omega, rfl, hlt, ⟨_, rfl⟩, _, c⟩) (fun H3 c => ⟨n - (i + 1), by omega, rfl, hlt, ⟨_, rfl⟩, ys, c⟩)
  · have e : i = n := by omega
    subst e
    exact .inl ⟨Nat.le_refl _, hd ys H p⟩
theorem lc_list {K : PySem.W.Frag} {a : Addr} {xs : List V} {caps : St} {tt : TT} {te : TE} {D : Addr} {Q : Hp → Prop} {H1 : Hp} (Pv : Nat → List V → Hp → Prop) (hz : xs.length ≤ sizeLine) (h0 : Pv 0 [] (upd H1 D (.lst []))) (hl : ∀ i ys H, Pv i ys H → ys.length ≤ i) (hq : ∀ i ys H, Pv i ys H → SqL K H a xs)
    (hs : ∀ i ys H (x : V) (N : VK) (M : Hp → Prop), xs[i]? = some x → Pv i ys H → (∀ y H4, H4 D = some (.lst ys) → Pv (i + 1) (ys ++ [y]) (upd H4 D (.lst (ys ++ [y]))) → N y H4) → (∀ H3, Pv (i + 1) ys H3 → M H3) →
      tt (some x :: caps) H fun ok H3 => if ok = true then te (some x :: caps) H3 N else M H3)
    (hd : ∀ ys H, Pv xs.length ys H → Q H) : ∃ W : Nat → Nat → St → Hp → Prop, (∃ m, W 0 m (none :: caps) (upd H1 D (.lst []))) ∧ LcW (Itl K a) (gName 0) tt te D Q W := by
  refine ⟨fun i m σ H => m = xs.length - i ∧ i ≤ xs.length ∧ (∃ v, σ = v :: caps) ∧ ∃ ys, Pv i ys H, ⟨xs.length, by simp, Nat.zero_le _, ⟨none, rfl⟩, [], h0⟩, ?_⟩
  rintro i m σ H ⟨rfl, hi, ⟨v, rfl⟩, ys, p⟩
  have hy := hl i ys H p
  by_cases hlt : i < xs.length
  · refine .inr ⟨⟨xs, xs[i], hq i ys H p, by simp [hlt]⟩, fun x H1 y => ?_⟩
    obtain ⟨e, y⟩ := y
    subst e
    have hx := y xs (hq i ys _ p)
    refine hs i ys _ x _ _ hx p (fun y H4 a c => ⟨ys, a, by omega, xs.length - (i + 1), by omega, rfl, hlt, ⟨_, rfl⟩, _, c⟩) (fun H3 c => ⟨xs.length - (i + 1), by omega, rfl, hlt, ⟨_, rfl⟩, ys, c⟩)
  · have e : i = xs.length := by omega
    subst e
    exact .inl ⟨⟨xs, hq _ ys H p, Nat.le_refl _⟩, hd ys H p⟩
theorem lc_tup {K : PySem.W.Frag} {a : Addr} {xs : List V} {caps : St} {tt : TT} {te : TE} {D : Addr} {Q : Hp → Prop} {H1 : Hp} (Pv : Nat → List V → Hp → Prop) (hz : xs.length ≤ sizeLine) (h0 : Pv 0 [] (upd H1 D (.lst []))) (hl : ∀ i ys H, Pv i ys H → ys.length ≤ i) (hq : ∀ i ys H, Pv i ys H → SqT K H a xs)
    (hs : ∀ i ys H (x : V) (N : VK) (M : Hp → Prop), xs[i]? = some x → Pv i ys H → (∀ y H4, H4 D = some (.lst ys) → Pv (i + 1) (ys ++ [y]) (upd H4 D (.lst (ys ++ [y]))) → N y H4) → (∀ H3, Pv (i + 1) ys H3 → M H3) →
      tt (some x :: caps) H fun ok H3 => if ok = true then te (some x :: caps) H3 N else M H3)
    (hd : ∀ ys H, Pv xs.length ys H → Q H) : ∃ W : Nat → Nat → St → Hp → Prop, (∃ m, W 0 m (none :: caps) (upd H1 D (.lst []))) ∧ LcW (Itt K a) (gName 0) tt te D Q W := by
  refine ⟨fun i m σ H => m = xs.length - i ∧ i ≤ xs.length ∧ (∃ v, σ = v :: caps) ∧ ∃ ys, Pv i ys H, ⟨xs.length, by simp, Nat.zero_le _, ⟨none, rfl⟩, [], h0⟩, ?_⟩
  rintro i m σ H ⟨rfl, hi, ⟨v, rfl⟩, ys, p⟩
  have hy := hl i ys H p
  by_cases hlt : i < xs.length
  · refine .inr ⟨⟨xs, xs[i], hq i ys H p, by simp [hlt]⟩, fun x H1 y => ?_⟩
    obtain ⟨e, y⟩ := y
    subst e
    have hx := y xs (hq i ys _ p)
    refine hs i ys _ x _ _ hx p (fun y H4 a c => ⟨ys, a, by omega, xs.length - (i + 1), by omega, rfl, hlt, ⟨_, rfl⟩, _, c⟩) (fun H3 c => ⟨xs.length - (i + 1), by omega, rfl, hlt, ⟨_, rfl⟩, ys, c⟩)
  · have e : i = xs.length := by omega
    subst e
    exact .inl ⟨⟨xs, hq _ ys H p, Nat.le_refl _⟩, hd ys H p⟩
end L2
namespace L2
open PySem PySem.Spec PyProof.Rows

section
variable {X : Cx}
theorem call_isinst : CallR X (.builtin "isinstance") (fun xs H Q => ∃ x n t b, xs = [x, .ty n] ∧ TyOf X.K H x t ∧ PySem.W.kitOne X.K t (.type n) = some b ∧ Q (.bl b) H) := by
  intro pins s σ H xs us Q I r h
  obtain ⟨x, n, t, b, rfl, ty, e, q⟩ := h
  obtain ⟨u, v, rfl, rx, ry⟩ := r.two
  cases (show v = Value.type n from ry)
  exact isinst_ok I rx ty e fun tk => ⟨.bl b, H, I.tok tk, rfl, q⟩

theorem Same.upd_free {H H' : Hp} {a : Addr} {o : HO} (s : Same H H') (n : H a = none) : Same H (upd H' a o) := fun b u e => by
  rw [upd_ne (ne_of_none e n)]
  exact s b u e

def tCut (t : TS) : TS := fun D σ H => ∃ M : St → Hp → Prop, t { D with nx := M } σ H ∧ ∀ σ' H', M σ' H' → D.nx σ' H'
theorem ps_cut {st : Stmt} {t : TS} (h : PS X st t) : PS X st (tCut t) := by
  intro pins s σ H D I ⟨M, h1, h2⟩
  refine thn (h pins s σ H _ I h1) fun f s' q => ?_
  cases f with
  | next =>
    obtain ⟨σ', H', I', m⟩ := q
    exact ⟨σ', H', I', h2 _ _ m⟩
  | brk => exact q
  | cont => exact q
  | ret u => exact q
end
end L2
namespace L2
open PySem PySem.Spec PyProof.Rows


section
variable {κ : Type} [DecidableEq κ]
end



section
variable {P : Program} {w : World} {H : Hp} {h : Heap} {a : Addr}
end


section
variable {X : Cx} {pins : List (Addr × Obj)} {σ : St} {H : Hp} {s : Shared} {a : Addr} {y v : V} {u r : Value} {o : Option V} {A : Around} {E : Value → Shared → Prop}

end

section
variable {X : Cx} {pins : List (Addr × Obj)} {σ : St} {H : Hp} {s : Shared} {a : Addr} {kvs : List (Key × V)} {k : Key} {u : Value} {A : Around} {E : Value → Shared → Prop}

end




section
variable {X : Cx} {o i e value : Expr} {pos pos' tpos : Pos} {td ty tv : TE}
end



section
variable {X : Cx} {pos : Pos}
end


structure M1 (X : Cx) (o : Expr) (m : Str) (apos : Pos) (e : Expr) (cpos : Pos) : Prop where
  base : attributeBase o m X.env (eval o X.env) = eval o X.env
  few : ((backTo cpos (starEach [e] X.env)).all (fun x => !x.1) && (backToKw cpos (keywordEach [] X.env)).all (fun x => x.1.isSome)
    && decide (([e] : List Expr).length + ([] : List Keyword).length + (if ([] : List Keyword).isEmpty then 0 else 1) < 30)) = true
  line : (apos.endLine == cpos.line) = true
  trees : backTo cpos (starEach [e] X.env) = [(false, eval e X.env)]
structure M2 (X : Cx) (o : Expr) (m : Str) (apos : Pos) (e f : Expr) (cpos : Pos) : Prop where
  base : attributeBase o m X.env (eval o X.env) = eval o X.env
  few : ((backTo cpos (starEach [e, f] X.env)).all (fun x => !x.1) && (backToKw cpos (keywordEach [] X.env)).all (fun x => x.1.isSome)
    && decide (([e, f] : List Expr).length + ([] : List Keyword).length + (if ([] : List Keyword).isEmpty then 0 else 1) < 30)) = true
  line : (apos.endLine == cpos.line) = true
  trees : backTo cpos (starEach [e, f] X.env) = [(false, eval e X.env), (false, eval f X.env)]


section
variable {X : Cx} {pins : List (Addr × Obj)} {σ : St} {H : Hp} {s : Shared} {a : Addr} {y d : V} {u r : Value} {o : Option V} {A : Around} {E : Value → Shared → Prop}

end

section
variable {X : Cx} {o e f : Expr} {apos cpos : Pos} {td ty tx : TE}
end


section
variable {X : Cx} {pins : List (Addr × Obj)} {σ : St} {H : Hp} {s : Shared} {a : Addr} {kvs : List (Key × V)} {A : Around} {E : Value → Shared → Prop}
end


section
variable {X : Cx} {pins : List (Addr × Obj)} {σ : St} {H : Hp} {s : Shared} {a : Addr} {y : V} {u : Value} {A : Around} {E : Value → Shared → Prop}

end
end L2
namespace L2
open PySem PySem.Spec PyProof.Rows

mutual
inductive DAt (K : PySem.W.Frag) (H : Hp) : V → PyData → Prop
  | non : DAt K H .non .none
  | bl (b : Bool) : DAt K H (.bl b) (.bool b)
  | int (i : Int) : DAt K H (.int i) (.int i)
  | str (x : Str) : DAt K H (.str x) (.str x)
  | lst {a : Addr} {xs : List V} {ds : List PyData} : SqL K H a xs → DsAt K H xs ds → DAt K H (.ref a) (.list ds)
  | tup {a : Addr} {xs : List V} {ds : List PyData} : SqT K H a xs → DsAt K H xs ds → DAt K H (.ref a) (.tuple ds)
inductive DsAt (K : PySem.W.Frag) (H : Hp) : List V → List PyData → Prop
  | nil : DsAt K H [] []
  | cons {x : V} {d : PyData} {xs : List V} {ds : List PyData} : DAt K H x d → DsAt K H xs ds → DsAt K H (x :: xs) (d :: ds)
end
section
variable {X : Cx} {pins : List (Addr × Obj)} {σ : St} {H : Hp} {s : Shared}
mutual
theorem DAt.reads (I : Inv X pins σ H s) : ∀ {x : V} {d : PyData} {u : Value}, DAt X.K H x d → RelV x u → ∃ as, Reads s.heap u d as
  | _, _, _, .non, r => by
    cases r
    exact ⟨_, .none⟩
  | _, _, _, .bl b, r => by
    cases r
    exact ⟨_, .bool b⟩
  | _, _, _, .int i, r => by
    obtain ⟨t, rfl⟩ := r
    exact ⟨_, .int i t⟩
  | _, _, _, .str x, r => by
    obtain ⟨t, rfl⟩ := r
    exact ⟨_, .str x t⟩
  | _, _, _, .lst hq ds, r => by
    cases r
    obtain ⟨its, rv, p, _⟩ := I.list hq
    obtain ⟨as, ra⟩ := DsAt.reads I ds rv
    obtain ⟨o, h1, h2, n, h3⟩ := p.isList
    exact ⟨_, .list h1 h2 h3 (by simpa using ra)⟩
  | _, _, _, .tup hq ds, r => by
    cases r
    obtain ⟨its, rv, p, _⟩ := I.tuple hq
    obtain ⟨as, ra⟩ := DsAt.reads I ds rv
    obtain ⟨o, h1, h2, n, h3⟩ := p
    exact ⟨_, .tuple h1 h2 h3 (by simpa using ra)⟩
theorem DsAt.reads (I : Inv X pins σ H s) : ∀ {xs : List V} {ds : List PyData} {us : List Value}, DsAt X.K H xs ds → Vals xs us → ∃ as, ReadsAll s.heap us ds as
  | _, _, _, .nil, r => by
    cases r
    exact ⟨_, .nil⟩
  | _, _, _, .cons d ds, r => by
    cases r with
    | cons r rs =>
      obtain ⟨as, ra⟩ := DAt.reads I d r
      obtain ⟨bs, rb⟩ := DsAt.reads I ds rs
      exact ⟨_, .cons ra rb⟩
end

def DOk (d : PyData) : Prop := d.canLay0 = true ∧ d.depth ≤ 40
def rEqD (K : PySem.W.Frag) (neg : Bool) : R2 := fun x y H Q => ∃ dx dy, DAt K H x dx ∧ DAt K H y dy ∧ DOk dx ∧ DOk dy ∧ Q (.bl (if neg then !PyData.eqv dx dy else PyData.eqv dx dy)) H
theorem op_eqD (hu : X.A.units + 64 < cLine) : OpR X (compareOp .Eq) (rEqD X.K false) := by
  intro pins s σ H x y v u Q I rx ry h
  obtain ⟨dx, dy, ax, ay, okx, oky, q⟩ := h
  obtain ⟨as, r1⟩ := ax.reads I rx
  obtain ⟨bs, r2⟩ := ay.reads I ry
  refine SeqAt.compareEq_reads r1 r2 okx.1 oky.1 ?_ (fin_bl I q rfl)
  have h1 := okx.2
  have h2 : min dx.depth dy.depth ≤ dx.depth := Nat.min_le_left _ _
  omega
theorem op_neD (hu : X.A.units + 64 < cLine) : OpR X (compareOp .NotEq) (rEqD X.K true) := by
  intro pins s σ H x y v u Q I rx ry h
  obtain ⟨dx, dy, ax, ay, okx, oky, q⟩ := h
  obtain ⟨as, r1⟩ := ax.reads I rx
  obtain ⟨bs, r2⟩ := ay.reads I ry
  refine SeqAt.compareNe_reads r1 r2 okx.1 oky.1 ?_ (fin_bl I q rfl)
  have h1 := okx.2
  have h2 : min dx.depth dy.depth ≤ dx.depth := Nat.min_le_left _ _
  omega
end
end L2
namespace L2
open PySem PySem.Spec PyProof.Rows
open AutoSeq1 (wpAny_loadPart')

section
variable {prog : Program} {w : World} {A : Around} {E : Value → Shared → Prop} {s : Shared}
end
section
variable {X : Cx} {pins : List (Addr × Obj)} {σ : St} {H : Hp} {s : Shared}

end

end L2
namespace L2
open PySem PySem.Spec PyProof.Rows
end L2
namespace L2
open PySem PySem.Spec PyProof.Rows

section
variable {X : Cx}
end
end L2
namespace L2
open PySem PySem.Spec PyProof.Rows

section
variable {X : Cx}
end
end L2
namespace L2
open PySem PySem.Spec PyProof.Rows


section
variable {X : Cx}

def rCatL (K : PySem.W.Frag) : R2 := fun x y H Q => ∃ l b xs zs, x = .ref l ∧ y = .ref b ∧ SqL K H l xs ∧ SqL K H b zs ∧ xs.length + zs.length ≤ sizeLine ∧ ∀ p, H p = none → Q (.ref p) (upd H p (.lst (xs ++ zs)))
theorem op_catL : OpR X (binaryOp .Add) (rCatL X.K) := by
  intro pins s σ H x y v u Q I rx ry h
  obtain ⟨l, b, xs, zs, rfl, rfl, ha, hb, hz, q⟩ := h
  cases rx
  cases ry
  obtain ⟨us, ru, pu, _⟩ := I.list ha
  obtain ⟨ws, rw', pw, _⟩ := I.list hb
  have l1 := ru.length
  have l2 := rw'.length
  obtain ⟨⟨cls, dd, data, sl⟩, n, ho, hc, hdd, hd⟩ := id pu
  obtain ⟨⟨cls2, dd2, data2, sl2⟩, n2, ho2, hc2, hdd2, hd2⟩ := id pw
  simp only at hc hd hc2 hd2
  subst hc hd hc2 hd2
  have st := list_addW l b us.toArray ws.toArray n n2 dd dd2 sl sl2 (by rw [List.size_toArray, List.size_toArray]; omega)
  refine concat_meets ⟨_, ho, rfl⟩ ⟨_, ho2, rfl⟩ noFill_list_add seq_list_add PySem.F.slot_list_add PySem.F.entry_list_add (PySem.F.args_list_add_2 _ _) st ⟨ho, ho2, ?_⟩
  have ea : us.toArray ++ ws.toArray = (us ++ ws).toArray := by simp
  rw [ea]
  exact ⟨.ref _, _, I.lnew (t' := s.toks) (ru.append rw') (by rw [List.length_append]; omega), rfl, q _ I.fresh⟩
end

end L2
namespace L2
open PySem PySem.Spec PyProof.Rows

section
variable {X : Cx}
structure MkN (K : PySem.W.Frag) (C : Addr) : Prop where
  makes : PySem.W.makesIn K C = true
  init : PySem.W.findIn K (.ref C) "__init__" = some (some (.builtin "object.__init__"))
  kp : PySem.W.keepIn K (.ref C) = true

end
end L2
namespace HT
open PySem PySem.Spec PyProof.Rows
section
variable {prog : Program} {w : World} {A : Around} {E : Value → Shared → Prop} {s : Shared}
end
end HT
namespace L2
open PySem PySem.Spec PyProof.Rows

end L2
namespace L2
open PySem PySem.Spec PyProof.Rows

def Itd (lo : Int) (n : Nat) : It := ⟨fun i _ => i < n, fun i H x H' => H' = H ∧ x = .int (lo - i), fun i _ => n ≤ i⟩
theorem turn_down {P : Program} {w : World} {K : PySem.W.Frag} {tg : Expr} (it : Addr) (lo : Int) (n : Nat) : Turn P w K tg (Itd lo n) [it] it (fun i h => IsRangeIter h it (lo + (i : Nat) * (-1)) ((n : Int) - (i : Nat)) (-1)) where
  mem := by simp
  obj := fun i h st b hb => by
    have e : b = it := by simpa using hb
    subst e
    exact ⟨_, st, fun v z => by
      have z' : Data.fields _ = Data.cell v := z
      cases z'⟩
  keep := fun i h h' st k => k it (by simp) _ st
  item := by
    intro X hP hw hK hc i pins s σ H E I hf st hg
    subst hP hw hK
    obtain ⟨f0, f1, f2, f3, f4, f5⟩ := hf it (by simp)
    have W := Walks.range (prog := X.prog) (w := X.w) (I.ok.hd hc) it lo (-1) n
    refine W.item i s _ _ hg st fun v h' tk hv st' kk => ?_
    obtain ⟨t, rfl⟩ := hv
    have I1 : Inv X pins σ H { s with heap := h', toks := tk } := I.turned (fun b o hb e => kk b o (by simpa using hb) e) f0 f1 f3 f4 f5
    refine ⟨_, rfl, go_of (s := { s with heap := h', toks := tk }) (n := "range_iterator") st' rfl rfl (by decide) ⟨.int (lo - i), H, I1, ⟨t, ?_⟩, ⟨rfl, rfl⟩, st', fun b hb => (hf b hb).1⟩⟩
    have e : lo + (i : Int) * (-1) = lo - (i : Int) := by omega
    rw [e]
  done := by
    intro X hP hw hK hc i pins s σ H E I hf st hg
    subst hP hw hK
    obtain ⟨f0, f1, f2, f3, f4, f5⟩ := hf it (by simp)
    exact wpAny_pyNext_range_end (I.ok.hd hc) st (by have : n ≤ i := hg; omega) fun h' eb => ⟨rfl, I.turned (t' := s.toks) (fun b o hb e => eb b o hb e) f0 f1 f3 f4 f5⟩
  self := fun _ _ _ _ _ st h => wpAny_pyIter_rangeiter st h
theorem rangeSize_down (a b : Int) : Builtin.Range.rangeSize a b (-1) = if b < a then a - b else 0 := by
  unfold Builtin.Range.rangeSize
  rw [if_neg (by decide)]
  have e : (-(-1) : Int) = 1 := by decide
  rw [e, Int.ediv_one]
  by_cases h : b < a
  · rw [if_pos h, if_pos h]
    omega
  · rw [if_neg h, if_neg h]
theorem small_down {a b : Int} (ha : -(2 ^ 61) ≤ a) (ha' : a < 2 ^ 61) (hb : -(2 ^ 61) ≤ b) (hb' : b < 2 ^ 61) : Builtin.Range.small a b (-1) = true := by
  unfold Builtin.Range.small
  rw [rangeSize_down]
  simp only [Builtin.Range.rangeFitsLong, Bool.and_eq_true, Bool.or_eq_true, decide_eq_true_eq, beq_iff_eq, show ¬ ((-1 : Int) > 0) by decide, if_false]
  split <;> omega
section
variable {X : Cx} {tg : Expr}
def iRngD (ta : TA) : TI := fun σ H R => ta σ H fun vs H1 => ∃ i j : Int, vs = [.int i, .int j, .int (-1)] ∧ (-(2 ^ 61) ≤ i ∧ i < 2 ^ 61 ∧ -(2 ^ 61) ≤ j ∧ j < 2 ^ 61) ∧ R (Itd i (i - j).toNat) H1
theorem pi_rangeD {a b c : Expr} {ta : TA} {p pos : Pos} (hg : Gl X "range") (hm : X.mg "range" = none) (ha : PA X [a, b, c] ta) (hs : starEach [a, b, c] X.env = [(false, eval a X.env), (false, eval b X.env), (false, eval c X.env)] := by rfl)
    (hs2 : starEach [b, c] X.env = [(false, eval b X.env), (false, eval c X.env)] := by rfl) :
    PI X tg (.Call (.Name "range" p) [a, b, c] [] pos) (iRngD ta) := by
  intro pins s σ H R I h
  refine Call_ (ld_blt I hg hm boot_range (PyProof.Rows.callWith_type1 (thn (ha pos pins s σ H _ I h) fun us s1 ⟨vs, H1, I1, r1, q1⟩ => ?_) (by rw [hs, hs2]) (by rw [hs2]; rfl)))
  obtain ⟨i, j, e, ⟨q1, q2, q3, q4⟩, q⟩ := q1
  subst e
  cases r1 with
  | cons r rr =>
    cases rr with
    | cons r' rr =>
      cases rr with
      | cons r'' rr =>
        cases rr
        obtain ⟨t, rfl⟩ := r
        obtain ⟨u, rfl⟩ := r'
        obtain ⟨v, rfl⟩ := r''
        refine call_range_3 (by decide) ?_ (Or.inl (PyProof.noPylong_small (by decide)))
        refine wpAny_pyIter_range (IsRange.new ..) (small_down q1 q2 q3 q4) ?_
        have I2 : Inv X pins σ H1 { s1 with heap := s1.heap.push { cls := .type "range", data := .fields #[.int i t, .int j u, .int (-1) v] }, toks := s1.toks } := I1.kept fun b o e => Heap.get?_push_of_some _ e
        refine ⟨(s1.heap.push { cls := .type "range", data := .fields #[.int i t, .int j u, .int (-1) v] }).objs.size, [(s1.heap.push { cls := .type "range", data := .fields #[.int i t, .int j u, .int (-1) v] }).objs.size], _, _, H1, rfl,
          I2.kept (t' := s1.toks) fun b o e => Heap.get?_push_of_some _ e, turn_down _ i (i - j).toNat, ?_, fun b hb => ?_, q⟩
        · have e1 : i + ((0 : Nat) : Int) * (-1) = i := by simp
          have e2 : (((i - j).toNat : Nat) : Int) - ((0 : Nat) : Int) = Builtin.Range.rangeSize i j (-1) := by rw [rangeSize_down]; split <;> omega
          show IsRangeIter _ _ (i + ((0 : Nat) : Int) * (-1)) ((((i - j).toNat : Nat) : Int) - ((0 : Nat) : Int)) (-1)
          rw [e1, e2]
          exact Heap.get?_push_size _ rfl
        · have e : b = (s1.heap.push { cls := .type "range", data := .fields #[.int i t, .int j u, .int (-1) v] }).objs.size := by simpa using hb
          subst e
          exact I2.fpOk (Nat.le_refl _) (I2.hok.fresh (Nat.le_refl _))
end
end L2
namespace L2
open PySem PySem.Spec PyProof.Rows

def Itst (lo c : Int) (n : Nat) : It := ⟨fun i _ => i < n, fun i H x H' => H' = H ∧ x = .int (lo + i * c), fun i _ => n ≤ i⟩
theorem turn_step {P : Program} {w : World} {K : PySem.W.Frag} {tg : Expr} (it : Addr) (lo c : Int) (n : Nat) : Turn P w K tg (Itst lo c n) [it] it (fun i h => IsRangeIter h it (lo + (i : Nat) * c) ((n : Int) - (i : Nat)) c) where
  mem := by simp
  obj := fun i h st b hb => by
    have e : b = it := by simpa using hb
    subst e
    exact ⟨_, st, fun v z => by
      have z' : Data.fields _ = Data.cell v := z
      cases z'⟩
  keep := fun i h h' st k => k it (by simp) _ st
  item := by
    intro X hP hw hK hc i pins s σ H E I hf st hg
    subst hP hw hK
    obtain ⟨f0, f1, f2, f3, f4, f5⟩ := hf it (by simp)
    have W := Walks.range (prog := X.prog) (w := X.w) (I.ok.hd hc) it lo c n
    refine W.item i s _ _ hg st fun v h' tk hv st' kk => ?_
    obtain ⟨t, rfl⟩ := hv
    have I1 : Inv X pins σ H { s with heap := h', toks := tk } := I.turned (fun b o hb e => kk b o (by simpa using hb) e) f0 f1 f3 f4 f5
    exact ⟨_, rfl, go_of (s := { s with heap := h', toks := tk }) (n := "range_iterator") st' rfl rfl (by decide) ⟨.int (lo + i * c), H, I1, ⟨t, rfl⟩, ⟨rfl, rfl⟩, st', fun b hb => (hf b hb).1⟩⟩
  done := by
    intro X hP hw hK hc i pins s σ H E I hf st hg
    subst hP hw hK
    obtain ⟨f0, f1, f2, f3, f4, f5⟩ := hf it (by simp)
    exact wpAny_pyNext_range_end (I.ok.hd hc) st (by have : n ≤ i := hg; omega) fun h' eb => ⟨rfl, I.turned (t' := s.toks) (fun b o hb e => eb b o hb e) f0 f1 f3 f4 f5⟩
  self := fun _ _ _ _ _ st h => wpAny_pyIter_rangeiter st h

def stepN (a b c : Int) : Nat := if a < b then ((b - a - 1) / c + 1).toNat else 0
theorem rangeSize_step {a b c : Int} (hc : 0 < c) : Builtin.Range.rangeSize a b c = (stepN a b c : Int) := by
  unfold Builtin.Range.rangeSize stepN
  rw [if_pos hc]
  split
  · have := Int.ediv_nonneg (show (0 : Int) ≤ b - a - 1 by omega) (Int.le_of_lt hc)
    omega
  · rfl
theorem small_step {a b c : Int} (hc : 0 < c) (hc' : c < 1000) (ha : -(2 ^ 60) ≤ a) (ha' : a < 2 ^ 60) (hb : -(2 ^ 60) ≤ b) (hb' : b < 2 ^ 60) : Builtin.Range.small a b c = true := by
  unfold Builtin.Range.small
  rw [rangeSize_step hc]
  have h1 : ((stepN a b c : Nat) : Int) < 2 ^ 62 := by
    unfold stepN
    split
    · have h2 := Int.ediv_le_self (c) (show (0 : Int) ≤ b - a - 1 by omega)
      have h3 := Int.ediv_nonneg (show (0 : Int) ≤ b - a - 1 by omega) (Int.le_of_lt hc)
      omega
    · decide
  simp only [Builtin.Range.rangeFitsLong, Bool.and_eq_true, Bool.or_eq_true, decide_eq_true_eq, beq_iff_eq, hc, gt_iff_lt, if_true]
  omega
section
variable {X : Cx} {tg : Expr}
def iRngS (ta : TA) : TI := fun σ H R => ta σ H fun vs H1 => ∃ i j c : Int, vs = [.int i, .int j, .int c] ∧ 0 < c ∧ c < 1000 ∧ (-(2 ^ 60) ≤ i ∧ i < 2 ^ 60 ∧ -(2 ^ 60) ≤ j ∧ j < 2 ^ 60) ∧ R (Itst i c (stepN i j c)) H1
theorem pi_rangeS {a b c : Expr} {ta : TA} {p pos : Pos} (hg : Gl X "range") (hm : X.mg "range" = none) (ha : PA X [a, b, c] ta) (hs : starEach [a, b, c] X.env = [(false, eval a X.env), (false, eval b X.env), (false, eval c X.env)] := by rfl)
    (hs2 : starEach [b, c] X.env = [(false, eval b X.env), (false, eval c X.env)] := by rfl) :
    PI X tg (.Call (.Name "range" p) [a, b, c] [] pos) (iRngS ta) := by
  intro pins s σ H R I h
  refine Call_ (ld_blt I hg hm boot_range (PyProof.Rows.callWith_type1 (thn (ha pos pins s σ H _ I h) fun us s1 ⟨vs, H1, I1, r1, q1⟩ => ?_) (by rw [hs, hs2]) (by rw [hs2]; rfl)))
  obtain ⟨i, j, c, e, h0, h9, ⟨q1, q2, q3, q4⟩, q⟩ := q1
  subst e
  cases r1 with
  | cons r rr =>
    cases rr with
    | cons r' rr =>
      cases rr with
      | cons r'' rr =>
        cases rr
        obtain ⟨t, rfl⟩ := r
        obtain ⟨u, rfl⟩ := r'
        obtain ⟨v, rfl⟩ := r''
        refine call_range_3 (by simp only [bne_iff_ne, ne_eq, beq_iff_eq] <;> omega) ?_ (Or.inl (PyProof.noPylong_small (by first | decide | omega)))
        refine wpAny_pyIter_range (IsRange.new ..) (small_step h0 h9 q1 q2 q3 q4) ?_
        have I2 : Inv X pins σ H1 { s1 with heap := s1.heap.push { cls := .type "range", data := .fields #[.int i t, .int j u, .int c v] }, toks := s1.toks } := I1.kept fun b o e => Heap.get?_push_of_some _ e
        refine ⟨(s1.heap.push { cls := .type "range", data := .fields #[.int i t, .int j u, .int c v] }).objs.size, [(s1.heap.push { cls := .type "range", data := .fields #[.int i t, .int j u, .int c v] }).objs.size], _, _, H1, rfl,
          I2.kept (t' := s1.toks) fun b o e => Heap.get?_push_of_some _ e, turn_step _ i c (stepN i j c), ?_, fun b hb => ?_, q⟩
        · have e1 : i + ((0 : Nat) : Int) * c = i := by simp
          have e2 : ((stepN i j c : Nat) : Int) - ((0 : Nat) : Int) = Builtin.Range.rangeSize i j c := by rw [rangeSize_step h0]; omega
          show IsRangeIter _ _ (i + ((0 : Nat) : Int) * c) (((stepN i j c : Nat) : Int) - ((0 : Nat) : Int)) c
          rw [e1, e2]
          exact Heap.get?_push_size _ rfl
        · have e : b = (s1.heap.push { cls := .type "range", data := .fields #[.int i t, .int j u, .int c v] }).objs.size := by simpa using hb
          subst e
          exact I2.fpOk (Nat.le_refl _) (I2.hok.fresh (Nat.le_refl _))
end
theorem for_step {lo c : Int} {n : Nat} {g : TG} {tb : TS} {D : Ends} {σ : St} {H : Hp} (Pv : Nat → St → Hp → Prop) (h0 : Pv 0 σ H)
    (hs : ∀ i σ H, i < n → Pv i σ H → g (.int (lo + i * c)) σ H fun σ2 H2 => tb { D with nx := Pv (i + 1), ct := Pv (i + 1), bk := D.nx } σ2 H2) (hd : ∀ σ H, Pv n σ H → D.nx σ H) :
    ∃ W : Nat → Nat → St → Hp → Prop, (∃ m, W 0 m σ H) ∧ ∀ i m σ H, W i m σ H →
      ((Itst lo c n).stop i H ∧ D.nx σ H) ∨ ((Itst lo c n).go i H ∧ ∃ N : St → Hp → Prop, (∀ σ' H', N σ' H' → ∃ m', m' < m ∧ W (i + 1) m' σ' H') ∧ ∀ x H', (Itst lo c n).yld i H x H' → g x σ H' fun σ2 H2 => tb { D with nx := N, ct := N, bk := D.nx } σ2 H2) := by
  refine ⟨fun i m σ H => m = n - i ∧ i ≤ n ∧ Pv i σ H, ⟨n, by simp, Nat.zero_le _, h0⟩, ?_⟩
  rintro i m σ H ⟨rfl, hi, p⟩
  by_cases hlt : i < n
  · refine .inr ⟨hlt, Pv (i + 1), fun σ' H' p' => ⟨n - (i + 1), by omega, rfl, hlt, p'⟩, fun x H' y => ?_⟩
    obtain ⟨e1, e2⟩ := y
    subst e1 e2
    exact hs i σ _ hlt p
  · have e : i = n := by omega
    subst e
    exact .inl ⟨Nat.le_refl _, hd σ H p⟩

theorem lc_step {lo c : Int} {n : Nat} {caps : St} {tt : TT} {te : TE} {D : Addr} {Q : Hp → Prop} {H1 : Hp} (Pv : Nat → List V → Hp → Prop) (hz : n ≤ sizeLine) (h0 : Pv 0 [] (upd H1 D (.lst []))) (hl : ∀ i ys H, Pv i ys H → ys.length ≤ i)
    (hs : ∀ i ys H (N : VK) (M : Hp → Prop), i < n → Pv i ys H → (∀ y H4, H4 D = some (.lst ys) → Pv (i + 1) (ys ++ [y]) (upd H4 D (.lst (ys ++ [y]))) → N y H4) → (∀ H3, Pv (i + 1) ys H3 → M H3) →
      tt (some (.int (lo + i * c)) :: caps) H fun ok H3 => if ok = true then te (some (.int (lo + i * c)) :: caps) H3 N else M H3)
    (hd : ∀ ys H, Pv n ys H → Q H) : ∃ W : Nat → Nat → St → Hp → Prop, (∃ m, W 0 m (none :: caps) (upd H1 D (.lst []))) ∧ LcW (Itst lo c n) (gName 0) tt te D Q W := by
  refine ⟨fun i m σ H => m = n - i ∧ i ≤ n ∧ (∃ v, σ = v :: caps) ∧ ∃ ys, Pv i ys H, ⟨n, by simp, Nat.zero_le _, ⟨none, rfl⟩, [], h0⟩, ?_⟩
  rintro i m σ H ⟨rfl, hi, ⟨v, rfl⟩, ys, p⟩
  have hy := hl i ys H p
  by_cases hlt : i < n
  · refine .inr ⟨hlt, fun x H1 y => ?_⟩
    obtain ⟨e, y⟩ := y
    subst e y
    refine hs i ys _ _ _ hlt p (fun y H4 a c => ⟨ys, a, by omega, n - (i + 1), by omega, rfl, hlt, ⟨_, rfl⟩, _, c⟩) (fun H3 c => ⟨n - (i + 1), by omega, rfl, hlt, ⟨_, rfl⟩, ys, c⟩)
  · have e : i = n := by omega
    subst e
    exact .inl ⟨Nat.le_refl _, hd ys H p⟩
theorem lc_down {lo : Int} {n : Nat} {caps : St} {tt : TT} {te : TE} {D : Addr} {Q : Hp → Prop} {H1 : Hp} (Pv : Nat → List V → Hp → Prop) (hz : n ≤ sizeLine) (h0 : Pv 0 [] (upd H1 D (.lst []))) (hl : ∀ i ys H, Pv i ys H → ys.length ≤ i)
    (hs : ∀ i ys H (N : VK) (M : Hp → Prop), i < n → Pv i ys H → (∀ y H4, H4 D = some (.lst ys) → Pv (i + 1) (ys ++ [y]) (upd H4 D (.lst (ys ++ [y]))) → N y H4) → (∀ H3, Pv (i + 1) ys H3 → M H3) →
      tt (some (.int (lo - i)) :: caps) H fun ok H3 => if ok = true then te (some (.int (lo - i)) :: caps) H3 N else M H3)
    (hd : ∀ ys H, Pv n ys H → Q H) : ∃ W : Nat → Nat → St → Hp → Prop, (∃ m, W 0 m (none :: caps) (upd H1 D (.lst []))) ∧ LcW (Itd lo n) (gName 0) tt te D Q W := by
  refine ⟨fun i m σ H => m = n - i ∧ i ≤ n ∧ (∃ v, σ = v :: caps) ∧ ∃ ys, Pv i ys H, ⟨n, by simp, Nat.zero_le _, ⟨none, rfl⟩, [], h0⟩, ?_⟩
  rintro i m σ H ⟨rfl, hi, ⟨v, rfl⟩, ys, p⟩
  have hy := hl i ys H p
  by_cases hlt : i < n
  · refine .inr ⟨hlt, fun x H1 y => ?_⟩
    obtain ⟨e, y⟩ := y
    subst e y
    refine hs i ys _ _ _ hlt p (fun y H4 a c => ⟨ys, a, by omega, n - (i + 1), by omega, rfl, hlt, ⟨_, rfl⟩, _, c⟩) (fun H3 c => ⟨n - (i + 1), by omega, rfl, hlt, ⟨_, rfl⟩, ys, c⟩)
  · have e : i = n := by omega
    subst e
    exact .inl ⟨Nat.le_refl _, hd ys H p⟩
end L2
namespace L2
open PySem PySem.Spec PyProof.Rows

section
variable {X : Cx}

def tRev (K : PySem.W.Frag) (te ts : TE) : TE := fun σ H Q => te σ H fun x H1 => ts σ H1 fun k H2 => ∃ a xs, k = .int (-1) ∧ x = .ref a ∧ SqL K H2 a xs ∧ ∀ p, H2 p = none → Q (.ref p) (upd H2 p (.lst xs.reverse))
theorem pe_rev {e st : Expr} {te ts : TE} {p2 pos : Pos} (he : PE X e te) (hst : PE X st ts) : PE X (.Subscript e (.Slice none none (some st) p2) pos) (tRev X.K te ts) := by
  intro pins s σ H Q I h
  refine Subscript_ (thn (he pins s σ H _ I h) fun v s1 ⟨x, H1, I1, r1, q1⟩ => ?_)
  refine wpAny_Slice ?_
  rw [evalPart_none, evalPart_some]
  refine wpAny_pure (wpAny_pure ?_)
  refine thn (hst pins s1 σ H1 _ I1 q1) fun kv s3 ⟨k, H3, I3, rk, a, xs, e1, e2, hx, q3⟩ => ?_
  subst e1 e2
  obtain ⟨t, rfl⟩ := rk
  cases r1
  have I4 : Inv X pins σ H3 { s3 with heap := s3.heap.push { cls := .type "slice", data := .fields #[.none, .none, .int (-1) t] } } := I3.kept (t' := s3.toks) fun b ob q => Heap.get?_push_of_some _ q
  obtain ⟨its, r, ht, hz⟩ := I4.list hx
  have hlen := r.length
  show wpAny (model X.prog X.w) X.A (subscriptTail e (.Slice none none (some st) p2) (.ref a) (.ref s3.heap.objs.size)) (EP X pins σ Q) X.xe { s3 with heap := s3.heap.push { cls := .type "slice", data := .fields #[.none, .none, .int (-1) t] } }
  refine tail_any (ops := [.ref a, .ref s3.heap.objs.size]) ht.isList.typeIs slot_list_getitem.lookup ?_ (by with_unfolding_all rfl)
  refine wpAny_getItem_list_slice ht.isList (Heap.IsSliceOf.new ..) .none .none (IsPart.int _ _) (by simp) ?_ (by rw [List.size_toArray] <;> omega)
  rw [PySem.W.krv_pick]
  refine ⟨.ref _, _, I4.laid (t' := s3.toks) (o := .lst xs.reverse) (fun b ob q => Heap.get?_push_of_some _ q) (Nat.le_refl _) ?_, rfl, q3 _ (I4.hok.fresh (Nat.le_refl _))⟩
  refine ⟨by rw [List.length_reverse]; exact hz, its.reverse, 0, r.reverse, ?_⟩
  exact Heap.get?_push_size _ rfl
end
end L2
namespace L2
open PySem PySem.Spec PyProof.Rows

end L2
namespace L2
open PySem PySem.Spec PyProof.Rows

section
variable {X : Cx}
def rangeI (lo : Int) (n : Nat) : List Int := (List.range n).map fun (i : Nat) => lo + (i : Int)
theorem items_vals {lo : Int} : ∀ (n : Nat) (us : List Value), us.length = n → (∀ (i : Nat) (v : Value), us[i]? = some v → ∃ t, v = .int (lo + (i : Int)) t) → Vals ((rangeI lo n).map V.int) us := by
  intro n
  induction n generalizing lo with
  | zero =>
    intro us hl _
    have : us = [] := List.length_eq_zero_iff.mp hl
    subst this
    exact .nil
  | succ n ih =>
    intro us hl h
    cases us with
    | nil => simp at hl
    | cons u us =>
      obtain ⟨t, rfl⟩ := h 0 u rfl
      have e : rangeI lo (n + 1) = (lo + ((0 : Nat) : Int)) :: rangeI (lo + 1) n := by
        unfold rangeI
        rw [List.range_succ_eq_map, List.map_cons, List.map_map]
        congr 1
        apply List.map_congr_left
        intro i _
        show lo + ((Nat.succ i : Nat) : Int) = lo + 1 + (i : Int)
        omega
      rw [e, List.map_cons]
      refine .cons ⟨t, rfl⟩ (ih us (by simpa using hl) fun i v hv => ?_)
      obtain ⟨t', rfl⟩ := h (i + 1) v (by simpa using hv)
      exact ⟨t', by congr 1; omega⟩
theorem call_list_rng (hc : X.calm = true) : CallR X (.type "list") (fun xs H Q => ∃ (p : Addr) (lo hi : Int), xs = [.ref p] ∧ H p = some (.rng lo hi) ∧ -(2 ^ 62) ≤ lo ∧ lo < 2 ^ 62 ∧ -(2 ^ 62) ≤ hi ∧ hi < 2 ^ 62 ∧ (hi - lo).toNat ≤ 1000 ∧ ∀ l, H l = none → Q (.ref l) (upd H l (.lst ((rangeI lo (hi - lo).toNat).map V.int)))) := by
  intro pins s σ H xs us Q I r h
  obtain ⟨p, lo, hi, rfl, hp, l0, l1, h0, h1, hn, q⟩ := h
  obtain ⟨u, rfl, rx⟩ := vals1 r
  cases rx
  obtain ⟨t, u, v, ho⟩ := show ∃ t u v, s.heap.get? p = some { cls := .type "range", data := .fields #[.int lo t, .int hi u, .int 1 v] } from I.hok _ _ hp
  refine call_list_range (n := (hi - lo).toNat) (I.ok.hd hc) ho (small_one l0 l1 h0 h1) (by rw [rangeSize_one]; split <;> omega) (by omega) fun h' tk acc' c' hk hS hI => ?_
  refine ⟨.ref s.heap.objs.size, _, I.laid (t' := tk) hk (Nat.le_refl _) (show ObjOk X.prog X.w _ h' _ (.lst ((rangeI lo (hi - lo).toNat).map V.int)) from ⟨?_, acc'.toList, c', ?_, ?_⟩), rfl, q _ (I.hok.fresh (Nat.le_refl _))⟩
  · unfold rangeI
    rw [List.length_map, List.length_map, List.length_range]
    exact Nat.le_of_lt (small1000 hn)
  · refine items_vals _ _ (by rw [Array.length_toList]; exact hI.1) fun i v hv => ?_
    obtain ⟨t, rfl⟩ := hI.2 i v (by simpa using hv)
    exact ⟨t, by rw [Int.mul_one]⟩
  · rw [Array.toArray_toList]
    exact hS
end
end L2
namespace L2
open PySem PySem.Spec PyProof.Rows

section
variable {prog : Program} {w : World} {A : Around} {E : Value → Shared → Prop} {I : Addr} {fp wr : List Addr} {G : Array GenState → Array GenState → Prop} {n : Nat} {P : Nat → Value → Prop} {St : Nat → Shared → Prop}
end
section
variable {prog : Program} {w : World} {A : Around} {E : Value → Shared → Prop} {s : Shared}
end
section
variable {X : Cx}

end
end L2
namespace L2
open PySem PySem.Spec PyProof.Rows

section
variable {M : Model} {A : Around} {E : Value → Shared → Prop} {s : Shared}

structure LeftBy (fs : List Addr) (e T : Addr) (h h' : Heap) : Prop where
  keep : ∀ b o, b ≠ e → b ∉ fs → h.get? b = some o → h'.get? b = some o
  slot : ∀ b o, b ≠ e → h.get? b = some o → ∃ sl, h'.get? b = some { o with slots := sl }
  exc : ∀ oe vs, h.get? e = some oe → oe.data = .fields vs → ∃ oe', h'.get? e = some oe' ∧ oe'.cls = oe.cls ∧ oe'.dict = oe.dict ∧ oe'.data = .fields (vs.setIfInBounds 1 (.ref T))
  new : h.get? T = none
  tr : ∃ oT ts, h'.get? T = some oT ∧ oT.data = .fields ts ∧ ts[3]? = some .none
theorem note_new {base : Heap} {env : Env} {outer : List Env} {L e : Addr} {oe : Obj} {vs : Array Value} {hd : Value} {nx : Bool} {Q : Unit → Shared → Prop} (fr : A.frames = some (env :: outer)) (ff : s.heap.FunFrames base (env :: outer)) (ef : env.frame = some L)
    (ge : s.heap.get? e = some oe) (de : oe.data = .fields vs) (sz : 1 < vs.size) (q : ∀ h' T, LeftBy ((env :: outer).filterMap (·.frame)) e T s.heap h' → Q () { s with heap := h' }) :
    wpAny M A (do let a ← frameOf env; let pl ← entryPlaceOf L nx; let b ← EntryCells.newEntry hd a .none (rawInt L) .none pl; setField (.ref e) 1 b) (fun _ s' => wpAny M A (setFlight (.ref e) none) Q E s') E s := by
  have nf : e ∉ (env :: outer).filterMap (·.frame) := fun m => by
    obtain ⟨_, o, ho, hn⟩ := ff.mem m
    rw [ge] at ho
    cases ho
    exact hn vs de
  refine wpAny_bind (wpAny_frameOf_fun fr ff ef fun k1 ks => ?_)
  refine wpAny_bind (wpAny_entryPlaceOf fun pl hpl => ?_)
  unfold EntryCells.newEntry newFields
  refine wpAny_bind (wpAny_newObj_type ?_ (hpl.sizeOk5 _ _ _ _ _))
  have g1 : k1.get? e = some oe := (ks.2.1 e nf).trans ge
  generalize hob : ({ cls := .type "traceback", dict := none, data := .fields ([hd, .ref L, .none, rawInt L, .none] ++ (if pl.isEmpty then List.replicate 6 Value.none else pl)).toArray } : Obj) = ob
  have g2 := Heap.get?_push_of_some (h := k1) ob g1
  refine wpAny_setField g2 de sz ?_
  have ne : k1.objs.size ≠ e := Nat.ne_of_gt (Heap.lt_size g1)
  have d3 := Obj.data_mapFields de (·.setIfInBounds 1 (Value.ref k1.objs.size))
  have g3 := Heap.get?_update_self (Obj.mapFields (·.setIfInBounds 1 (Value.ref k1.objs.size))) g2 (Obj.isFreed_of_fields d3)
  have t3 := (Heap.get?_update_other (k1.push ob) (Obj.mapFields (·.setIfInBounds 1 (Value.ref k1.objs.size))) (Ne.symm ne)).trans (Heap.get?_push_size k1 (o := ob) (by rw [← hob]; rfl))
  unfold setFlight
  refine wpAny_bind (wpAny_field g3 d3 (x := .ref k1.objs.size) (by simp [sz]) ?_)
  rw [if_pos (show (Value.ref k1.objs.size != Value.none) = true from by simp)]
  have dT : ob.data = .fields ([hd, .ref L, .none, rawInt L, .none] ++ (if pl.isEmpty then List.replicate 6 Value.none else pl)).toArray := by rw [← hob]
  refine wpAny_setField t3 dT (by simp only [List.size_toArray, List.length_append, List.length_cons, List.length_nil] <;> omega) (q _ k1.objs.size ?_)
  have up : ∀ b o, b ≠ e → k1.get? b = some o → (((k1.push ob).update e (Obj.mapFields (·.setIfInBounds 1 (Value.ref k1.objs.size)))).update k1.objs.size (Obj.mapFields (·.setIfInBounds 3 ((none : Option Addr).elim Value.none fun f => rawInt f)))).get? b = some o := fun b o be hb => by
    rw [Heap.get?_update_other _ _ (show k1.objs.size ≠ b from Nat.ne_of_gt (Heap.lt_size hb)), Heap.get?_update_other _ _ (Ne.symm be)]
    exact Heap.get?_push_of_some _ hb
  refine ⟨fun b o be bf hb => up b o be ((ks.2.1 b bf).trans hb), fun b o be hb => ?_, fun oe2 vs2 h1 h2 => ?_, ?_, ?_⟩
  · obtain ⟨sl, hs⟩ := ks.2.2 b o hb
    exact ⟨sl, up b _ be hs⟩
  · rw [ge] at h1
    cases h1
    rw [de] at h2
    cases h2
    refine ⟨_, (Heap.get?_update_other _ _ ne).trans g3, Obj.cls_mapFields _ _, ?_, d3⟩
    obtain ⟨c, dd, dt, sl⟩ := oe
    cases de
    rfl
  · have : s.heap.objs.size = k1.objs.size := ks.1.symm
    rw [← this]
    exact Heap.get?_none_of_le (Nat.le_refl _)
  · refine ⟨_, _, Heap.get?_update_self _ t3 (Obj.isFreed_of_fields (Obj.data_mapFields dT _)), Obj.data_mapFields dT _, ?_⟩
    first | (simp; done) | (rcases hpl with rfl | ⟨_, _, _, _, _, _, _, rfl⟩ <;> simp)
end
end L2
namespace L2
open PySem PySem.Spec PyProof.Rows
section
variable {M : Model} {A : Around} {E : Value → Shared → Prop} {s : Shared}

theorem leave_first {base : Heap} {env : Env} {outer : List Env} {L e : Addr} {oe : Obj} {vs : Array Value} {Q : Unit → Shared → Prop} (fr : A.frames = some (env :: outer)) (ff : s.heap.FunFrames base (env :: outer)) (ef : env.frame = some L)
    (ge : s.heap.get? e = some oe) (de : oe.data = .fields vs) (v1 : vs[1]? = some .none) (q : ∀ h' T, LeftBy ((env :: outer).filterMap (·.frame)) e T s.heap h' → Q () { s with heap := h' }) : wpAny M A (leaving env (.ref e)) Q E s := by
  unfold leaving noteFrame
  simp only [ef]
  refine wpAny_bind (wpAny_bind (wpAny_field ge de v1 ?_))
  rw [if_neg (by decide)]
  exact note_new fr ff ef ge de (Array.getElem?_eq_some_iff.mp v1).1 q
end

theorem own_K {K : PySem.W.Frag} {h : Heap} {mg : Str → Option Value} {x : Str} {C : Addr} {bmB : List Value} {newId : String} (X : K.In h) (gm : mg x = some (.ref C)) (hq : PySem.W.excIn K C bmB newId = true) : OwnCls x C bmB newId mg h := by
  refine ⟨gm, ?_⟩
  unfold PySem.W.excIn at hq
  split at hq
  · rename_i dd cd sl ho
    split at hq
    · rename_i C' bm k0 k1 k2 k3 n k5 hm hs
      simp only [Bool.and_eq_true, beq_iff_eq, Bool.not_eq_true'] at hq
      obtain ⟨⟨⟨⟨⟨e1, e2⟩, hdel⟩, ht⟩, hok⟩, hni⟩ := hq
      subst e1 e2
      obtain ⟨nm, bs, mro, ns, qn, hd, sn, sub, ab, col, del⟩ := cd
      dsimp only at hm hdel hok hni
      subst hm hdel
      have hsl : sl = #[k0, k1, k2, k3, some (.builtin n), k5] := Array.toList_inj.mp hs
      subst hsl
      exact ⟨bm, ns, nm, qn, bs, hd, sn, sub, ab, col, dd, k0, k1, k2, k3, k5, _, X _ _ ho, .of_isNs (PySem.W.isNs_of_in X hok), PySem.W.nsMap_none_of_in X hok hni, PySem.W.tail_of_in X ht⟩
    · cases hq
  · cases hq

def Throws (X : Cx) (C : Addr) (EX : Hp → Prop) : Prop := ∀ (pins : List (Addr × Obj)) (σ : St) (H : Hp) (s : Shared) (h' : Heap) (e : Addr) (vs : List Value), Inv X pins σ H s → Heap.MadeExcOf s.heap h' e (.ref C) vs → EX H → X.xe (.ref e) { s with heap := h' }

theorem ps_raise0 {X : Cx} {x : Str} {C : Addr} {B : String} {newId initId : String} {bmB : List Value} {np cpos pos : Pos} {EX : Hp → Prop} (hg : Gl X x) (gm : X.mg x = some (.ref C)) (hx : PySem.W.excIn X.K C bmB newId = true) (FB : ExcBaseFacts B newId initId bmB) (hc : X.calm = true) (ht : Throws X C EX)
    (hdb : (x == ("__debug__" : Str)) = false := by decide) : PS X (.Raise (some (.Call (.Name x np) [] [] cpos)) none pos) (fun _ _ H => EX H) := by
  intro pins s σ H D I h
  have O := own_K (mg := X.mg) (x := x) I.kIn gm hx
  obtain ⟨tl, N, nm, q, bs, hdct, sn, sub, ab, col, dd, k0, k1, k2, k3, k5, mN, hC, hN, hni, T⟩ := O.obj
  refine wpAny_Raise_call_subT (C := C) (nm := nm) (q := q) (N := N) (bs := bs) (bm := tl) (hdct := hdct) (sn := sn) (sub := sub) (ab := ab) (col := col) (dd := dd) (k0 := k0) (k1 := k1) (k2 := k2) (k3 := k3) (k5 := k5)
    FB (mN := mN) (T.hasType FB.hasBase) (I.ok.hd hc) rfl hni (ld_glob I hg gm ⟨rfl, ?_⟩ hdb)
  exact evalArgs_empty ⟨rfl, Nat.zero_le _, hC, hN, T, fun h' e mk => ht pins σ H s h' e [] I mk h⟩

theorem ObjOk.there {P : Program} {w : World} {H : Hp} {h : Heap} {a : Addr} {o : HO} (x : ObjOk P w H h a o) : ∃ ob, h.get? a = some ob := by
  cases o with
  | lst xs => obtain ⟨_, _, _, _, e⟩ := x; exact ⟨_, e⟩
  | tup xs => obtain ⟨_, _, _, ob, e, _⟩ := x; exact ⟨ob, e⟩
  | dK kvs => obtain ⟨_, _, _, _, o, _, _, e, _⟩ := x; exact ⟨_, e⟩
  | dT kvs => obtain ⟨_, _, _, _, o, _, _, e, _⟩ := x; exact ⟨_, e⟩
  | set S n => obtain ⟨o, _, _, _, e, _⟩ := x; exact ⟨_, e⟩
  | ins C dx fs => obtain ⟨_, _, _, e, _⟩ := x; exact ⟨_, e⟩
  | own y => obtain ⟨_, e⟩ := x; exact ⟨_, e⟩
  | xd fs => obtain ⟨_, ⟨_, _, _, e, _⟩, _⟩ := x; exact ⟨_, e⟩
  | rng lo hi => obtain ⟨_, _, _, e⟩ := x; exact ⟨_, e⟩
  | frz ob u => exact ⟨ob, x.1⟩
  | tbl ps => exact ⟨_, x⟩
  | met f y => exact ⟨_, x⟩
  | ext φ => obtain ⟨_, ⟨ob, e⟩, _⟩ := x; exact ⟨ob, e⟩

def Fly (h h' : Heap) (H' : Hp) (a C : Addr) (dd : Option Addr) : Prop := h.get? a = none ∧ H' a = none ∧ ∃ oe vs T oT ts, h'.get? a = some oe ∧ oe.cls = .ref C ∧ oe.dict = dd ∧ oe.data = .fields vs ∧ vs[1]? = some (.ref T) ∧ T ≠ a ∧ h.get? T = none ∧ H' T = none ∧ h'.get? T = some oT ∧ oT.data = .fields ts ∧ ts[3]? = some .none
def CX1 (P : Program) (w : World) : CXT := fun outer H s E e s' => ∃ (a C : Addr) (dd : Option Addr) (H' : Hp), e = .ref a ∧ s'.os = s.os ∧ AllBare s'.gens ∧ Un (frs outer) [] H H' s.heap s'.heap ∧ HOk P w H' s'.heap ∧ Fly s.heap s'.heap H' a C dd ∧ E (.ref C) dd H'

theorem throws_cx {P : Program} {w : World} {K : PySem.W.Frag} {mg : Str → Option Value} {base : Heap} {N : List Str} {qual : Str} {scope : Scope} {f C : Addr} {cd : Value} {A : Around} {outer : List Env} {s : Shared} {H : Hp} {E : XK} :
    Throws (cxOf (CX1 P w) P w K mg base N qual scope f cd A outer s H E) C (fun H' => E (.ref C) none H') := by
  intro pins σ H1 s1 h' e vs I mk hE
  obtain ⟨t, g1, g2, g3⟩ := mk.there
  have fr : (A.deeper (envOfC qual scope s.heap.objs.size f cd)).frames = some (envOfC qual scope s.heap.objs.size f cd :: outer) := I.ok.frames
  have ff := I.stack
  have ff' : h'.FunFrames base (envOfC qual scope s.heap.objs.size f cd :: outer) := ff.of_keeps fun b o hb _ => ⟨o, mk.keeps b o hb, rfl⟩
  have fE : ∀ b ∈ (envOfC qual scope s.heap.objs.size f cd :: outer).filterMap (·.frame), H1 b = none := I.stkFree
  have new1 : ∀ b, s1.heap.get? b = none → s.heap.get? b = none := fun b hb => by
    cases q : s.heap.get? b with
    | none => rfl
    | some o =>
      obtain ⟨o', z⟩ := I.base.there b o q (by show b ∉ ([] : List Addr); simp)
      rw [hb] at z
      cases z
  have unt : ∀ b, s1.heap.get? b = none → H1 b = none := fun b hb => by
    cases q : H1 b with
    | none => rfl
    | some o =>
      obtain ⟨ob, z⟩ := (I.hok b o q).there
      rw [hb] at z
      cases z
  refine leave_first (s := { s1 with heap := h' }) fr ff' rfl g1 rfl rfl fun h'' T lb => ?_
  have ne : ∀ b o, s1.heap.get? b = some o → b ≠ e := fun b o hb z => by
    rw [z, mk.new] at hb
    cases hb
  have nL : ∀ b o, s.heap.get? b = some o → b ∉ frs outer → b ∉ (envOfC qual scope s.heap.objs.size f cd :: outer).filterMap (·.frame) := fun b o hb hf hm => by
    rcases List.mem_cons.mp (show b ∈ s.heap.objs.size :: frs outer from hm) with z | z
    · exact absurd (Heap.lt_size hb) (by rw [z]; exact Nat.lt_irrefl _)
    · exact hf z
  have slot : ∀ b o, s1.heap.get? b = some o → ∃ sl, h''.get? b = some { o with slots := sl } := fun b o hb => lb.slot b o (ne b o hb) (mk.keeps b o hb)
  have hT1 : s1.heap.get? T = none := by
    cases q : s1.heap.get? T with
    | none => rfl
    | some o =>
      have := mk.keeps T o q
      rw [lb.new] at this
      cases this
  refine ⟨e, C, none, H1, rfl, I.os, I.bare, ⟨fun b o hb hn hf hx => ?_, fun b o hb hn hf hx => ?_, fun b o hb hn hx => I.base.free b o hb hn hx, fun b o hb hx => ?_, I.base.tups, I.base.frzs, I.base.tbls⟩, fun b o hb => ?_, ⟨new1 e mk.new, unt e mk.new, ?_⟩, hE⟩
  · have q := I.base.keep b o hb hn hf hx
    exact lb.keep b o (ne b o q) (nL b o hb hf) (mk.keeps b o q)
  · obtain ⟨sl, q⟩ := I.base.slot b o hb hn hf hx
    obtain ⟨sl2, q2⟩ := slot b _ q
    exact ⟨sl2, q2⟩
  · obtain ⟨o', q⟩ := I.base.there b o hb hx
    obtain ⟨sl, q2⟩ := slot b o' q
    exact ⟨_, q2⟩
  · refine (I.hok b o hb).stay (fun c u z hc => ?_) (fun c z => z) fun c xs z => z
    refine lb.keep c u (ne c u hc) (fun hm => ?_) (mk.keeps c u hc)
    have := fE c hm
    rcases z with z | z
    · rw [z, hb] at this
      cases this
    · rw [z] at this
      cases this
  · obtain ⟨oe', q1, q2, q3, q4⟩ := lb.exc _ _ g1 rfl
    obtain ⟨oT, ts, t1, t2, t3⟩ := lb.tr
    refine ⟨oe', _, T, oT, ts, q1, q2, q3, q4, rfl, fun z => ?_, new1 T hT1, unt T hT1, t1, t2, t3⟩
    have := lb.new
    rw [z] at this
    have g1' : h'.get? e = some _ := g1
    rw [this] at g1'
    cases g1'
end L2
namespace L2
open PySem PySem.Spec PyProof.Rows
section
variable {M : Model} {A : Around} {E : Value → Shared → Prop} {s : Shared}

end

theorem Fun.okX {P : Program} {w : World} {K : PySem.W.Frag} {mg : Str → Option Value} {base : Heap} {x qual : Str} {st : Stmt} {f : Addr} {fd : FuncData} {N ps : List Str} {k : Nat} {sp : Sp} (F : Fun K x qual st f fd) (S : FnScope N ps (defScope st)) (len : ∀ vs H Q E, sp vs H Q E → vs.length = ps.length)
    (hbody : ∀ (cdv : Value) (A : Around) (outer : List Env) (s : Shared) (H : Hp) (vs : List V) (Q : VK) (E : XK), Room k (A.deeper (envOfC qual (defScope st) s.heap.objs.size f cdv)) → sp vs H Q E →
      ∃ t, PSs (cxOf (CX1 P w) P w K mg base N qual (defScope st) f cdv A outer s H E) (defBody st) t ∧ t { nx := fun _ H' => Q .non H', rt := Q } (start N vs) H) : FnOk P w K mg base (CX1 P w) (k + 1) f fd ps sp := by
  obtain ⟨oc, od, kV, doc, pm, an, cdv, ct, osl, rfl, lk, hcd⟩ := F.ex
  exact fn_of lk hcd S len fun A outer s H vs Q E hr hsp => hbody cdv A outer s H vs Q E hr hsp

end L2
namespace L2
open PySem PySem.Spec PyProof.Rows
section
variable {M : Model} {A : Around} {E : Value → Shared → Prop} {s : Shared}

theorem look_next {base : Heap} {env : Env} {outer : List Env} {L e T0 : Addr} {oe oT : Obj} {vs ts : Array Value} {Q : Unit → Shared → Prop} (fr : A.frames = some (env :: outer)) (ff : s.heap.FunFrames base (env :: outer)) (ef : env.frame = some L)
    (ge : s.heap.get? e = some oe) (de : oe.data = .fields vs) (v1 : vs[1]? = some (.ref T0)) (gT : s.heap.get? T0 = some oT) (dT : oT.data = .fields ts) (t3 : ts[3]? = some .none) (ne : T0 ≠ e)
    (q : ∀ h1 h' T, (∀ b, b ≠ T0 → h1.get? b = s.heap.get? b) → (∃ o, h1.get? T0 = some o) → LeftBy ((env :: outer).filterMap (·.frame)) e T h1 h' → Q () { s with heap := h' }) :
    wpAny M A (noteFrame (.ref e) env) (fun _ s2 => wpAny M A (setFlight (.ref e) none) Q E s2) E s := by
  unfold noteFrame
  simp only [ef]
  refine wpAny_bind (wpAny_field ge de v1 ?_)
  rw [if_pos (show (Value.ref T0 != Value.none) = true from by simp)]
  refine wpAny_bind (wpAny_field gT dT t3 ?_)
  rw [if_neg (show ¬ ((Value.none == rawInt L) = true) from by simp [rawInt])]
  refine wpAny_bind (wpAny_setField gT dT (Array.getElem?_eq_some_iff.mp t3).1 ?_)
  have oth : ∀ b, b ≠ T0 → (s.heap.update T0 (Obj.mapFields (·.setIfInBounds 3 Value.none))).get? b = s.heap.get? b := fun b hb => Heap.get?_update_other _ _ (Ne.symm hb)
  have there := Heap.get?_update_self (Obj.mapFields (·.setIfInBounds 3 Value.none)) gT (Obj.isFreed_of_fields (Obj.data_mapFields dT _))
  have nr : ∀ b o, s.heap.get? b = some o → (∀ us, o.data ≠ .fields us) → b ≠ T0 := fun b o hb hn z => by
    rw [z, gT] at hb
    cases hb
    exact hn ts dT
  exact note_new (s := { s with heap := s.heap.update T0 (Obj.mapFields (·.setIfInBounds 3 Value.none)) }) fr (ff.of_keeps fun b o hb hn => ⟨o, (oth b (nr b o hb hn)).trans hb, rfl⟩) ef ((oth e (Ne.symm ne)).trans ge) de (Array.getElem?_eq_some_iff.mp v1).1 fun h' T lb => q _ h' T oth ⟨_, there⟩ lb

theorem flight {e T : Addr} {oe oT : Obj} {vs ts : Array Value} {Q : Unit → Shared → Prop} (ge : s.heap.get? e = some oe) (de : oe.data = .fields vs) (v1 : vs[1]? = some (.ref T)) (gT : s.heap.get? T = some oT) (dT : oT.data = .fields ts) (t3 : ts[3]? = some .none)
    (q : ∀ h', (∀ b, b ≠ T → h'.get? b = s.heap.get? b) → (∃ oT' ts', h'.get? T = some oT' ∧ oT'.data = .fields ts' ∧ ts'[3]? = some .none) → Q () { s with heap := h' }) : wpAny M A (setFlight (.ref e) none) Q E s := by
  unfold setFlight
  refine wpAny_bind (wpAny_field ge de v1 ?_)
  rw [if_pos (show (Value.ref T != Value.none) = true from by simp)]
  have sz := (Array.getElem?_eq_some_iff.mp t3).1
  refine wpAny_setField gT dT sz (q _ (fun b hb => Heap.get?_update_other _ _ (Ne.symm hb)) ⟨_, _, Heap.get?_update_self _ gT (Obj.isFreed_of_fields (Obj.data_mapFields dT _)), Obj.data_mapFields dT _, ?_⟩)
  simp [sz]
end
end L2
namespace L2
open PySem PySem.Spec PyProof.Rows

abbrev ExK := St → Addr → Option Addr → Hp → Prop

def Fr0 (X : Cx) (pins : List (Addr × Obj)) (h0 : Heap) : Prop := (∀ b, h0.get? b = none → X.s₀.heap.get? b = none ∨ b ∈ X.ex) ∧ ∀ p ∈ X.pn ++ pins, h0.get? p.1 = some p.2
theorem Inv.fr0 {X : Cx} {pins : List (Addr × Obj)} {σ : St} {H : Hp} {s : Shared} (I : Inv X pins σ H s) : Fr0 X pins s.heap := by
  refine ⟨fun b hb => ?_, fun p hp => (I.pin p hp).1⟩
  by_cases hx : b ∈ X.ex
  · exact .inr hx
  · refine .inl ?_
    cases q : X.s₀.heap.get? b with
    | none => rfl
    | some o =>
      obtain ⟨o', z⟩ := I.base.there b o q hx
      rw [hb] at z
      cases z

def XF (X : Cx) (pins : List (Addr × Obj)) (Ex : ExK) (e : Value) (s' : Shared) : Prop := ∃ (h0 : Heap) (a C : Addr) (dd : Option Addr) (σ' : St) (H' : Hp), e = .ref a ∧ Inv X pins σ' H' s' ∧ Fly h0 s'.heap H' a C dd ∧ Fr0 X pins h0 ∧ Ex σ' C dd H'
abbrev TX := St → Hp → VK → ExK → Prop

def PEX (X : Cx) (e : Expr) (t : TX) : Prop := ∀ (pins : List (Addr × Obj)) (s : Shared) (σ : St) (H : Hp) (Q : VK) (Ex : ExK), Inv X pins σ H s → t σ H Q Ex → wpAny (model X.prog X.w) X.A (eval e X.env) (EP X pins σ Q) (XF X pins Ex) s
section
variable {X : Cx} {k : Nat} {f C : Addr} {fd : FuncData} {ps : List Str} {sp : Sp} {dvs : List V} {ds : List Value} {x m : Str} {p pos apos : Pos} {e o : Expr} {es : List Expr} {ta : TE} {t : TA}
theorem run_fnX {pins : List (Addr × Obj)} {σ : St} {H : Hp} {s : Shared} {Q : VK} {Ex : ExK} {us : List Value} {vs : List V} (F : FnOk X.prog X.w X.K X.mg X.base (CX1 X.prog X.w) k f fd ps sp) (hr : Room k X.A) (hb : Binds X.K fd ps ds) (hd : Vals dvs ds)
    (I : Inv X pins σ H s) (r : Vals vs us) (h : sp (vs ++ dvs) H Q (fun cls dd H' => ∃ C, cls = .ref C ∧ Ex σ C dd H')) : wpAny (model X.prog X.w) X.A (call (.ref f) us) (EP X pins σ Q) (XF X pins Ex) s := by
  have r2 : Vals (vs ++ dvs) (us ++ ds) := r.append hd
  have hl : (us ++ ds).length = ps.length := by rw [← r2.length]; exact F.len _ _ _ _ h
  refine wpAny_call (codeAny_mono (F.run X.A X.stack s H ⟨us, []⟩ (us ++ ds) (vs ++ dvs) Q _ hr I.env0 (hb s us I.kIn hl) r2 h) fun r s' hq => ?_)
  cases r with
  | error e =>
    obtain ⟨a, C, dd, H2, rfl, hos, hgen, un, hok, fl, C', hC, hE⟩ := hq
    cases hC
    obtain ⟨hh, g, d, t, os'⟩ := s'
    obtain rfl : os' = s.os := hos
    exact ⟨s.heap, a, C, dd, σ, H2, rfl, I.call (h' := hh) (g' := g) (d' := d) (t' := t) (ch := []) un hok hgen (fun b z => absurd z (by simp)), fl, I.fr0, hE⟩
  | ok fl =>
    cases fl with
    | ret u => exact I.after hq
    | next => exact False.elim hq
    | brk => exact False.elim hq
    | cont => exact False.elim hq

def tMethX (C : Addr) (m : Str) (sp : Sp) (dvs : List V) (ta : TE) (t : TA) : TX := fun σ H Q Ex => ta σ H fun x H1 => ∃ a dx fs, x = .ref a ∧ H1 a = some (.ins C dx fs) ∧ fs.lookup m = none ∧
  t σ H1 fun vs H2 => sp (x :: (vs ++ dvs)) H2 Q fun cls dd H' => ∃ C, cls = .ref C ∧ Ex σ C dd H'
theorem pex_meth {pl : Sem Bool} (he : PE X.nox o ta) (c : Cls X.K C) (hm : Meth X.K C m f) (F : FnOk X.prog X.w X.K X.mg X.base (CX1 X.prog X.w) k f fd ps sp) (hr : Room k X.A) (hb : Binds X.K fd ps ds) (hd : Vals dvs ds) (ha : PA X.nox (e :: es) t)
    (hst : starEach (e :: es) X.env = (false, eval e X.env) :: starEach es X.env := by rfl) (hpl : (backTo pos (starEach es X.env)).any (·.1) = false := by rfl)
    (ht : eval (.Call (.Attribute o m apos) (e :: es) [] pos) X.env = (do
      let ov ← eval o X.env
      standAt apos.atName
      let (f, first) ← holding [ov] (getMethod ov m pl)
      callWith pos f first (backTo pos (starEach (e :: es) X.env)) (backToKw pos (keywordEach [] X.env))) := by rfl) :
    PEX X (.Call (.Attribute o m apos) (e :: es) [] pos) (tMethX C m sp dvs ta t) := by
  intro pins s σ H Q Ex I h
  refine PySem.W.methodCall_KW (pl := pl) (wpAny_mono (he pins s σ H _ (I.wish _) h) (fun u s1 ⟨x, H1, I1, rx, a, dx, fs, ex, ea, l, q⟩ => ?_) fun _ _ z => z.elim) ht
  subst ex
  obtain rfl : u = Value.ref a := rx
  refine getmeth_ok I1.unwish ea c hm l ?_
  refine PySem.W.callWith_K (first := [.ref a]) (h₀ := X.base) I.ok.mod.kin hm.kp (wpAny_mono (ha pos pins s1 σ H1 _ I1 q) (fun us s2 ⟨vs, H2, I2, r, q2⟩ => ⟨I2.kIn, ?_⟩) fun _ _ z => z.elim) hst hpl
  exact run_fnX (us := .ref a :: us) (vs := .ref a :: vs) F hr hb hd I2.unwish (.cons rfl r) q2
abbrev TSX := Ends → St → Hp → ExK → Prop
def PSX (X : Cx) (st : Stmt) (t : TSX) : Prop := ∀ (pins : List (Addr × Obj)) (s : Shared) (σ : St) (H : Hp) (D : Ends) (Ex : ExK), Inv X pins σ H s → t D σ H Ex → wpAny (model X.prog X.w) X.A (exec st X.env) (SP X pins D) (XF X pins Ex) s
def PSsX (X : Cx) (st : List Stmt) (t : TSX) : Prop := ∀ (pins : List (Addr × Obj)) (s : Shared) (σ : St) (H : Hp) (D : Ends) (Ex : ExK), Inv X pins σ H s → t D σ H Ex → wpAny (model X.prog X.w) X.A (execs st X.env) (SP X pins D) (XF X pins Ex) s
def tDropX (t : TX) : TSX := fun D σ H Ex => t σ H (fun _ H1 => D.nx σ H1) Ex
theorem psx_expr {te : TX} (he : PEX X e te) (hs : swapsWith e none pos.line X.env = pure false := by rfl) : PSX X (.Expr e pos) (tDropX te) := by
  intro pins s σ H D Ex I h
  exact wpAny_Expr_any (thn (he pins s σ H _ Ex I h) fun v s1 ⟨x, H1, I1, r1, q1⟩ => ⟨σ, H1, I1, q1⟩) I.quiet hs
theorem pssx_one {st : Stmt} {t : TSX} (h : PSX X st t) : PSsX X [st] t := by
  intro pins s σ H D Ex I hw
  refine wpAny_execs_cons (thn (h pins s σ H D Ex I hw) fun f s1 q => ?_)
  cases f with
  | next => exact wpAny_execs_nil q
  | brk => exact q
  | cont => exact q
  | ret u => exact q
end
end L2
namespace L2
open PySem PySem.Spec PyProof.Rows
section
variable {X : Cx} {pins : List (Addr × Obj)} {σ : St} {H H' : Hp} {s : Shared} {h0 h' : Heap} {ch : List Addr}

theorem Inv.flown {t' : Nat} (I : Inv X pins σ H s) (f : Fr0 X pins h0) (hc : ∀ b ∈ ch, h0.get? b = none ∧ ∃ o vs, s.heap.get? b = some o ∧ o.data = .fields vs)
    (keep : ∀ b o, b ∉ ch → b ∉ frs X.stack → s.heap.get? b = some o → h'.get? b = some o) (slot : ∀ b o, b ∉ ch → s.heap.get? b = some o → ∃ sl, h'.get? b = some { o with slots := sl })
    (free : ∀ b o, b ∉ ch → s.heap.get? b = some o → H b = none → H' b = none) (tups : ∀ b xs, H b = some (.tup xs) → H' b = some (.tup xs)) (frzs : ∀ b o u, H b = some (.frz o u) → H' b = some (.frz o u))
    (tbls : ∀ b ps, H b = some (.tbl ps) → ∃ more, H' b = some (.tbl (ps ++ more))) (hok : HOk X.prog X.w H' h') : Inv X pins σ H' { s with heap := h', toks := t' } := by
  have nL : ∀ b ∈ ch, b ≠ X.env.locals := fun b hb z => by
    obtain ⟨_, o, vs, ho, hd⟩ := hc b hb
    obtain ⟨m, ⟨o', es, ep, ho', hd', _⟩, _⟩ := I.loc
    rw [z, ho'] at ho
    cases ho
    rw [hd'] at hd
    cases hd
  have nC : ∀ b ∈ ch, ∀ x c, X.env.cells.lookup x = some c → c ≠ b := fun b hb x c e z => by
    obtain ⟨_, o, vs, ho, hd⟩ := hc b hb
    obtain ⟨v, o', ho', hd'⟩ := I.cell x c e
    rw [z, ho] at ho'
    cases ho'
    rw [hd] at hd'
    cases hd'
  have nF : ∀ b ∈ ch, b ∉ X.fs := fun b hb z => by
    obtain ⟨_, o, vs, ho, hd⟩ := hc b hb
    obtain ⟨_, o', ho', hn⟩ := I.funs.mem z
    rw [ho] at ho'
    cases ho'
    exact hn vs hd
  have n0 : ∀ b ∈ ch, X.s₀.heap.get? b = none ∨ b ∈ X.ex := fun b hb => f.1 b (hc b hb).1
  have nP : ∀ b ∈ ch, ∀ p ∈ X.pn ++ pins, p.1 ≠ b := fun b hb p hp z => by
    have e := f.2 p hp
    rw [z, (hc b hb).1] at e
    cases e
  have old : ∀ b o, X.s₀.heap.get? b = some o → b ∉ X.ex → b ∉ ch ++ X.ex := fun b o e hx hm => by
    rcases List.mem_append.mp hm with z | z
    · rcases n0 b z with q | q
      · rw [e] at q
        cases q
      · exact hx q
    · exact hx z
  have ok' : Cx.Ok { X with ex := ch ++ X.ex } := ⟨I.ok.mod, I.ok.kind, I.ok.glob, I.ok.blt, I.ok.above, I.ok.inj, I.ok.has, I.ok.cab, I.ok.hd, I.ok.frames, I.ok.stk,
    fun b hb => (List.mem_append.mp hb).elim (fun z => ⟨nL b z, nC b z⟩) (I.ok.exf b), I.ok.bs, I.ok.bsz, fun b o e => old b o (I.ok.bs b o e).1 (I.ok.noex b o e), fun b hb => (List.mem_append.mp hb).elim (nF b) (I.ok.exfs b), I.ok.funs, I.ok.frf⟩
  have I' : Inv { X with ex := ch ++ X.ex } pins σ H s := ⟨ok', I.os, I.bare, ⟨fun b o e n hb hx => I.base.keep b o e n hb fun z => hx (List.mem_append_right _ z), fun b o e n hb hx => I.base.slot b o e n hb fun z => hx (List.mem_append_right _ z),
    fun b o e n hx => I.base.free b o e n fun z => hx (List.mem_append_right _ z), fun b o e hx => I.base.there b o e fun z => hx (List.mem_append_right _ z), I.base.tups, I.base.frzs, I.base.tbls⟩, I.loc, I.cell, I.free, I.freeC, I.pin, I.hok, I.len⟩
  obtain ⟨m, ⟨o, es, ep, ho, r⟩, _⟩ := id I.loc
  obtain ⟨sl, hL⟩ := slot X.env.locals o (fun z => nL _ z rfl) ho
  have J := I'.step (g' := s.gens) (d' := s.drawn) (t' := t') (h' := h') (H' := H') (ch := ch) (fun b hb => ⟨.inl (List.mem_append_left _ hb), nL b hb, nC b hb, nP b hb⟩)
    (fun b o hL hb hc e n => keep b o hc (fun z => (List.mem_cons.mp (I.stkSub b z)).elim hL hb) e) (fun b o _ _ hc e n => slot b o hc e) free (fun b o hc e => (slot b o hc e).elim fun sl z => ⟨_, z⟩) tups frzs tbls (fun m' hm => by
      obtain ⟨o', es', ep', ho', r'⟩ := hm
      rw [ho] at ho'
      cases ho'
      exact ⟨_, es', ep', hL, r'⟩) hok I.bare
  exact ⟨I.ok, J.os, J.bare, ⟨fun b o e n hb hx => J.base.keep b o e n hb (old b o e hx), fun b o e n hb hx => J.base.slot b o e n hb (old b o e hx), fun b o e n hx => J.base.free b o e n (old b o e hx), fun b o e hx => J.base.there b o e (old b o e hx),
    J.base.tups, J.base.frzs, J.base.tbls⟩, J.loc, J.cell, J.free, J.freeC, J.pin, J.hok, J.len⟩

theorem goes_ok {M : Model} {A : Around} {E : Value → Shared → Prop} {i : Nat} {x : Str} {pos : Pos} {Q : Unit → Shared → Prop} (I : Inv X pins σ H s) (hN : X.N.Nodup) (hi : X.N[i]? = some x) (hk : X.env.scope.names.lookup x = some .local)
    (h : ∀ s', Inv X pins (σ.set i none) H s' → Q () s') : wpAny M A (do bindName X.env x .none; unbindBehindTheSuite X.env x pos) Q E s := by
  obtain ⟨m, hn, hl⟩ := id I.loc
  have hcls : (X.env.scope.kind == .class || (X.env.scope.kind == .module && X.env.locals != X.env.globals)) = false := by rw [I.ok.kind]; rfl
  have hiσ : i < σ.length := by rw [I.len]; exact (List.getElem?_eq_some_iff.mp hi).1
  have ne0 : ∀ b o, X.s₀.heap.get? b = some o → b ≠ X.env.locals := fun b o e => Nat.ne_of_lt (Nat.lt_of_lt_of_le (Heap.lt_size e) I.ok.above)
  refine wpAny_nameGoes_keeps hk hn hcls fun h' v hn' hs => ?_
  refine h _ ⟨I.ok, I.os, I.bare, ⟨fun b o e n hb hx => (hs.2 b (ne0 b o e)).trans (I.base.keep b o e n hb hx), fun b o e n hb hx => ?_, I.base.free, fun b o e hx => ?_, I.base.tups, I.base.frzs, I.base.tbls⟩, ⟨_, hn', fun j y w e1 e2 e3 => ?_⟩, fun y c e => ?_, I.free, I.freeC, fun p hp => ?_, fun b u e => ?_, by simpa using I.len⟩
  · obtain ⟨sl, e1⟩ := I.base.slot b o e n hb hx
    exact ⟨sl, (hs.2 b (ne0 b o e)).trans e1⟩
  · obtain ⟨o', e1⟩ := I.base.there b o e hx
    exact ⟨o', (hs.2 b (ne0 b o e)).trans e1⟩
  · by_cases hj : j = i
    · subst hj
      rw [List.getElem?_set_self hiσ] at e2
      cases e2
    · rw [List.getElem?_set_ne (Ne.symm hj)] at e2
      obtain ⟨u', r', q⟩ := hl j y w e1 e2 e3
      refine ⟨u', r', ?_⟩
      rcases q with ⟨k, e⟩ | ⟨k, c, e, z⟩
      · refine .inl ⟨k, ?_⟩
        have : y ≠ x := fun e => hj (nodup_ix hN e1 (e ▸ hi))
        simp [this, e]
      · exact .inr ⟨k, c, e, z.sameBut hs (I.cne y c e)⟩
  · obtain ⟨w', z⟩ := I.cell y c e
    exact ⟨w', z.sameBut hs (I.cne y c e)⟩
  · obtain ⟨e, n, ne, nf, d⟩ := I.pin p hp
    exact ⟨(hs.2 p.1 ne).trans e, n, ne, nf, d⟩
  · refine (I.hok b u e).stay (fun c w' hc q => (hs.2 c ?_).trans q) (fun _ q => q) fun _ _ q => q
    rintro rfl
    rcases hc with rfl | hc
    · rw [I.free] at e
      cases e
    · rw [I.free] at hc
      cases hc
end

def ExcAt (a C : Addr) (dd : Option Addr) (h : Heap) : Prop := ∃ oe vs, h.get? a = some oe ∧ oe.cls = .ref C ∧ oe.dict = dd ∧ oe.data = .fields vs

abbrev Cx.hand (X : Cx) (a : Addr) : Cx := { X with A := X.A.mark (some (.ref a)), calm := false, xe := fun _ _ => False }
section
variable {X : Cx} {pins : List (Addr × Obj)} {σ : St} {H : Hp} {s : Shared} {a : Addr}
theorem Inv.hand (I : Inv X pins σ H s) (a : Addr) : Inv (X.hand a) pins σ H s :=
  ⟨⟨I.ok.mod, I.ok.kind, I.ok.glob, I.ok.blt, I.ok.above, I.ok.inj, I.ok.has, I.ok.cab, fun z => Bool.noConfusion z, I.ok.frames, I.ok.stk, I.ok.exf, I.ok.bs, I.ok.bsz, I.ok.noex, I.ok.exfs, I.ok.funs, I.ok.frf⟩, I.os, I.bare, I.base, I.loc, I.cell, I.free, I.freeC, I.pin, I.hok, I.len⟩
theorem Inv.unhand (ok : X.Ok) (I : Inv (X.hand a) pins σ H s) : Inv X pins σ H s := ⟨ok, I.os, I.bare, I.base, I.loc, I.cell, I.free, I.freeC, I.pin, I.hok, I.len⟩

def takesX (K : PySem.W.Frag) (C : Addr) (D : Value) : Bool := PySem.W.kitCls K (.ref C) D == some true && PySem.W.subIn K D (.type "BaseException") == some true
theorem takes_ok {A : Around} {E : Value → Shared → Prop} {K : PySem.W.Frag} {prog : Program} {w : World} {C : Addr} {dd : Option Addr} {D : Value} {Q : Bool → Shared → Prop} (X : K.In s.heap) (x : ExcAt a C dd s.heap) (hq : takesX K C D = true) (k : Q true s) :
    wpAny (model prog w) A (excMatches (.ref a) D) Q E s := by
  obtain ⟨h, g, d, t, os⟩ := s
  obtain ⟨oe, vs, ge, ce, _, _⟩ := x
  unfold takesX at hq
  rw [Bool.and_eq_true] at hq
  obtain ⟨h1, h2⟩ := hq
  obtain ⟨L3, L5, L1⟩ := PySem.W.kit_cls (M := model prog w) X (beq_iff_eq.mp h1)
  have L2 := PySem.W.looks_subIn (M := model prog w) X (beq_iff_eq.mp h2)
  have L4 : PySem.W.Looks (model prog w) h (typeOf (.ref a)) (.ref C) := ce ▸ (PySem.W.Looks.ld ge).andThen .now
  have L0 : PySem.W.Looks (model prog w) h (isSubtype (.type "type") (.type "tuple")) false := PySem.W.Looks.of_pure tc_notTuple
  have LI : PySem.W.Looks (model prog w) h (isInstance D (.type "tuple")) false := L3.andThen L0
  have LX : PySem.W.Looks (model prog w) h (isExcClass D) true := L5.andThen (by simpa using L2)
  unfold excMatches
  refine wpAny_bind (LI.at ?_)
  simp only [Bool.false_eq_true, if_false]
  refine wpAny_bind (wpAny_pure ?_)
  simp only [List.forIn_cons, List.forIn_nil]
  refine wpAny_bind (wpAny_bind (wpAny_bind (LX.at ?_)))
  simp only [Bool.not_true, Bool.false_eq_true, if_false]
  refine wpAny_pure (wpAny_pure ?_)
  refine wpAny_bind (L4.at ?_)
  refine wpAny_bind (wpAny_bind (wpAny_bind (L1.at ?_)))
  simp only [if_true]
  refine wpAny_pure (wpAny_pure ?_)
  exact wpAny_pure k
end
end L2
namespace L2
open PySem PySem.Spec PyProof.Rows

def Means (X : Cx) (x : Str) (u : Value) : Prop := Gl X x ∧ (x == ("__debug__" : Str)) = false ∧ (X.mg x = some u ∨ X.mg x = none ∧ bootBuiltins x = some u ∧ x ≠ "__name__")
theorem ld_means {X : Cx} {E : Value → Shared → Prop} {pins : List (Addr × Obj)} {s : Shared} {σ : St} {H : Hp} {x : Str} {u : Value} {pos : Pos} {Q : Value → Shared → Prop} (I : Inv X pins σ H s) (m : Means X x u) (h : Q u s) : wpAny (model X.prog X.w) X.A (eval (.Name x pos) X.env) Q E s := by
  obtain ⟨hg, hd, hm | ⟨hm, hv, hn⟩⟩ := m
  · exact ld_glob I hg hm h hd
  · exact ld_blt I hg hm hv h hn hd

def tTry (K : PySem.W.Frag) (i : Nat) (C' : Value) (tb : TSX) (th : Addr → TS) : TS := fun D σ H => tb D σ H fun σ' C dd H' => takesX K C C' = true ∧ ∀ a, H' a = none →
  th a { nx := fun σ'' H'' => D.nx (σ''.set i none) H'', rt := D.rt, bk := fun σ'' H'' => D.bk (σ''.set i none) H'', ct := fun σ'' H'' => D.ct (σ''.set i none) H'' } (σ'.set i (some (.ref a))) (upd H' a (.ext (ExcAt a C dd)))
theorem ps_try {X : Cx} {i : Nat} {x n : Str} {C' : Value} {body suite : List Stmt} {b₀ : Stmt} {tb : TSX} {th : Addr → TS} {np hpos pos : Pos} (hst : X.stack = X.env :: X.outer ∧ X.env.frame = some X.env.locals) (hN : X.N.Nodup) (hi : X.N[i]? = some n)
    (hk : X.env.scope.names.lookup n = some .local) (hm : Means X x C') (hb : PSsX X body tb) (hs : ∀ a, PSs (X.hand a) (b₀ :: suite) (th a)) :
    PS X (.Try body [.ExceptHandler (some (.Name x np)) (some n) (b₀ :: suite) hpos] [] [] pos) (tTry X.K i C' tb th) := by
  intro pins s σ H D I h
  refine wpAny_Try_except (wpAny_mono (hb pins s σ H D _ I h) (fun f s1 q => ?_) fun e s1 q => ?_)
  · cases f with
    | next => exact wpAny_execs_nil q
    | brk => exact q
    | cont => exact q
    | ret u => exact q
  · obtain ⟨h0, a, C, dd, σ', H', rfl, J, ⟨n1, n2, oe, vs, T0, oT, ts, g1, g2, gd, g3, g4, g5, g6, g7, g8, g9, g10⟩, fr0, tk, ht⟩ := q
    refine look_next (base := X.base) (outer := X.outer) (by rw [J.ok.frames, hst.1]) (by rw [← hst.1]; exact J.stack) hst.2 g1 g3 g4 g8 g9 g10 g5 fun h1 h' T o1 o2 lb => ?_
    rw [← hst.1] at lb
    have hTT : T ≠ T0 := fun z => by
      obtain ⟨o, q⟩ := o2
      rw [← z, lb.new] at q
      cases q
    have hT : s1.heap.get? T = none := (o1 T hTT).symm.trans lb.new
    have hTa : T ≠ a := fun z => by
      rw [z, g1] at hT
      cases hT
    have uT : H' T = none := by
      cases q : H' T with
      | none => rfl
      | some o =>
        obtain ⟨ob, z⟩ := (J.hok T o q).there
        rw [hT] at z
        cases z
    obtain ⟨oe', q1, q2, q3, q4⟩ := lb.exc oe vs ((o1 a (Ne.symm g5)).trans g1) g3
    obtain ⟨oT', ts', t1, t2, t3⟩ := lb.tr
    have x2 : ExcAt a C dd h' := ⟨oe', _, q1, q2.trans g2, q3.trans gd, q4⟩
    have hne : ∀ {b : Addr} {o : HO}, H' b = some o → b ≠ a := fun {b o} e z => by
      rw [z, n2] at e
      cases e
    have hne0 : ∀ {b : Addr} {o : HO}, H' b = some o → b ≠ T0 := fun {b o} e z => by
      rw [z, g7] at e
      cases e
    have upK : ∀ b o, H' b = some o → upd H' a (.ext (ExcAt a C dd)) b = some o := fun b o e => (upd_ne (hne e)).trans e
    have J2 : Inv X pins σ' (upd H' a (.ext (ExcAt a C dd))) { s1 with heap := h' } := J.flown (t' := s1.toks) (ch := [a, T0]) fr0
      (fun b hb => by
        rcases List.mem_cons.mp hb with z | z
        · rw [z]; exact ⟨n1, oe, vs, g1, g3⟩
        · rw [List.mem_singleton.mp z]; exact ⟨g6, oT, ts, g8, g9⟩)
      (fun b o hb hf e => lb.keep b o (fun z => hb (by simp [z])) hf ((o1 b fun z => hb (by simp [z])).trans e))
      (fun b o hb e => lb.slot b o (fun z => hb (by simp [z])) ((o1 b fun z => hb (by simp [z])).trans e))
      (fun b o hb e z => (upd_ne fun z => hb (by simp [z])).trans z) (fun b xs e => upK b _ e) (fun b o u e => upK b _ e) (fun b ps e => ⟨#[], by rw [upK b _ e]; simp⟩)
      (fun b o e => by
        by_cases hb : b = a
        · subst hb
          rw [upd_same] at e
          cases e
          exact ⟨x2, ⟨_, q1⟩, fun k1 k2 ⟨o, v, e1, r⟩ k => ⟨o, v, k _ e1, r⟩⟩
        · rw [upd_ne hb] at e
          refine (J.hok b o e).stay (fun c u z hc => ?_) (fun c z => upK c _ z) fun c xs z => upK c _ z
          have hc2 : ∃ o, H' c = some o := z.elim (fun z => ⟨o, by rw [z]; exact e⟩) fun z => ⟨_, z⟩
          obtain ⟨o2, hc2⟩ := hc2
          refine lb.keep c u (hne hc2) (fun hm => ?_) ((o1 c (hne0 hc2)).trans hc)
          have := J.stkFree c hm
          rw [hc2] at this
          cases this)
    refine wpAny_handleBy_cons (codeAny_handlers_test ?_) (by intro q; cases q)
    refine ld_means (X := X.hand a) (J2.hand a) hm (takes_ok J2.kIn x2 tk (codeAny_handlers_suite_as ?_))
    refine flight (s := { s1 with heap := h' }) q1 q4 (by have := (Array.getElem?_eq_some_iff.mp g4).1; simp [this]) t1 t2 t3 fun h'' k1 k2 => ?_
    have J3 : Inv X pins σ' (upd H' a (.ext (ExcAt a C dd))) { s1 with heap := h'' } := J2.flown (t' := s1.toks) (ch := [T]) J.fr0
      (fun b hb => by rw [List.mem_singleton.mp hb]; exact ⟨hT, oT', ts', t1, t2⟩)
      (fun b o hb _ e => (k1 b fun z => hb (by simp [z])).trans e) (fun b o hb e => ⟨o.slots, (k1 b fun z => hb (by simp [z])).trans e⟩) (fun b o _ _ z => z) (fun _ _ z => z) (fun _ _ _ z => z) (fun b ps e => ⟨#[], by rw [e]; simp⟩)
      (fun b o e => by
        refine (J2.hok b o e).stay (fun c u z hc => (k1 c fun q => ?_).trans hc) (fun _ z => z) fun _ _ z => z
        subst q
        have : upd H' a (.ext (ExcAt a C dd)) c = none := (upd_ne hTa).trans uT
        rcases z with z | z
        · rw [z, e] at this
          cases this
        · rw [z] at this
          cases this)
    refine store_ok (X := X.hand a) (J3.hand a) hN hi (.inl hk) (v := .ref a) rfl (fun s4 J4 => ?_) (.inr hk)
    refine wpAny_mono (hs a pins s4 _ _ _ J4 (ht a n2)) (fun f s5 q => ?_) fun _ _ z => z.elim
    cases f with
    | next => obtain ⟨σ5, H5, J5, q5⟩ := q; exact goes_ok (J5.unhand I.ok) hN hi hk fun s6 J6 => ⟨_, _, J6, q5⟩
    | brk => obtain ⟨σ5, H5, J5, q5⟩ := q; exact goes_ok (J5.unhand I.ok) hN hi hk fun s6 J6 => ⟨_, _, J6, q5⟩
    | cont => obtain ⟨σ5, H5, J5, q5⟩ := q; exact goes_ok (J5.unhand I.ok) hN hi hk fun s6 J6 => ⟨_, _, J6, q5⟩
    | ret u => obtain ⟨v, σ5, H5, J5, r5, q5⟩ := q; exact goes_ok (J5.unhand I.ok) hN hi hk fun s6 J6 => ⟨v, _, _, J6, r5, q5⟩
end L2
namespace L2
open PySem PySem.Spec PyProof.Rows

def excGet (K : PySem.W.Frag) (C : Addr) : Bool := PySem.W.findIn K (.ref C) "__getattribute__" == some (some (.builtin "BaseException.__getattribute__")) && PySem.W.findIn K (.ref C) "__getattr__" == some none
  && PySem.W.findIn K (.ref C) "__class__" == some (some (.builtin "object.__class__")) && PySem.W.specialIn K (.builtin "object.__class__") "__get__" == some (some (.builtin "getset_descriptor.__get__"))
  && PySem.W.takesIn K (.builtin "object.__class__") == some true && PySem.W.mroIn K C (.type "object") == some true && PySem.W.mroIn K C (.type "BaseException") == some true && (PySem.W.clsIn K C).isSome
section
variable {prog : Program} {w : World} {A : Around} {E : Value → Shared → Prop} {s : Shared} {K : PySem.W.Frag} {a C : Addr} {ox : Obj} {od : Option Obj}
theorem find_cls (hq : excGet K C = true) : PySem.W.findObj K C od "__class__" = some (.bind (.builtin "getset_descriptor.__get__") (.builtin "object.__class__")) := by
  unfold excGet at hq
  simp only [Bool.and_eq_true, beq_iff_eq] at hq
  obtain ⟨⟨⟨⟨⟨⟨⟨_, _⟩, h3⟩, h4⟩, h5⟩, _⟩, _⟩, h8⟩ := hq
  obtain ⟨cd, hc⟩ := Option.isSome_iff_exists.mp h8
  unfold PySem.W.findObj
  rw [hc, Option.bind_some, h3, Option.bind_some]
  simp [h4, h5]
theorem check_ga {nameV : Value} {Q : Unit → Shared → Prop} (LI : PySem.W.Looks (model prog w) s.heap (isInstance (.ref a) (.type "BaseException")) true) (k : Q () s) : wpAny (model prog w) A (checkBuiltinCall "BaseException.__getattribute__" ⟨[.ref a, nameV], []⟩) Q E s := by
  obtain ⟨hh, g, d, t, os⟩ := s
  have hk : builtinKind "BaseException.__getattribute__" = some .slot := by decide +kernel
  have hsplit : splitId "BaseException.__getattribute__" = some ("BaseException", "__getattribute__") := by decide +kernel
  have ha := F.args_bexc_ga (.ref a) nameV
  simp only [checkBuiltinCall, hk, hsplit]
  refine wpAny_bind (LI.at ?_)
  repeat (first | assumption | wp_step)
theorem ga_body {tk : Tok} {P : Value → Shared → Prop} {g b : Value} (L0 : PySem.W.Looks (model prog w) s.heap (typeOf (.ref a)) (.ref C)) (L3 : PySem.W.Looks (model prog w) s.heap (Builtin.ObjectAttr.find (.ref a) (.ref C) "__class__") (.bind g b)) (h : wpAny (model prog w) A (call g [b, .ref a, .ref C]) P E s) :
    wpAny (model prog w) A (Builtin.«object.__getattribute__» ⟨[.ref a, .str "__class__" tk], []⟩) (fun fin s' => match fin with | .done (.ret v) => P v s' | _ => False) E s := by
  obtain ⟨hh, gg, d, t, os⟩ := s
  unfold Builtin.«object.__getattribute__»
  refine wpAny_bind (wpAny_pure (a := (Value.ref a, [Value.str "__class__" tk])) ?_)
  refine wpAny_bind (wpAny_pure (a := ("__class__" : Str)) ?_)
  refine wpAny_bind (L0.at (wpAny_bind (L3.at ?_)))
  show wpAny _ _ (holding [b] (call g [b, .ref a, .ref C]) >>= ret) _ _ _
  exact wpAny_bind (wpAny_holding (wpAny_mono h (fun v s' z => wpAny_pure z) fun _ _ z => z))
theorem exc_class {Q : Option Value → Shared → Prop} (hq : excGet K C = true) (X : K.In s.heap) (I : PySem.W.InstAt s.heap a ox C od) (h : Q (some (.ref C)) { s with toks := s.toks + 1 }) : wpAny (model prog w) A (getAttr? (.ref a) "__class__") Q E s := by
  have hf := find_cls (od := od) hq
  unfold excGet at hq
  simp only [Bool.and_eq_true, beq_iff_eq] at hq
  obtain ⟨⟨⟨⟨⟨⟨⟨h1, h2⟩, h3⟩, h4⟩, h5⟩, h6⟩, h7⟩, h8⟩ := hq
  obtain ⟨hh, g, d, t, os⟩ := s
  have L0 := I.type (M := model prog w)
  have L1 := PySem.W.looks_findIn (M := model prog w) X h1
  have L2 := PySem.W.looks_findIn (M := model prog w) X h2
  have L3 := PySem.W.looks_find (M := model prog w) X I hf
  have L4 := PySem.W.looks_mroIn (M := model prog w) X h7
  have LI : PySem.W.Looks (model prog w) hh (isInstance (.ref a) (.type "BaseException")) true := L0.andThen L4
  have f3 := F.attr_ValueError.ga.bind (.ref a)
  have hk : builtinKind "BaseException.__getattribute__" = some .slot := by decide +kernel
  have hsplit : splitId "BaseException.__getattribute__" = some ("BaseException", "__getattribute__") := by decide +kernel
  have hx2 : (Value.builtin "BaseException.__getattribute__" == Value.builtin "object.__getattribute__") = false := by decide +kernel
  unfold getAttr? getAttrBy? getAttrBy
  refine wpAny_bind (wpAny_mkText (wpAny_bind (wpAny_attempt (wpAny_holding (wpAny_bind (L0.at (wpAny_bind (L1.at ?_))))))))
  simp only [hx2, Bool.and_false, Bool.false_eq_true, if_false]
  unfold getAttrByItsOwn hookBefore
  simp only [onTheHeap, if_true]
  refine wpAny_bind (L2.at ?_)
  refine wpAny_bind (wpAny_attempt (wpAny_holding ?_))
  unfold callGetattribute boundAndCalled
  simp only [Bool.false_and, Bool.false_eq_true, if_false]
  rw [f3]
  refine wpAny_bind (wpAny_pure ?_)
  refine wpAny_call (codeAny_call_builtin F.attr_ValueError.ga.plain F.entry_bexc_ga (check_ga (s := ⟨hh, g, d, t + 1, os⟩) LI ?_))
  refine wpAny_mono (ga_body (s := ⟨hh, g, d, t + 1, os⟩) (P := fun v s' => v = .ref C ∧ s' = ⟨hh, g, d, t + 1, os⟩) (E := fun _ _ => False) L0 L3 (wpAny_call (PySem.W.class_get (s := ⟨hh, g, d, t + 1, os⟩) (ox := ox) (od := od) X I h6 ⟨rfl, rfl⟩))) (fun fin s' z => ?_) fun _ _ z => z.elim
  rcases fin with (_ | _ | _ | _) | _ <;> first | (obtain ⟨rfl, rfl⟩ := z; exact PySem.W.handed_on rfl (wpAny_pure h)) | exact z.elim

theorem kitx_exc (hq : excGet K C = true) : PySem.W.KitX K (.ref a) (.ref C) (ExcAt a C none) where
  ty := fun _ _ _ ⟨oe, vs, ge, ce, _, _⟩ => ce ▸ (PySem.W.Looks.ld ge).andThen .now
  it := fun _ _ X _ => by
    unfold excGet at hq
    simp only [Bool.and_eq_true, beq_iff_eq] at hq
    have hcD := hq.2
    unfold PySem.W.clsIn at hcD
    split at hcD
    · rename_i c' d' cd' sl' ho
      intro A' Q' E' s' k q
      unfold isType loadHead
      exact wpAny_bind (wpAny_loadPart (k _ _ (X _ _ ho)) (wpAny_pure q))
    · cases hcD
  ne := fun h tp dd its n sl X htp => by
    unfold excGet at hq
    simp only [Bool.and_eq_true, beq_iff_eq] at hq
    have hcD := hq.2
    refine Bool.eq_false_iff.mpr fun q => ?_
    have e : C = tp := Value.ref.inj (beq_iff_eq.mp q)
    subst e
    unfold PySem.W.clsIn at hcD
    split at hcD
    · rename_i c' d' cd' sl' ho
      have z := (X _ _ ho).symm.trans htp
      cases z
    · cases hcD
  ca := fun X ⟨oe, vs, ge, ce, de, da⟩ k => exc_class hq X (ox := oe) (od := none) ⟨ge, ce, by unfold PySem.W.notCls; rw [da], by rw [de]; trivial⟩ k
end

def clsV : V → Value
  | .ref D => .ref D
  | .ty T => .type T
  | _ => .none

def rIsX (K : PySem.W.Frag) : List V → Hp → VK → Prop := fun xs H Q => ∃ a c C b, xs = [.ref a, c] ∧ H a = some (.ext (ExcAt a C none)) ∧ excGet K C = true ∧ PySem.W.kitOne K (.ref C) (clsV c) = some b ∧ Q (.bl b) H
theorem call_isinstX {X : Cx} : CallR X (.builtin "isinstance") (rIsX X.K) := by
  intro pins s σ H xs us Q I r h
  obtain ⟨a, c, C, b, rfl, ha, hq, e, q⟩ := h
  obtain ⟨u, v, rfl, rx, ry⟩ := r.two
  cases (show u = Value.ref a from rx)
  have x : ExcAt a C none s.heap := (show ObjOk X.prog X.w H s.heap a (.ext (ExcAt a C none)) from I.hok a _ ha).1
  have hv : PySem.W.kitOne X.K (.ref C) v = some b := by
    cases c with
    | ref D => cases (show v = Value.ref D from ry); exact e
    | ty T => cases (show v = Value.type T from ry); exact e
    | _ => simp [clsV, PySem.W.kitOne, PySem.W.kitCls] at e
  exact PySem.W.kia_one (kitx_exc hq) I.kIn x hv (fun z => nomatch z) fun tk => ⟨.bl b, H, I.tok tk, rfl, q⟩
end L2
namespace BT

def numI (bs : List Int) : Int := bs.foldl (fun n b => n * 2 + b) 0
def bitsI (n : Int) (w : Nat) : List Int := (List.range w).map fun k => n / 2 ^ (w - 1 - k) % 2
def padN (k : Nat) : Nat := (8 - k % 8) % 8
def pad (bs : List Int) : List Int := bs ++ List.replicate (padN bs.length) 0
def cut8 (P : List Int) (j : Nat) : List Int := (P.drop (8 * j)).take 8
def eightM (bs : List Int) : List Int := (List.range ((pad bs).length / 8)).map fun j => numI (cut8 (pad bs) j)
def readM (nums : List Int) (t w : Nat) : List Int := (List.range w).map fun i => nums.getD ((t + i) / 8) 0 / 2 ^ (7 - (t + i) % 8) % 2
def B01 (bs : List Int) : Prop := ∀ b ∈ bs, b = 0 ∨ b = 1
theorem bits_len (n : Int) (w : Nat) : (bitsI n w).length = w := by simp [bitsI]
theorem bits_01 (n : Int) (w : Nat) : B01 (bitsI n w) := fun b hb => by
  obtain ⟨k, _, rfl⟩ := List.mem_map.mp hb
  omega
theorem B01.append {xs ys : List Int} (h : B01 xs) (k : B01 ys) : B01 (xs ++ ys) := fun b hb => (List.mem_append.mp hb).elim (h b) (k b)
theorem B01.zeros (k : Nat) : B01 (List.replicate k 0) := fun b hb => .inl (List.eq_of_mem_replicate hb)
theorem foldl_from : ∀ (ys : List Int) (a : Int), ys.foldl (fun n b => n * 2 + b) a = a * 2 ^ ys.length + numI ys
  | [], a => by simp [numI]
  | y :: ys, a => by
    have h1 := foldl_from ys (a * 2 + y)
    have h2 := foldl_from ys (0 * 2 + y)
    show ys.foldl (fun n b => n * 2 + b) (a * 2 + y) = a * 2 ^ (ys.length + 1) + ys.foldl (fun n b => n * 2 + b) (0 * 2 + y)
    rw [h1, h2, Int.pow_succ]
    have e1 : (a * 2 + y) * (2 : Int) ^ ys.length = a * (2 ^ ys.length * 2) + y * 2 ^ ys.length := by rw [Int.add_mul, Int.mul_assoc, Int.mul_comm 2]
    have e2 : (0 * 2 + y) * (2 : Int) ^ ys.length = y * 2 ^ ys.length := by simp
    rw [e1, e2]
    omega
theorem num_app (xs ys : List Int) : numI (xs ++ ys) = numI xs * 2 ^ ys.length + numI ys := by
  unfold numI
  rw [List.foldl_append]
  exact foldl_from ys _
theorem num_snoc (xs : List Int) (b : Int) : numI (xs ++ [b]) = numI xs * 2 + b := by
  unfold numI
  rw [List.foldl_append]
  rfl
theorem pow_pos2 (k : Nat) : (0 : Int) < 2 ^ k := Int.pow_pos (by decide)
theorem num_range : ∀ {bs : List Int}, B01 bs → 0 ≤ numI bs ∧ numI bs < 2 ^ bs.length := by
  intro bs h
  induction hl : bs.length generalizing bs with
  | zero =>
    have : bs = [] := List.eq_nil_of_length_eq_zero hl
    subst this
    exact ⟨Int.le_refl _, by decide⟩
  | succ n ih =>
    have hne : bs ≠ [] := fun z => by rw [z] at hl; cases hl
    obtain ⟨xs, b, rfl⟩ : ∃ xs b, bs = xs ++ [b] := ⟨bs.dropLast, bs.getLast hne, (List.dropLast_concat_getLast hne).symm⟩
    rw [List.length_append, List.length_singleton] at hl
    obtain ⟨h1, h2⟩ := ih (bs := xs) (fun c hc => h c (List.mem_append_left _ hc)) (by omega)
    have hb := h b (by simp)
    rw [num_snoc, Int.pow_succ]
    omega
theorem num_zeros (xs : List Int) (z : Nat) : numI (xs ++ List.replicate z 0) = numI xs * 2 ^ z := by
  rw [num_app, List.length_replicate]
  have : numI (List.replicate z 0) = 0 := by
    induction z with
    | zero => rfl
    | succ n ih =>
      rw [List.replicate_succ', num_snoc, ih]
      rfl
  rw [this, Int.add_zero]
theorem num_bit {bs : List Int} (h : B01 bs) {i : Nat} {b : Int} (hi : bs[i]? = some b) : numI bs / 2 ^ (bs.length - 1 - i) % 2 = b := by
  obtain ⟨hlt, he⟩ := List.getElem?_eq_some_iff.mp hi
  have e : bs = (bs.take i ++ [b]) ++ bs.drop (i + 1) := by
    rw [List.append_assoc, List.singleton_append, ← he, ← List.drop_eq_getElem_cons hlt, List.take_append_drop]
  have hy : B01 (bs.drop (i + 1)) := fun c hc => h c (List.mem_of_mem_drop hc)
  obtain ⟨r1, r2⟩ := num_range hy
  have hl : bs.length - 1 - i = (bs.drop (i + 1)).length := by rw [List.length_drop]; omega
  have hb := h b (List.mem_of_getElem? hi)
  rw [hl]
  have en : numI bs = (numI (bs.take i) * 2 + b) * 2 ^ (bs.drop (i + 1)).length + numI (bs.drop (i + 1)) := by
    conv => lhs; rw [e]
    rw [num_app, num_snoc]
  have hp := pow_pos2 (bs.drop (i + 1)).length
  have ed : numI bs / 2 ^ (bs.drop (i + 1)).length = numI (bs.take i) * 2 + b := by
    rw [en, Int.add_comm, Int.add_mul_ediv_right _ _ (by omega), Int.ediv_eq_zero_of_lt r1 r2, Int.zero_add]
  rw [ed]
  omega
theorem pad_len (bs : List Int) : (pad bs).length % 8 = 0 ∧ (pad bs).length < bs.length + 8 ∧ bs.length ≤ (pad bs).length := by
  unfold pad padN
  rw [List.length_append, List.length_replicate]
  omega
theorem eight_len (bs : List Int) : 8 * (eightM bs).length = (pad bs).length := by
  have := (pad_len bs).1
  simp only [eightM, List.length_map, List.length_range]
  omega
theorem B01.pad {bs : List Int} (h : B01 bs) : B01 (pad bs) := h.append (B01.zeros _)

theorem read_eq {bs : List Int} (h : B01 bs) {t w : Nat} (hw : t + w ≤ (pad bs).length) : readM (eightM bs) t w = ((pad bs).drop t).take w := by
  refine List.ext_getElem? fun i => ?_
  by_cases hi : i < w
  · have hp : t + i < (pad bs).length := by omega
    have hpl := (pad_len bs).1
    have hj : (t + i) / 8 < (pad bs).length / 8 := by omega
    have e1 : (eightM bs).getD ((t + i) / 8) 0 = numI (cut8 (pad bs) ((t + i) / 8)) := by
      simp [eightM, List.getD, hj]
    have e2 : (cut8 (pad bs) ((t + i) / 8)).length = 8 := by
      unfold cut8
      rw [List.length_take, List.length_drop]
      omega
    have e3 : (cut8 (pad bs) ((t + i) / 8))[(t + i) % 8]? = some (pad bs)[t + i] := by
      unfold cut8
      rw [List.getElem?_take_of_lt (by omega), List.getElem?_drop]
      have : 8 * ((t + i) / 8) + (t + i) % 8 = t + i := by omega
      rw [this]
      simp [hp]
    have hc : B01 (cut8 (pad bs) ((t + i) / 8)) := fun c hc => h.pad c (List.mem_of_mem_drop (List.mem_of_mem_take hc))
    have e4 := num_bit hc e3
    rw [e2] at e4
    have e5 : (readM (eightM bs) t w)[i]? = some (pad bs)[t + i] := by
      unfold readM
      rw [List.getElem?_map, List.getElem?_range hi, Option.map_some, e1]
      congr 1
    rw [e5, List.getElem?_take_of_lt hi, List.getElem?_drop]
    simp [hp]
  · rw [List.getElem?_eq_none_iff.mpr (by simp [readM]; omega), List.getElem?_eq_none_iff.mpr (by rw [List.length_take]; omega)]
theorem read_num {bs : List Int} (h : B01 bs) {t w : Nat} (hw : t + w ≤ (pad bs).length) : numI (readM (eightM bs) t w) = numI ((bs.drop t).take w) * 2 ^ (t + w - bs.length) := by
  rw [read_eq h hw]
  unfold pad
  by_cases h1 : t + w ≤ bs.length
  · rw [List.drop_append_of_le_length (by omega), List.take_append_of_le_length (by rw [List.length_drop]; omega)]
    have : t + w - bs.length = 0 := by omega
    rw [this]
    simp
  · by_cases h2 : t ≤ bs.length
    · rw [List.drop_append_of_le_length h2, List.take_append, List.length_drop, List.take_replicate, List.take_of_length_le (by rw [List.length_drop]; omega), num_zeros]
      have hl := (pad_len bs).2
      unfold pad at hw
      rw [List.length_append, List.length_replicate] at hw
      have : min (w - (bs.length - t)) (padN bs.length) = t + w - bs.length := by omega
      rw [this]
    · rw [List.drop_append, List.drop_eq_nil_of_le (show bs.length ≤ t by omega), List.nil_append, List.drop_replicate, List.take_replicate]
      have e := num_zeros [] (min w (padN bs.length - (t - bs.length)))
      rw [List.nil_append] at e
      rw [e]
      simp [numI]
end BT

namespace BT
open PySem L2
structure Txt (mg : Str → Option Value) : Prop where
  len : mg "len" = none
  range : mg "range" = none
  tuple : mg "tuple" = none
  isin : mg "isinstance" = none
  list : mg "list" = none
  int : mg "int" = none
  bool : mg "bool" = none
  max : mg "max" = none
  verr : mg "ValueError" = none
theorem lt_line {n : Nat} (h : n ≤ 5000) : n ≤ sizeLine := by rw [sizeLine_eq]; omega
theorem and1 (x : Int) : Builtin.bitAnd x 1 = x % 2 := by
  have h := PySem.W.kbt_mask x 1
  simpa using h
theorem cm2 {i : Int} : CMul i 2 := .inr ⟨by decide, by decide⟩
theorem cmL {j : Int} : CMul 2 j := .inl ⟨by decide, by decide⟩

def spNu : Sp := fun vs H Q _ => ∃ (l : Addr) (bs : List Int), vs = [.ref l] ∧ H l = some (.lst (bs.map V.int)) ∧ Q (.int (numI bs)) H
def spBo : Sp := fun vs H Q _ => ∃ (n : Int) (w : Nat), vs = [.int n, .int (w : Int)] ∧ w ≤ 1000 ∧ ∀ p H', Same H H' → H p = none → H' p = some (.lst ((bitsI n w).map V.int)) → Q (.ref p) H'
section
variable {P : Program} {w : World} {K : PySem.W.Frag} {mg : Str → Option Value} {base : Heap}
theorem scNu : FnScope ["bits", "number", "bit"] ["bits"] (defScope sNu) := ⟨rfl, rfl, rfl, by decide +kernel, rfl, by decide +kernel, by decide +kernel⟩
theorem ok_nu {f : Addr} {fd : FuncData} (F : Fun K "number_of" "number_of" sNu f fd) : FnOk P w K mg base CX0 1 f fd ["bits"] spNu := by
  refine F.ok scNu (fun vs H Q E h => ?_) (fun cdv A outer s H vs Q E hr h => ?_)
  · obtain ⟨l, bs, rfl, _⟩ := h
    rfl
  · obtain ⟨l, bs, rfl, hl, k⟩ := h
    refine ⟨_, pss_cons (ps_set (i := 1) scNu.nd rfl (Or.inl rfl) pe_int)
      (pss_cons (ps_for PassesOwn.never rfl (pi_list (pv 0)) (pg_name (i := 2) scNu.nd rfl (Or.inl rfl)) (pss_one (ps_set (i := 1) scNu.nd rfl (Or.inl rfl) (pe_op op_add (pe_op op_mul (pv 1) pe_int) (pv 2)))))
      (pss_one (ps_ret (pv 1)))), ?_⟩
    refine ⟨_, rfl, l, rfl, ⟨_, SqL.of hl⟩, ?_⟩
    refine for_list (K := K) (a := l) (xs := bs.map V.int) (fun i σ H' => ∃ v2, σ = [some (.ref l), some (.int (numI (bs.take i))), v2] ∧ H' = H) ⟨none, rfl, rfl⟩ (fun i σ H' _ ⟨_, _, e⟩ => by rw [e]; exact SqL.of hl) ?_ ?_
    · rintro i x σ H' hx ⟨v2, rfl, rfl⟩
      rw [List.getElem?_map] at hx
      cases e : bs[i]? with
      | none => rw [e] at hx; cases hx
      | some b =>
        rw [e] at hx
        cases hx
        refine ⟨_, rfl, _, _, rfl, rfl, cm2, _, rfl, _, _, rfl, rfl, some (V.int b), ?_, rfl⟩
        rw [List.take_add_one, e]
        show _ = [some (V.ref l), some (V.int (numI (bs.take i ++ [b]))), _]
        rw [num_snoc]
        rfl
    · rintro σ H' ⟨v2, rfl, rfl⟩
      rw [List.length_map, List.take_of_length_le (Nat.le_refl _)]
      exact ⟨_, rfl, k⟩
theorem scBo : FnScope ["number", "wide"] ["number", "wide"] (defScope sBo) := ⟨rfl, rfl, rfl, by decide +kernel, rfl, by decide +kernel, by decide +kernel⟩
def scopeBo : Scope := { kind := .function, names := [(".0", .local), ("place", .local), ("number", .free)], isGenerator := false, isCoroutine := false, more := [] }
theorem scBoC : BlkScope (defScope sBo) ["number", "wide"] ["place"] ["number"] [0] scopeBo := ⟨rfl, by decide +kernel, by decide +kernel, by decide +kernel, rfl, by decide +kernel, by decide +kernel⟩
theorem bits_take {n : Int} {w i : Nat} (h : i < w) : (bitsI n w).take (i + 1) = (bitsI n w).take i ++ [n / 2 ^ (w - 1 - i) % 2] := by
  rw [List.take_add_one]
  unfold bitsI
  rw [List.getElem?_map, List.getElem?_range h]
  rfl
theorem ok_bo {f : Addr} {fd : FuncData} (F : Fun K "bits_of" "bits_of" sBo f fd) (T : Txt mg) : FnOk P w K mg base CX0 1 f fd ["number", "wide"] spBo := by
  refine F.ok scBo (fun vs H Q E h => ?_) (fun cdv A outer s H vs Q E hr h => ?_)
  · obtain ⟨n, w, rfl, _⟩ := h
    rfl
  · obtain ⟨n, w, rfl, hw, k⟩ := h
    refine ⟨_, pss_one (ps_ret (pe_lc scBoC rfl rfl rfl (pi_rangeD rfl T.range (pa_cons (pe_op op_sub (pv 1) pe_int) (pa_cons (pe_un un_neg pe_int) (pa_cons (pe_un un_neg pe_int) pa_nil)))) (fun fp C s1 H1 => pg_name (i := 0) scBoC.nd rfl (Or.inl rfl)) (fun fp C s1 H1 => pts_nil)
      (fun fp C s1 H1 => pe_op op_and (pe_op op_shr (pv 1) (pv 0)) pe_int))), ?_⟩
    refine ⟨_, rfl, _, _, rfl, rfl, _, rfl, _, rfl, _, _, rfl, ⟨by omega, by omega, by decide, by decide⟩, fun D hD => ?_⟩
    have en : ((w : Int) - 1 - -1).toNat = w := by omega
    rw [en]
    refine lc_down (n := w) (fun i ys H7 => Same H H7 ∧ H7 D = some (.lst ys) ∧ ys = ((bitsI n w).take i).map V.int) (lt_line (by omega)) ⟨(Same.refl H).upd_free hD, upd_same, by rw [List.take_zero]; rfl⟩
      (fun i ys H7 h => by rw [h.2.2, List.length_map, List.length_take]; omega) ?_ ?_
    · rintro i ys H7 N M hi ⟨u1, u2, rfl⟩ hN hM
      refine ⟨_, rfl, _, rfl, _, _, rfl, rfl, (by show (0 : Int) ≤ (w : Int) - 1 - (i : Int); omega), _, _, rfl, rfl, ?_⟩
      refine hN _ H7 u2 ⟨u1.upd_free hD, upd_same, ?_⟩
      rw [bits_take hi, List.map_append]
      have e : ((w : Int) - 1 - (i : Int)).toNat = w - 1 - i := by omega
      show _ ++ [V.int (Builtin.bitAnd (n / 2 ^ ((w : Int) - 1 - (i : Int)).toNat) 1)] = _ ++ [V.int (n / 2 ^ (w - 1 - i) % 2)]
      rw [and1, e]
    · rintro ys H7 ⟨u1, u2, rfl⟩
      rw [List.take_of_length_le (by rw [bits_len]; exact Nat.le_refl _)] at u2
      exact k D H7 u1 hD u2
end
end BT
namespace BT
open PySem L2
def Kp (H H' : Hp) (p : Addr) : Prop := ∀ b o, H b = some o → b ≠ p → H' b = some o
structure WrK (K : PySem.W.Frag) (C : Addr) : Prop where
  cls : Cls K C
  nL : NoAttr K C "laid"
def WrAt (C : Addr) (H : Hp) (wr l : Addr) (bs : List Int) : Prop := ∃ (dx : Addr) (fs : List (Str × V)), H wr = some (.ins C dx fs) ∧ fs.lookup ("laid" : Str) = some (.ref l) ∧ fs.lookup ("put" : Str) = none ∧ fs.lookup ("told" : Str) = none ∧ H l = some (.lst (bs.map V.int))
def spWi (C : Addr) : Sp := fun vs H Q _ => ∃ (p dx : Addr), vs = [.ref p] ∧ H p = some (.ins C dx []) ∧ ∀ l H', H l = none → l ≠ p → WrAt C H' p l [] → Kp H H' p → Q .non H'
def spWp (C : Addr) : Sp := fun vs H Q _ => ∃ (wr l : Addr) (bs : List Int) (n : Int) (w : Nat), vs = [.ref wr, .int n, .int (w : Int)] ∧ WrAt C H wr l bs ∧ w ≤ 31 ∧ bs.length ≤ 3000 ∧ ∀ H', Kp H H' l → H' l = some (.lst ((bs ++ bitsI n w).map V.int)) → Q .non H'
def spWt (C : Addr) : Sp := fun vs H Q _ => ∃ (wr l : Addr) (bs : List Int), vs = [.ref wr] ∧ WrAt C H wr l bs ∧ bs.length ≤ 3000 ∧ ∀ p H', Same H H' → H' p = some (.tup ((eightM bs).map V.int)) → Q (.ref p) H'
def spPu : Sp := fun vs H Q _ => ∃ (l : Addr) (bs : List Int) (n : Int) (w : Nat), vs = [.ref l, .int n, .int (w : Int)] ∧ H l = some (.lst (bs.map V.int)) ∧ w ≤ 31 ∧ bs.length ≤ 3000 ∧ ∀ H', Kp H H' l → H' l = some (.lst ((bs ++ bitsI n w).map V.int)) → Q (.ref l) H'
section
variable {P : Program} {w : World} {K : PySem.W.Frag} {mg : Str → Option Value} {base : Heap} {C : Addr} {u8 : Value}
theorem scWi : FnScope ["self"] ["self"] (defScope sWi) := ⟨rfl, rfl, rfl, by decide +kernel, rfl, by decide +kernel, by decide +kernel⟩
theorem ok_wi {f : Addr} {fd : FuncData} (F : Fun K "__init__" "Writer.__init__" sWi f fd) (Y : WrK K C) : FnOk P w K mg base CX0 1 f fd ["self"] (spWi C) := by
  refine F.ok scWi (fun vs H Q E h => ?_) (fun cdv A outer s H vs Q E hr h => ?_)
  · obtain ⟨p, dx, rfl, _⟩ := h
    rfl
  · obtain ⟨p, dx, rfl, hp, k⟩ := h
    refine ⟨_, pss_one (ps_fld (pv 0) (pe_lst pa_nil) rfl), ?_⟩
    refine ⟨(by show 0 ≤ sizeLine; decide), fun l hl => ?_⟩
    have nl : p ≠ l := ne_of_none hp hl
    refine ⟨_, rfl, p, _, dx, _, rfl, (by rw [upd_ne nl]; exact hp), Y.cls, Y.nL, (by show 0 < 1000; decide), ?_⟩
    refine k l _ hl (Ne.symm nl) ⟨dx, _, upd_same, by rw [lookup_putF, if_pos rfl], by rw [lookup_putF, if_neg (by decide +kernel)]; rfl, by rw [lookup_putF, if_neg (by decide +kernel)]; rfl, by rw [upd_ne (Ne.symm nl), upd_same]; rfl⟩ fun b o e n => ?_
    rw [upd_ne n, upd_ne (ne_of_none e hl)]
    exact e
theorem scWp : FnScope ["self", "number", "wide"] ["self", "number", "wide"] (defScope sWp) := ⟨rfl, rfl, rfl, by decide +kernel, rfl, by decide +kernel, by decide +kernel⟩
theorem ok_wp {f fB : Addr} {fd dB : FuncData} (F : Fun K "put" "Writer.put" sWp f fd) (T : Txt mg) (Y : WrK K C) (FB : Fun K "bits_of" "bits_of" sBo fB dB) (bB : Binds K dB ["number", "wide"] []) (gB : mg "bits_of" = some (.ref fB)) : FnOk P w K mg base CX0 2 f fd ["self", "number", "wide"] (spWp C) := by
  have GB : FnOk P w K mg base CX0 1 fB dB ["number", "wide"] spBo := ok_bo FB T
  refine F.ok scWp (fun vs H Q E h => ?_) (fun cdv A outer s H vs Q E hr h => ?_)
  · obtain ⟨wr, l, bs, n, w, rfl, _⟩ := h
    rfl
  · obtain ⟨wr, l, bs, n, w, rfl, ⟨dx, fs, hw, h1, h2, h3, hl⟩, h31, h3k, k⟩ := h
    refine ⟨_, pss_one (ps_expr (pe_bm PySem.F.plainAttrs_list PySem.F.slot_list_extend PySem.F.type_list_extend mt_extend (pe_fld (pv 0) rfl) (pa_cons (pe_call GB hr rfl gB FB.kp bB .nil pass0 (pa_cons (pv 1) (pa_cons (pv 2) pa_nil))) pa_nil))), ?_⟩
    refine ⟨_, rfl, wr, _, dx, _, _, rfl, hw, Y.cls, Y.nL, h1, .inl ⟨rfl, _, SqL.of hl⟩, _, rfl, _, rfl, n, w, rfl, by omega, fun p H1 s1 hp hp1 => ?_⟩
    refine ⟨l, p, _, _, rfl, rfl, s1 _ _ hl, hp1, lt_line (by rw [List.length_map, List.length_map, bits_len]; omega), k _ (fun b o e n => ?_) ?_⟩
    · rw [upd_ne n]
      exact s1 _ _ e
    · rw [upd_same, List.map_append]
theorem scPu : FnScope ["_law_bits", "_law_number_here", "_law_wide"] ["_law_bits", "_law_number_here", "_law_wide"] (defScope sPu) := ⟨rfl, rfl, rfl, by decide +kernel, rfl, by decide +kernel, by decide +kernel⟩
def scopePu : Scope := { kind := .function, names := [(".0", .local), ("_law_k", .local), ("_law_number_here", .free), ("_law_wide", .free)], isGenerator := false, isCoroutine := false, more := [] }
theorem scPuC : BlkScope (defScope sPu) ["_law_bits", "_law_number_here", "_law_wide"] ["_law_k"] ["_law_number_here", "_law_wide"] [1, 2] scopePu := ⟨rfl, by decide +kernel, by decide +kernel, by decide +kernel, rfl, by decide +kernel, by decide +kernel⟩
theorem ok_pu {f : Addr} {fd : FuncData} (F : Fun K "_law_put" "_law_put" sPu f fd) (T : Txt mg) : FnOk P w K mg base CX0 1 f fd ["_law_bits", "_law_number_here", "_law_wide"] spPu := by
  refine F.ok scPu (fun vs H Q E h => ?_) (fun cdv A outer s H vs Q E hr h => ?_)
  · obtain ⟨l, bs, n, w, rfl, _⟩ := h
    rfl
  · obtain ⟨l, bs, n, w, rfl, hl, h31, h3k, k⟩ := h
    refine ⟨_, pss_cons (ps_expr (pe_bm PySem.F.plainAttrs_list PySem.F.slot_list_extend PySem.F.type_list_extend mt_extend (pv 0) (pa_cons (pe_lc scPuC rfl rfl rfl (pi_range1 rfl T.range (pa_cons (pv 2) pa_nil)) (fun fp C s1 H1 => pg_name (i := 0) scPuC.nd rfl (Or.inl rfl)) (fun fp C s1 H1 => pts_nil)
      (fun fp C s1 H1 => pe_op op_and (pe_op op_shr (pv 1) (pe_op op_sub (pe_op op_sub (pv 2) pe_int) (pv 0))) pe_int)) pa_nil))) (pss_one (ps_ret (pv 0))), ?_⟩
    refine ⟨_, rfl, .inl ⟨rfl, _, SqL.of hl⟩, _, rfl, _, rfl, by omega, by omega, fun D hD => ?_⟩
    have en : ((w : Int)).toNat = w := by omega
    rw [en]
    refine lc_range (lo := 0) (n := w) (fun i ys H7 => Same H H7 ∧ H7 D = some (.lst ys) ∧ ys = ((bitsI n w).take i).map V.int) (lt_line (by omega)) ⟨(Same.refl H).upd_free hD, upd_same, by rw [List.take_zero]; rfl⟩
      (fun i ys H7 h => by rw [h.2.2, List.length_map, List.length_take]; omega) ?_ ?_
    · rintro i ys H7 N M hi ⟨u1, u2, rfl⟩ hN hM
      refine ⟨_, rfl, _, rfl, _, _, rfl, rfl, _, rfl, _, _, rfl, rfl, _, _, rfl, rfl, (by show (0 : Int) ≤ (w : Int) - 1 - (0 + (i : Int)); omega), _, _, rfl, rfl, ?_⟩
      refine hN _ H7 u2 ⟨u1.upd_free hD, upd_same, ?_⟩
      rw [bits_take hi, List.map_append]
      have e : ((w : Int) - 1 - (0 + (i : Int))).toNat = w - 1 - i := by omega
      show _ ++ [V.int (Builtin.bitAnd (n / 2 ^ ((w : Int) - 1 - (0 + (i : Int))).toNat) 1)] = _ ++ [V.int (n / 2 ^ (w - 1 - i) % 2)]
      rw [and1, e]
    · rintro ys H7 ⟨u1, u2, rfl⟩
      rw [List.take_of_length_le (by rw [bits_len]; exact Nat.le_refl _)] at u2
      refine ⟨l, D, _, _, rfl, rfl, u1 _ _ hl, u2, lt_line (by rw [List.length_map, List.length_map, bits_len]; omega), ?_⟩
      refine ⟨_, rfl, k _ (fun b o e n => ?_) ?_⟩
      · rw [upd_ne n]
        exact u1 _ _ e
      · rw [upd_same, List.map_append]

theorem pad_int {n : Nat} : (-(n : Int)) % 8 = (padN n : Int) := by
  unfold padN
  omega
theorem rep0 (k : Nat) : (List.replicate k [V.int 0]).flatten = (List.replicate k (0 : Int)).map V.int := by
  induction k with
  | zero => rfl
  | succ k ih =>
    rw [List.replicate_succ, List.replicate_succ, List.flatten_cons, ih]
    rfl
theorem cut8_V (xs : List Int) (j : Nat) (h : 8 * j + 8 ≤ xs.length) : cutV (xs.map V.int) (some (0 + (j : Int) * 8)) (some (0 + (j : Int) * 8 + 8)) = (cut8 xs j).map V.int := by
  have e1 : (0 + (j : Int) * 8) = ((8 * j : Nat) : Int) := by omega
  have e2 : (((8 * j : Nat) : Int) + 8) = ((8 * j + 8 : Nat) : Int) := by omega
  rw [e1, e2]
  unfold cutV cut8
  rw [HT.sIx_nat, HT.sIx_nat, List.length_map, Nat.min_eq_left (by omega), Nat.min_eq_left (by omega), List.map_take, List.map_drop]
  congr 1
  omega
theorem step8 {n : Nat} (h : n % 8 = 0) : stepN 0 (n : Int) 8 = n / 8 := by
  unfold stepN
  split <;> omega
theorem eight_take {bs : List Int} {i : Nat} (h : i < (pad bs).length / 8) : (eightM bs).take (i + 1) = (eightM bs).take i ++ [numI (cut8 (pad bs) i)] := by
  rw [List.take_add_one]
  unfold eightM
  rw [List.getElem?_map, List.getElem?_range h]
  rfl
theorem scWt : FnScope ["self", "filled"] ["self"] (defScope sWt) := ⟨rfl, rfl, rfl, by decide +kernel, rfl, by decide +kernel, by decide +kernel⟩
def scopeWt : Scope := { kind := .function, names := [(".0", .local), ("start", .local), ("number_of", .globalImplicit), ("WIDE", .globalImplicit), ("filled", .free)], isGenerator := false, isCoroutine := false, more := [] }
theorem scWtC : BlkScope (defScope sWt) ["self", "filled"] ["start"] ["filled"] [1] scopeWt := ⟨rfl, by decide +kernel, by decide +kernel, by decide +kernel, rfl, by decide +kernel, by decide +kernel⟩
theorem ok_wt {f fN : Addr} {fd dN : FuncData} (F : Fun K "told" "Writer.told" sWt f fd) (T : Txt mg) (g8 : mg "WIDE" = some u8) (r8 : RelV (.int 8) u8) (Y : WrK K C) (FN : Fun K "number_of" "number_of" sNu fN dN) (bN : Binds K dN ["bits"] []) (gN : mg "number_of" = some (.ref fN)) :
    FnOk P w K mg base CX0 2 f fd ["self"] (spWt C) := by
  have GN : FnOk P w K mg base CX0 1 fN dN ["bits"] spNu := ok_nu FN
  refine F.ok scWt (fun vs H Q E h => ?_) (fun cdv A outer s H vs Q E hr h => ?_)
  · obtain ⟨wr, l, bs, rfl, _⟩ := h
    rfl
  · obtain ⟨wr, l, bs, rfl, ⟨dx, fs, hw, h1, h2, h3, hl⟩, h3k, k⟩ := h
    refine ⟨_, pss_cons (ps_set (i := 1) scWt.nd rfl (Or.inr rfl) (pe_op op_catL (pe_fld (pv 0) rfl) (pe_op op_rep (pe_lst (pa_cons pe_int pa_nil)) (pe_op op_mod (pe_un un_neg (pe_callB call_len_seq (by rfl) T.len PySem.boot_len (pa_cons (pe_fld (pv 0) rfl) pa_nil))) (pe_glob (v := .int 8) (by rfl) g8 r8)))))
      (pss_one (ps_ret (pe_callTy call_tuple_of (by rfl) T.tuple PyProof.Rows.boot_tuple (pa_cons (pe_lc scWtC rfl rfl rfl (pi_rangeS rfl T.range (pa_cons pe_int (pa_cons (pe_callB call_len_seq (by rfl) T.len PySem.boot_len (pa_cons (pv 1) pa_nil)) (pa_cons (pe_glob (v := .int 8) (by rfl) g8 r8) pa_nil)))) (fun fp C s1 H1 => pg_name (i := 0) scWtC.nd rfl (Or.inl rfl)) (fun fp C s1 H1 => pts_nil)
        (fun fp C s1 H1 => pe_call GN hr rfl gN FN.kp bN .nil pass0 (pa_cons (pe_slice (r := rSlL K) sl_list (pv 1) (po_some (pv 0)) (po_some (pe_op op_add (pv 0) (pe_glob (v := .int 8) (by rfl) g8 r8)))) pa_nil))) pa_nil)))), ?_⟩
    refine ⟨_, rfl, wr, _, dx, _, _, rfl, hw, Y.cls, Y.nL, h1, (by show 1 ≤ sizeLine; decide), fun z hz => ?_⟩
    have s1 := (Same.refl H).upd_free (o := .lst [V.int 0]) hz
    have g1 : upd H z (.lst [V.int 0]) z = some (.lst [V.int 0]) := upd_same
    generalize upd H z (.lst [V.int 0]) = H1 at s1 g1
    refine ⟨_, rfl, wr, _, dx, _, _, rfl, s1 _ _ hw, Y.cls, Y.nL, h1, l, _, rfl, .inl (SqL.of (s1 _ _ hl)), _, rfl, _, _, rfl, rfl, (by show (0 : Int) < 8; decide), ?_⟩
    have ep : -(((bs.map V.int).length : Nat) : Int) % 8 = (padN bs.length : Int) := by rw [List.length_map]; exact pad_int
    have hp8 : padN bs.length < 8 := by unfold padN; omega
    refine ⟨z, _, _, rfl, rfl, g1, (by rw [ep]; omega), (by rw [ep]; omega), ?_, fun y hy => ?_⟩
    · rw [ep]
      exact lt_line (by show 1 * ((padN bs.length : Nat) : Int).toNat ≤ 5000; omega)
    rw [ep, Int.toNat_natCast, rep0] at *
    have s2 := (Same.refl H1).upd_free (o := .lst ((List.replicate (padN bs.length) (0 : Int)).map V.int)) hy
    have g2 : upd H1 y (.lst ((List.replicate (padN bs.length) (0 : Int)).map V.int)) y = some (.lst ((List.replicate (padN bs.length) (0 : Int)).map V.int)) := upd_same
    generalize upd H1 y (.lst ((List.replicate (padN bs.length) (0 : Int)).map V.int)) = H2 at s2 g2
    have t2 := s1.trans s2
    refine ⟨l, y, _, _, rfl, rfl, SqL.of (t2 _ _ hl), SqL.of g2, lt_line (by rw [List.length_map, List.length_map, List.length_replicate]; omega), fun q hq => ?_⟩
    rw [← List.map_append]
    have s3 := (Same.refl H2).upd_free (o := .lst ((pad bs).map V.int)) hq
    have g3 : upd H2 q (.lst ((pad bs).map V.int)) q = some (.lst ((pad bs).map V.int)) := upd_same
    rw [show bs ++ List.replicate (padN bs.length) 0 = pad bs from rfl]
    generalize upd H2 q (.lst ((pad bs).map V.int)) = H3 at s3 g3
    have t3 := t2.trans s3
    obtain ⟨m8, mlt, mge⟩ := pad_len bs
    have hml : ((pad bs).map V.int).length = (pad bs).length := List.length_map ..
    refine ⟨_, rfl, q, _, rfl, .inl (SqL.of g3), _, _, _, rfl, by decide, by decide, ⟨by decide, by decide, by omega, by omega⟩, fun D hD => ?_⟩
    rw [hml, step8 m8]
    refine lc_step (lo := 0) (c := 8) (n := (pad bs).length / 8) (fun i ys H7 => Same H3 H7 ∧ H7 D = some (.lst ys) ∧ ys = ((eightM bs).take i).map V.int) (lt_line (by omega)) ⟨(Same.refl H3).upd_free hD, upd_same, by rw [List.take_zero]; rfl⟩
      (fun i ys H7 h => by rw [h.2.2, List.length_map, List.length_take]; omega) ?_ ?_
    · rintro i ys H7 N M hi ⟨u1, u2, rfl⟩ hN hM
      refine ⟨_, rfl, _, rfl, _, rfl, _, rfl, _, _, rfl, rfl, _, rfl, q, _, rfl, SqL.of (u1 _ _ g3), fun p hp => ?_⟩
      rw [cut8_V _ _ (by omega)]
      have s7 := (Same.refl H7).upd_free (o := .lst ((cut8 (pad bs) i).map V.int)) hp
      refine ⟨p, _, rfl, upd_same, hN _ _ (s7 _ _ u2) ⟨(u1.trans s7).upd_free hD, upd_same, ?_⟩⟩
      rw [eight_take hi, List.map_append]
      rfl
    · rintro ys H7 ⟨u1, u2, rfl⟩
      have hel := eight_len bs
      rw [List.take_of_length_le (by omega)] at u2
      refine ⟨D, _, rfl, .inl ⟨SqL.of u2, fun p hp => ?_⟩⟩
      exact k p _ ((t3.trans u1).trans ((Same.refl H7).upd_free hp)) upd_same
end
end BT
namespace L2
open PySem PySem.Spec PyProof.Rows
theorem call_rng2 {X : Cx} : CallR X (.type "range") (fun xs H Q => ∃ i j : Int, xs = [.int i, .int j] ∧ ∀ a, H a = none → Q (.ref a) (upd H a (.rng i j))) := by
  intro pins s σ H xs us Q I r h
  obtain ⟨i, j, rfl, q⟩ := h
  obtain ⟨u, v, rfl, rx, ry⟩ := r.two
  obtain ⟨t, rfl⟩ := rx
  obtain ⟨t', rfl⟩ := ry
  refine call_range_2 ⟨.ref s.heap.objs.size, _, I.laid (t' := s.toks + 1) (o := .rng i j) (fun b o e => Heap.get?_push_of_some _ e) (Nat.le_refl _) ⟨_, _, _, Heap.get?_push_size _ rfl⟩, rfl, q _ (I.hok.fresh (Nat.le_refl _))⟩
theorem pe_fldB {X : Cx} {K : PySem.W.Frag} {e : Expr} {ta : TE} {f : Str} {pos : Pos} (hK : X.K = K) (he : PE X e ta) (hb : attributeBase e f X.env (eval e X.env) = eval e X.env) : PE X (.Attribute e f pos) (tFld K ta f) := by
  subst hK
  exact pe_fld he hb
end L2
namespace BT
open PySem L2
abbrev bmV : List Value := [.type "ValueError", .type "Exception", .type "BaseException", .type "object"]
structure RdK (K : PySem.W.Frag) (C : Addr) : Prop where
  cls : Cls K C
  nN : NoAttr K C "numbers"
  nT : NoAttr K C "taken"
structure RFs (fs : List (Str × V)) (nt : Addr) (t : Nat) : Prop where
  n : fs.lookup ("numbers" : Str) = some (.ref nt)
  t : fs.lookup ("taken" : Str) = some (.int (t : Int))
  b : fs.lookup ("bits" : Str) = none
  l : fs.lookup ("left" : Str) = none
  few : fs.length ≤ 2
def RdAt (C : Addr) (H : Hp) (rd nt : Addr) (t : Nat) (ns : List Int) : Prop := ∃ (dx : Addr) (fs : List (Str × V)), H rd = some (.ins C dx fs) ∧ RFs fs nt t ∧ H nt = some (.tup (ns.map V.int))
def spRi (C : Addr) : Sp := fun vs H Q _ => ∃ (p dx nt : Addr) (ns : List Int), vs = [.ref p, .ref nt] ∧ H p = some (.ins C dx []) ∧ H nt = some (.tup (ns.map V.int)) ∧ ∀ H', RdAt C H' p nt 0 ns → Kp H H' p → Q .non H'
def spRl (C : Addr) : Sp := fun vs H Q _ => ∃ (rd nt : Addr) (t : Nat) (ns : List Int), vs = [.ref rd] ∧ RdAt C H rd nt t ns ∧ Q (.int ((ns.length : Int) * 8 - (t : Int))) H
def spRb (C : Addr) : Sp := fun vs H Q _ => ∃ (rd nt : Addr) (t w : Nat) (ns : List Int), vs = [.ref rd, .int (w : Int)] ∧ RdAt C H rd nt t ns ∧ t + w ≤ ns.length * 8 ∧ w ≤ 60 ∧ ns.length ≤ 1000 ∧ ∀ H', RdAt C H' rd nt (t + w) ns → Kp H H' rd → Q (.int (numI (readM ns t w))) H'
def spXb (C CS : Addr) : Sp := fun vs H _ E => ∃ (rd nt : Addr) (t w : Nat) (ns : List Int), vs = [.ref rd, .int (w : Int)] ∧ RdAt C H rd nt t ns ∧ ns.length * 8 < t + w ∧ E (.ref CS) none H
theorem putL {f : Str} {v x : V} : ∀ {fs : List (Str × V)}, fs.lookup f = some x → (putF f v fs).length = fs.length
  | [], h => by cases h
  | (g, y) :: r, h => by
    show (if g = f then (g, v) :: r else (g, y) :: putF f v r).length = _
    by_cases e : g = f
    · rw [if_pos e]
      rfl
    · rw [if_neg e, List.length_cons, List.length_cons, putL (fs := r)]
      have hb : (f == g) = false := beq_eq_false_iff_ne.mpr (Ne.symm e)
      simpa only [List.lookup, hb] using h
section
variable {P : Program} {w : World} {K : PySem.W.Frag} {mg : Str → Option Value} {base : Heap} {C CS : Addr} {u8 : Value}
theorem scRi : FnScope ["self", "numbers"] ["self", "numbers"] (defScope sRi) := ⟨rfl, rfl, rfl, by decide +kernel, rfl, by decide +kernel, by decide +kernel⟩
theorem ok_ri {f : Addr} {fd : FuncData} (F : Fun K "__init__" "Reader.__init__" sRi f fd) (Y : RdK K C) : FnOk P w K mg base CX0 1 f fd ["self", "numbers"] (spRi C) := by
  refine F.ok scRi (fun vs H Q E h => ?_) (fun cdv A outer s H vs Q E hr h => ?_)
  · obtain ⟨p, dx, nt, ns, rfl, _⟩ := h
    rfl
  · obtain ⟨p, dx, nt, ns, rfl, hp, hn, k⟩ := h
    refine ⟨_, pss_cons (ps_fld (pv 0) (pv 1) rfl) (pss_one (ps_fld (pv 0) pe_int rfl)), ?_⟩
    refine ⟨_, rfl, _, rfl, p, _, dx, _, rfl, hp, Y.cls, Y.nN, (by show 0 < 1000; decide), ?_⟩
    refine ⟨_, rfl, p, _, dx, _, rfl, upd_same, Y.cls, Y.nT, (by show 1 < 1000; decide), ?_⟩
    have nn : nt ≠ p := fun z => by rw [z, hp] at hn; cases hn
    refine k _ ⟨dx, _, upd_same, ⟨?_, ?_, ?_, ?_, ?_⟩, by rw [upd_ne nn, upd_ne nn]; exact hn⟩ fun b o e n => by rw [upd_ne n, upd_ne n]; exact e
    · rw [lookup_putF, if_neg (by decide +kernel), lookup_putF, if_pos rfl]
    · rw [lookup_putF, if_pos rfl]
      rfl
    · rw [lookup_putF, if_neg (by decide +kernel), lookup_putF, if_neg (by decide +kernel)]
      rfl
    · rw [lookup_putF, if_neg (by decide +kernel), lookup_putF, if_neg (by decide +kernel)]
      rfl
    · show (putF ("taken" : Str) (V.int 0) [(("numbers" : Str), V.ref nt)]).length ≤ 2
      unfold putF
      rw [if_neg (by decide +kernel)]
      exact Nat.le_refl 2
theorem scRl : FnScope ["self"] ["self"] (defScope sRl) := ⟨rfl, rfl, rfl, by decide +kernel, rfl, by decide +kernel, by decide +kernel⟩
theorem ok_rl {f : Addr} {fd : FuncData} (F : Fun K "left" "Reader.left" sRl f fd) (T : Txt mg) (g8 : mg "WIDE" = some u8) (r8 : RelV (.int 8) u8) (Y : RdK K C) : FnOk P w K mg base CX0 1 f fd ["self"] (spRl C) := by
  refine F.ok scRl (fun vs H Q E h => ?_) (fun cdv A outer s H vs Q E hr h => ?_)
  · obtain ⟨rd, nt, t, ns, rfl, _⟩ := h
    rfl
  · obtain ⟨rd, nt, t, ns, rfl, ⟨dx, fs, hr', R, hn⟩, k⟩ := h
    refine ⟨_, pss_one (ps_ret (pe_op op_sub (pe_op op_mul (pe_callB call_len_seq (by rfl) T.len PySem.boot_len (pa_cons (pe_fld (pv 0) rfl) pa_nil)) (pe_glob (v := .int 8) (by rfl) g8 r8)) (pe_fld (pv 0) rfl))), ?_⟩
    refine ⟨_, rfl, rd, _, dx, _, _, rfl, hr', Y.cls, Y.nN, R.n, nt, _, rfl, .inr (SqT.of hn), _, _, rfl, rfl, .inr ⟨by decide, by decide⟩, _, rfl, rd, _, dx, _, _, rfl, hr', Y.cls, Y.nT, R.t, _, _, rfl, rfl, ?_⟩
    show Q (V.int ((((ns.map V.int).length : Nat) : Int) * 8 - (t : Int))) H
    rw [List.length_map]
    exact k
theorem scRb : FnScope ["self", "wide", "places"] ["self", "wide"] (defScope sRb) := ⟨rfl, rfl, rfl, by decide +kernel, rfl, by decide +kernel, by decide +kernel⟩
theorem ok_xb {f fL : Addr} {fd dL : FuncData} (F : Fun K "bits" "Reader.bits" sRb f fd) (T : Txt mg) (g8 : mg "WIDE" = some u8) (r8 : RelV (.int 8) u8) (Y : RdK K C) (gS : mg "Spoiled" = some (.ref CS)) (ex : PySem.W.excIn K CS bmV "ValueError.__new__" = true)
    (FL : Fun K "left" "Reader.left" sRl fL dL) (bL : Binds K dL ["self"] []) (mL : Meth K C "left" fL) : FnOk P w K mg base (CX1 P w) 2 f fd ["self", "wide"] (spXb C CS) := by
  have GL : FnOk P w K mg base CX0 1 fL dL ["self"] (spRl C) := ok_rl FL T g8 r8 Y
  refine F.okX scRb (fun vs H Q E h => ?_) (fun cdv A outer s H vs Q E hr h => ?_)
  · obtain ⟨rd, nt, t, w, ns, rfl, _⟩ := h
    rfl
  · obtain ⟨rd, nt, t, w, ns, rfl, hR, hlt, k⟩ := h
    obtain ⟨dx, fs, hr', R, hn⟩ := id hR
    refine ⟨_, pss_cons (ps_if (pt_cmpR op_gt (pv 1) (pe_meth0 (pv 0) Y.cls mL GL hr bL .nil pass0) (nomark _)) (pss_one (ps_raise0 (by rfl) gS ex PySem.F.excBase_ValueError rfl throws_cx)) pss_nil) pss_never, ?_⟩
    refine ⟨_, rfl, _, rfl, rd, dx, fs, rfl, hr', R.l, rd, nt, t, ns, rfl, hR, _, _, rfl, rfl, true, ?_, iteT k⟩
    show V.bl (decide ((w : Int) > (ns.length : Int) * 8 - (t : Int))) = V.bl true
    rw [decide_eq_true (show (w : Int) > (ns.length : Int) * 8 - (t : Int) by omega)]
def scopeRb : Scope := { kind := .function, names := [(".0", .local), ("place", .local), ("WIDE", .globalImplicit), ("self", .free)], isGenerator := false, isCoroutine := false, more := [] }
theorem scRbC : BlkScope (defScope sRb) ["self", "wide", "places"] ["place"] ["self"] [0] scopeRb := ⟨rfl, by decide +kernel, by decide +kernel, by decide +kernel, rfl, by decide +kernel, by decide +kernel⟩
theorem read_take {ns : List Int} {t w i : Nat} (h : i < w) : (readM ns t w).take (i + 1) = (readM ns t w).take i ++ [ns.getD ((t + i) / 8) 0 / 2 ^ (7 - (t + i) % 8) % 2] := by
  rw [List.take_add_one]
  unfold readM
  rw [List.getElem?_map, List.getElem?_range h]
  rfl
theorem ok_rb {f fL fN : Addr} {fd dL dN : FuncData} (F : Fun K "bits" "Reader.bits" sRb f fd) (T : Txt mg) (g8 : mg "WIDE" = some u8) (r8 : RelV (.int 8) u8) (Y : RdK K C)
    (FL : Fun K "left" "Reader.left" sRl fL dL) (bL : Binds K dL ["self"] []) (mL : Meth K C "left" fL) (FN : Fun K "number_of" "number_of" sNu fN dN) (bN : Binds K dN ["bits"] []) (gN : mg "number_of" = some (.ref fN)) : FnOk P w K mg base CX0 2 f fd ["self", "wide"] (spRb C) := by
  have GL : FnOk P w K mg base CX0 1 fL dL ["self"] (spRl C) := ok_rl FL T g8 r8 Y
  have GN : FnOk P w K mg base CX0 1 fN dN ["bits"] spNu := ok_nu FN
  refine F.ok scRb (fun vs H Q E h => ?_) (fun cdv A outer s H vs Q E hr h => ?_)
  · obtain ⟨rd, nt, t, w, ns, rfl, _⟩ := h
    rfl
  · obtain ⟨rd, nt, t, w, ns, rfl, hR, hle, h60, h1k, k⟩ := h
    obtain ⟨dx, fs, hr', R, hn⟩ := id hR
    refine ⟨_, pss_cons (ps_if (pt_cmpR op_gt (pv 1) (pe_meth0 (pv 0) Y.cls mL GL hr bL .nil pass0) (nomark _)) pss_never pss_nil)
      (pss_cons (ps_set (i := 2) scRb.nd rfl (Or.inl rfl) (pe_callTy (call_list_rng rfl) (by rfl) T.list PyProof.Rows.boot_list (pa_cons (pe_callTy call_rng2 (by rfl) T.range PyProof.Rows.boot_range (pa_cons (pe_fld (pv 0) rfl) (pa_cons (pe_op op_add (pe_fld (pv 0) rfl) (pv 1)) pa_nil))) pa_nil)))
      (pss_cons (ps_fld (pv 0) (pe_op op_add (pe_fld (pv 0) rfl) (pv 1)) rfl)
      (pss_one (ps_ret (pe_call GN hr rfl gN FN.kp bN .nil pass0 (pa_cons (pe_lc scRbC rfl rfl rfl (pi_list (pv 2)) (fun fp C s1 H1 => pg_name (i := 0) scRbC.nd rfl (Or.inl rfl)) (fun fp C s1 H1 => pts_nil)
        (fun fp C s1 H1 => pe_op op_and (pe_op op_shr (pe_ix (r := rIxT K) ix_tup (pe_fldB (K := K) rfl (pv 1) rfl) (pe_op op_fdiv (pv 0) (pe_glob (v := .int 8) (by rfl) g8 r8)) (fun _ _ => rfl)) (pe_op op_sub (pe_op op_sub (pe_glob (v := .int 8) (by rfl) g8 r8) pe_int) (pe_op op_mod (pv 0) (pe_glob (v := .int 8) (by rfl) g8 r8)))) pe_int)) pa_nil)))))), ?_⟩
    refine ⟨_, rfl, _, rfl, rd, dx, fs, rfl, hr', R.l, rd, nt, t, ns, rfl, hR, _, _, rfl, rfl, false, ?_, iteF ?_⟩
    · show V.bl (decide ((w : Int) > (ns.length : Int) * 8 - (t : Int))) = V.bl false
      rw [decide_eq_false (show ¬ (w : Int) > (ns.length : Int) * 8 - (t : Int) by omega)]
    refine ⟨_, rfl, rd, _, dx, _, _, rfl, hr', Y.cls, Y.nT, R.t, _, rfl, rd, _, dx, _, _, rfl, hr', Y.cls, Y.nT, R.t, _, rfl, _, _, rfl, rfl, _, _, rfl, fun a ha => ?_⟩
    have s1 := (Same.refl H).upd_free (o := .rng (t : Int) ((t : Int) + (w : Int))) ha
    refine ⟨a, _, _, rfl, upd_same, by omega, by omega, by omega, by omega, by omega, fun l hl => ?_⟩
    have en : ((t : Int) + (w : Int) - (t : Int)).toNat = w := by omega
    rw [en]
    have s2 := s1.trans ((Same.refl _).upd_free (o := .lst ((rangeI (t : Int) w).map V.int)) hl)
    have g2 : upd (upd H a (.rng (t : Int) ((t : Int) + (w : Int)))) l (.lst ((rangeI (t : Int) w).map V.int)) l = some (.lst ((rangeI (t : Int) w).map V.int)) := upd_same
    generalize upd (upd H a (.rng (t : Int) ((t : Int) + (w : Int)))) l (.lst ((rangeI (t : Int) w).map V.int)) = H2 at s2 g2
    have r2 := s2 _ _ hr'
    have few := R.few
    refine ⟨_, rfl, rd, _, dx, _, _, rfl, r2, Y.cls, Y.nT, R.t, _, rfl, _, _, rfl, rfl, _, rfl, rd, _, dx, _, rfl, r2, Y.cls, Y.nT, by omega, ?_⟩
    have R3 : RFs (putF "taken" (.int ((t : Int) + (w : Int))) fs) nt (t + w) := ⟨by rw [lookup_putF, if_neg (by decide +kernel)]; exact R.n, by rw [lookup_putF, if_pos rfl]; rfl, by rw [lookup_putF, if_neg (by decide +kernel)]; exact R.b, by rw [lookup_putF, if_neg (by decide +kernel)]; exact R.l, by rw [putL R.t]; exact few⟩
    have kp3 : Kp H (upd H2 rd (.ins C dx (putF "taken" (.int ((t : Int) + (w : Int))) fs))) rd := fun b o e n => by rw [upd_ne n]; exact s2 _ _ e
    have r3 : upd H2 rd (.ins C dx (putF "taken" (.int ((t : Int) + (w : Int))) fs)) rd = some (.ins C dx (putF "taken" (.int ((t : Int) + (w : Int))) fs)) := upd_same
    have nrl : l ≠ rd := fun z => by rw [z, r2] at g2; cases g2
    have nrn : nt ≠ rd := fun z => by rw [z, hr'] at hn; cases hn
    have g3 : upd H2 rd (.ins C dx (putF "taken" (.int ((t : Int) + (w : Int))) fs)) l = some (.lst ((rangeI (t : Int) w).map V.int)) := by rw [upd_ne nrl]; exact g2
    have n3 := kp3 _ _ hn nrn
    generalize upd H2 rd (.ins C dx (putF "taken" (.int ((t : Int) + (w : Int))) fs)) = H3 at kp3 r3 g3 n3
    refine ⟨_, rfl, l, rfl, ⟨_, SqL.of g3⟩, fun D hD => ?_⟩
    have hlr : ((rangeI (t : Int) w).map V.int).length = w := by simp [rangeI]
    refine lc_list (K := K) (a := l) (xs := (rangeI (t : Int) w).map V.int) (fun i ys H7 => Same H3 H7 ∧ H7 D = some (.lst ys) ∧ ys = ((readM ns t w).take i).map V.int) (lt_line (by omega)) ⟨(Same.refl H3).upd_free hD, upd_same, by rw [List.take_zero]; rfl⟩
      (fun i ys H7 h => by rw [h.2.2, List.length_map, List.length_take]; omega) (fun i ys H7 h => SqL.of (h.1 _ _ g3)) ?_ ?_
    · rintro i ys H7 x N M hx ⟨u1, u2, rfl⟩ hN hM
      have hi : i < w := by
        have := (List.getElem?_eq_some_iff.mp hx).1
        omega
      have hx2 : x = .int ((t : Int) + (i : Int)) := by
        unfold rangeI at hx
        rw [List.getElem?_map, List.getElem?_map, List.getElem?_range hi] at hx
        cases hx
        rfl
      subst hx2
      have hj : (t + i) / 8 < ns.length := by omega
      have eat : atI (ns.map V.int) (((t : Int) + (i : Int)) / 8) = some (.int (ns.getD ((t + i) / 8) 0)) := by
        have e : ((t : Int) + (i : Int)) / 8 = (((t + i) / 8 : Nat) : Int) := by omega
        rw [e]
        refine atI_nat ?_
        rw [List.getElem?_map]
        simp [List.getD, hj]
      refine ⟨_, rfl, rd, _, dx, _, _, rfl, u1 _ _ r3, Y.cls, Y.nN, R3.n, _, rfl, _, _, rfl, rfl, ⟨by decide, by decide⟩, nt, _, _, _, rfl, rfl, SqT.of (u1 _ _ n3), eat, _, _, rfl, rfl, _, rfl, _, _, rfl, rfl, (by show (0 : Int) < 8; decide), _, _, rfl, rfl, _, _, rfl, rfl, (by show (0 : Int) ≤ 8 - 1 - ((t : Int) + (i : Int)) % 8; omega), _, _, rfl, rfl, ?_⟩
      refine hN _ H7 u2 ⟨u1.upd_free hD, upd_same, ?_⟩
      rw [read_take hi, List.map_append]
      have e : ((8 : Int) - 1 - ((t : Int) + (i : Int)) % 8).toNat = 7 - (t + i) % 8 := by omega
      show _ ++ [V.int (Builtin.bitAnd (ns.getD ((t + i) / 8) 0 / 2 ^ ((8 : Int) - 1 - ((t : Int) + (i : Int)) % 8).toNat) 1)] = _ ++ [V.int (ns.getD ((t + i) / 8) 0 / 2 ^ (7 - (t + i) % 8) % 2)]
      rw [and1, e]
    · rintro ys H7 ⟨u1, u2, rfl⟩
      rw [List.take_of_length_le (by rw [hlr]; simp [readM])] at u2
      exact ⟨D, _, rfl, u2, k _ ⟨dx, _, u1 _ _ r3, R3, u1 _ _ n3⟩ fun b o e n => u1 _ _ (kp3 b o e n)⟩
end
end BT
namespace L2
open PySem
theorem Same.noneB {H H' : Hp} (s : Same H H') {b : Addr} (h : H' b = none) : H b = none := by
  cases e : H b with
  | none => rfl
  | some o => rw [s _ _ e] at h; cases h
def rIsB (K : PySem.W.Frag) : List V → Hp → VK → Prop := fun xs H Q => ∃ x n t b, xs = [x, .ty n] ∧ TyOf K H x t ∧ PySem.W.kitOne K t (.type n) = some b ∧ Q (.bl b) H
theorem call_isB {X : Cx} : CallR X (.builtin "isinstance") (rIsB X.K) := call_isinst
end L2
namespace BT
open PySem L2
def spEi : Sp := fun vs H Q _ => ∃ (l : Addr) (bs : List Int), vs = [.ref l] ∧ H l = some (.lst (bs.map V.int)) ∧ bs.length ≤ 3000 ∧ ∀ p H', Same H H' → H' p = some (.tup ((eightM bs).map V.int)) → Q (.ref p) H'
def spAl : Sp := fun vs H Q _ => ∃ (a b : Addr) (ns : List Int), vs = [.ref a, .ref b] ∧ H a = some (.tup (ns.map V.int)) ∧ H b = some (.tup (ns.map V.int)) ∧ ns.length ≤ 1000 ∧ ∀ H', Same H H' → Q (.bl true) H'
def spNb : Sp := fun vs H Q _ => ∃ (c : Int), vs = [.int c] ∧ ∀ p n H', Same H H' → H' p = some (.tup [.int (c % 31), .int n]) → Q (.ref p) H'
def spTo (C : Addr) : Sp := fun vs H Q _ => ∃ (rd nt : Addr) (t w : Nat) (ns : List Int) (due left : Int), vs = [.ref rd, .int (w : Int), .int due, .int left] ∧ RdAt C H rd nt t ns ∧ t + w ≤ ns.length * 8 ∧ w ≤ 60 ∧ ns.length ≤ 1000 ∧ left = (ns.length : Int) * 8 - (t : Int) ∧ due = numI (readM ns t w) ∧
  ∀ H', RdAt C H' rd nt (t + w) ns → Kp H H' rd → Q (.bl true) H'
def spLa (C : Addr) : Sp := fun vs H Q _ => ∃ (rd nt : Addr) (t w : Nat) (ns : List Int), vs = [.ref rd, .int (w : Int)] ∧ RdAt C H rd nt t ns ∧ ns.length * 8 < t + w ∧ ∀ H', Same H H' → Q (.bl true) H'
theorem iteA {c : Bool} {A B : Prop} (a : c = true → A) (b : c = false → B) : if c = true then A else B := by
  cases c with
  | true => exact a rfl
  | false => exact b rfl
theorem neS (i : Int) : V.bl (!decide (V.int i = V.int i)) = V.bl false := by rw [decide_eq_true rfl]; rfl
theorem ints_at {K : PySem.W.Frag} {H : Hp} : ∀ ns : List Int, DsAt K H (ns.map V.int) (ns.map PyData.int)
  | [] => .nil
  | n :: ns => .cons (.int n) (ints_at ns)
theorem ints_lay : ∀ ns : List Int, PyData.canLayAll0 (ns.map PyData.int) = true
  | [] => rfl
  | n :: ns => by
    rw [List.map_cons, PyData.canLayAll0, ints_lay ns]
    rfl
theorem ints_depth : ∀ ns : List Int, PyData.depthAll (ns.map PyData.int) = 0
  | [] => rfl
  | n :: ns => by
    rw [List.map_cons, PyData.depthAll, ints_depth ns]
    rfl
theorem ints_ok (ns : List Int) : DOk (.tuple (ns.map PyData.int)) := ⟨ints_lay ns, by rw [PyData.depth, ints_depth]; decide⟩
theorem ints_eq (ns : List Int) : PyData.eqv (.tuple (ns.map PyData.int)) (.tuple (ns.map PyData.int)) = true := SeqAt.eqv_refl _ (ints_ok ns).1
section
variable {P : Program} {w : World} {K : PySem.W.Frag} {mg : Str → Option Value} {base : Heap} {C CS CL CU : Addr} {u8 : Value}
theorem scEi : FnScope ["_law_bits", "_law_found", "_law_k", "_law_total", "_law_bit"] ["_law_bits"] (defScope sEi) := ⟨rfl, rfl, rfl, by decide +kernel, rfl, by decide +kernel, by decide +kernel⟩
theorem ok_ei {f : Addr} {fd : FuncData} (F : Fun K "_law_eighths" "_law_eighths" sEi f fd) (T : Txt mg) : FnOk P w K mg base CX0 1 f fd ["_law_bits"] spEi := by
  refine F.ok scEi (fun vs H Q E h => ?_) (fun cdv A outer s H vs Q E hr h => ?_)
  · obtain ⟨l, bs, rfl, _⟩ := h
    rfl
  · obtain ⟨l, bs, rfl, hl, h3k, k⟩ := h
    refine ⟨_, pss_cons (ps_set (i := 0) scEi.nd rfl (Or.inl rfl) (pe_op op_catL (pv 0) (pe_op op_rep (pe_lst (pa_cons pe_int pa_nil)) (pe_op op_mod (pe_un un_neg (pe_callB call_len_seq (by rfl) T.len PySem.boot_len (pa_cons (pv 0) pa_nil))) pe_int))))
      (pss_cons (ps_set (i := 1) scEi.nd rfl (Or.inl rfl) (pe_lst pa_nil))
      (pss_cons (ps_for PassesOwn.never rfl (pi_rangeS rfl T.range (pa_cons pe_int (pa_cons (pe_callB call_len_seq (by rfl) T.len PySem.boot_len (pa_cons (pv 0) pa_nil)) (pa_cons pe_int pa_nil)))) (pg_name (i := 2) scEi.nd rfl (Or.inl rfl))
        (pss_cons (ps_set (i := 3) scEi.nd rfl (Or.inl rfl) pe_int)
        (pss_cons (ps_for PassesOwn.never rfl (pi_list (pe_slice sl_list (pv 0) (po_some (pv 2)) (po_some (pe_op op_add (pv 2) pe_int)))) (pg_name (i := 4) scEi.nd rfl (Or.inl rfl)) (pss_one (ps_set (i := 3) scEi.nd rfl (Or.inl rfl) (pe_op op_add (pe_op op_mul pe_int (pv 3)) (pv 4)))))
        (pss_one (ps_expr (pe_bm PySem.F.plainAttrs_list PySem.F.slot_list_append PySem.F.type_list_append mt_append (pv 1) (pa_cons (pv 3) pa_nil)))))))
      (pss_one (ps_ret (pe_callTy call_tuple_of (by rfl) T.tuple PyProof.Rows.boot_tuple (pa_cons (pv 1) pa_nil)))))), ?_⟩
    refine ⟨_, rfl, (by show 1 ≤ sizeLine; decide), fun z hz => ?_⟩
    have s1 := (Same.refl H).upd_free (o := .lst [V.int 0]) hz
    have g1 : upd H z (.lst [V.int 0]) z = some (.lst [V.int 0]) := upd_same
    generalize upd H z (.lst [V.int 0]) = H1 at s1 g1
    refine ⟨_, rfl, l, _, rfl, .inl (SqL.of (s1 _ _ hl)), _, rfl, _, _, rfl, rfl, (by show (0 : Int) < 8; decide), ?_⟩
    have ep : -(((bs.map V.int).length : Nat) : Int) % 8 = (padN bs.length : Int) := by rw [List.length_map]; exact pad_int
    have hp8 : padN bs.length < 8 := by unfold padN; omega
    refine ⟨z, _, _, rfl, rfl, g1, (by rw [ep]; omega), (by rw [ep]; omega), ?_, fun y hy => ?_⟩
    · rw [ep]
      exact lt_line (by show 1 * ((padN bs.length : Nat) : Int).toNat ≤ 5000; omega)
    rw [ep, Int.toNat_natCast, rep0] at *
    have s2 := (Same.refl H1).upd_free (o := .lst ((List.replicate (padN bs.length) (0 : Int)).map V.int)) hy
    have g2 : upd H1 y (.lst ((List.replicate (padN bs.length) (0 : Int)).map V.int)) y = some (.lst ((List.replicate (padN bs.length) (0 : Int)).map V.int)) := upd_same
    generalize upd H1 y (.lst ((List.replicate (padN bs.length) (0 : Int)).map V.int)) = H2 at s2 g2
    have t2 := s1.trans s2
    refine ⟨l, y, _, _, rfl, rfl, SqL.of (t2 _ _ hl), SqL.of g2, lt_line (by rw [List.length_map, List.length_map, List.length_replicate]; omega), fun q hq => ?_⟩
    rw [← List.map_append]
    have s3 := (Same.refl H2).upd_free (o := .lst ((pad bs).map V.int)) hq
    have g3 : upd H2 q (.lst ((pad bs).map V.int)) q = some (.lst ((pad bs).map V.int)) := upd_same
    rw [show bs ++ List.replicate (padN bs.length) 0 = pad bs from rfl]
    generalize upd H2 q (.lst ((pad bs).map V.int)) = H3 at s3 g3
    have t3 := t2.trans s3
    obtain ⟨m8, mlt, mge⟩ := pad_len bs
    have hml : ((pad bs).map V.int).length = (pad bs).length := List.length_map ..
    refine ⟨(by show 0 ≤ sizeLine; decide), fun lf hlf => ?_⟩
    have s4 := (Same.refl H3).upd_free (o := .lst []) hlf
    have g4 : upd H3 lf (.lst []) lf = some (.lst []) := upd_same
    generalize upd H3 lf (.lst []) = H4 at s4 g4
    have nq : q ≠ lf := ne_of_none g3 hlf
    have hlfH : H lf = none := t3.noneB hlf
    refine ⟨_, rfl, q, _, rfl, .inl (SqL.of (s4 _ _ g3)), _, _, _, rfl, by decide, by decide, ⟨by decide, by decide, by omega, by omega⟩, ?_⟩
    rw [hml, step8 m8]
    refine for_step (lo := 0) (c := 8) (n := (pad bs).length / 8) (fun i σ H' => ∃ v2 v3 v4, σ = [some (.ref q), some (.ref lf), v2, v3, v4] ∧ Same H H' ∧ H' q = some (.lst ((pad bs).map V.int)) ∧ H' lf = some (.lst (((eightM bs).take i).map V.int)))
      ⟨none, none, none, rfl, t3.trans s4, s4 _ _ g3, by rw [List.take_zero]; exact g4⟩ ?_ ?_
    · rintro i σ H5 hi ⟨v2, v3, v4, rfl, s5, q5, l5⟩
      refine ⟨_, rfl, _, rfl, _, rfl, _, rfl, _, _, rfl, rfl, _, rfl, q, _, rfl, SqL.of q5, fun p hp => ?_⟩
      rw [cut8_V _ _ (by omega)]
      have s6 := (Same.refl H5).upd_free (o := .lst ((cut8 (pad bs) i).map V.int)) hp
      have g6 : upd H5 p (.lst ((cut8 (pad bs) i).map V.int)) p = some (.lst ((cut8 (pad bs) i).map V.int)) := upd_same
      generalize upd H5 p (.lst ((cut8 (pad bs) i).map V.int)) = H6 at s6 g6
      refine ⟨p, rfl, ⟨_, SqL.of g6⟩, ?_⟩
      refine for_list (K := K) (a := p) (xs := (cut8 (pad bs) i).map V.int) (fun j σ H' => ∃ v4, σ = [some (.ref q), some (.ref lf), some (.int (0 + (i : Int) * 8)), some (.int (numI ((cut8 (pad bs) i).take j))), v4] ∧ H' = H6) ⟨v4, rfl, rfl⟩ (fun j σ H' _ ⟨_, _, e⟩ => by rw [e]; exact SqL.of g6) ?_ ?_
      · rintro j x σ H' hx ⟨v4, rfl, rfl⟩
        rw [List.getElem?_map] at hx
        cases e : (cut8 (pad bs) i)[j]? with
        | none => rw [e] at hx; cases hx
        | some b =>
          rw [e] at hx
          cases hx
          refine ⟨_, rfl, _, _, rfl, rfl, cmL, _, rfl, _, _, rfl, rfl, some (V.int b), ?_, rfl⟩
          rw [List.take_add_one, e]
          show _ = [some (V.ref q), some (V.ref lf), _, some (V.int (numI ((cut8 (pad bs) i).take j ++ [b]))), _]
          rw [num_snoc, Int.mul_comm (numI ((cut8 (pad bs) i).take j)) 2]
          rfl
      · rintro σ H' ⟨v4, rfl, rfl⟩
        rw [List.length_map, List.take_of_length_le (Nat.le_refl _)]
        refine ⟨_, rfl, .inl ⟨rfl, _, SqL.of (s6 _ _ l5)⟩, _, rfl, lf, _, _, rfl, rfl, s6 _ _ l5, ?_, ?_⟩
        · rw [List.length_map, List.length_take, sizeLine_eq]
          omega
        · refine ⟨_, _, _, rfl, (s5.trans s6).upd_free hlfH, ?_, ?_⟩
          · rw [upd_ne nq]
            exact s6 _ _ q5
          · rw [upd_same, eight_take hi, List.map_append]
            rfl
    · rintro σ H5 ⟨v2, v3, v4, rfl, s5, q5, l5⟩
      have hel := eight_len bs
      rw [List.take_of_length_le (by omega)] at l5
      refine ⟨_, rfl, lf, _, rfl, .inl ⟨SqL.of l5, fun p hp => ?_⟩⟩
      exact k p _ (s5.trans ((Same.refl H5).upd_free hp)) upd_same
theorem scAl : FnScope ["_law_found", "_law_due"] ["_law_found", "_law_due"] (defScope sAl) := ⟨rfl, rfl, rfl, by decide +kernel, rfl, by decide +kernel, by decide +kernel⟩
def scopeAl : Scope := { kind := .function, names := [(".0", .local), ("_law_number_here", .local), ("isinstance", .globalImplicit), ("int", .globalImplicit), ("bool", .globalImplicit)], isGenerator := false, isCoroutine := false, more := [] }
theorem scAlC : BlkScope (defScope sAl) ["_law_found", "_law_due"] ["_law_number_here"] [] [] scopeAl := ⟨rfl, by decide +kernel, by decide +kernel, by decide +kernel, rfl, by decide +kernel, by decide +kernel⟩
theorem ok_al {f : Addr} {fd : FuncData} (F : Fun K "_law_alike" "_law_alike" sAl f fd) (T : Txt mg) : FnOk P w K mg base CX0 1 f fd ["_law_found", "_law_due"] spAl := by
  refine F.ok scAl (fun vs H Q E h => ?_) (fun cdv A outer s H vs Q E hr h => ?_)
  · obtain ⟨a, b, ns, rfl, _⟩ := h
    rfl
  · obtain ⟨a, b, ns, rfl, ha, hb, h1k, k⟩ := h
    have hu := hr.units
    refine ⟨_, pss_cons (ps_if (PW.pt (pw_or (pt_not (pt_val (pe_callB call_isB (by rfl) T.isin PyProof.Rows.boot_isinstance (pa_cons (pv 0) (pa_cons (pe_bltn (v := .ty "tuple") (by rfl) T.tuple PyProof.Rows.boot_tuple rfl) pa_nil)))))
          (pw_or1 (pt_cmpR (op_neD hu) (pv 0) (pv 1) (nomark _))))) (pss_one (ps_ret pe_bl)) pss_nil)
      (pss_one (ps_ret (pe_cmpR (op_eqD hu) (pe_lc scAlC rfl rfl rfl (pi_tup (pv 0)) (fun fp C s1 H1 => pg_name (i := 0) scAlC.nd rfl (Or.inl rfl))
        (fun fp C s1 H1 => pts_one (PW.pt (pw_or (pt_not (pt_val (pe_callB (r := rIsB K) call_isB (by rfl) T.isin PyProof.Rows.boot_isinstance (pa_cons (pv 0) (pa_cons (pe_bltn (v := .ty "int") (by rfl) T.int PyProof.Rows.boot_int rfl) pa_nil)))))
          (pw_or1 (pt_val (pe_callB (r := rIsB K) call_isB (by rfl) T.isin PyProof.Rows.boot_isinstance (pa_cons (pv 0) (pa_cons (pe_bltn (v := .ty "bool") (by rfl) T.bool PyProof.Rows.boot_bool rfl) pa_nil))))))))
        (fun fp C s1 H1 => pv 0)) (pe_lst pa_nil) (nomark _)))), ?_⟩
    refine ⟨_, rfl, _, _, _, true, rfl, .tup ha, rfl, true, rfl, iteF ?_⟩
    have ok := ints_ok ns
    refine ⟨_, rfl, _, rfl, .tuple (ns.map PyData.int), .tuple (ns.map PyData.int), .tup (SqT.of ha) (ints_at ns), .tup (SqT.of hb) (ints_at ns), ok, ok, false, by rw [ints_eq]; rfl, iteF ?_⟩
    refine ⟨_, rfl, a, rfl, ⟨_, SqT.of ha⟩, fun D hD => ?_⟩
    refine lc_tup (K := K) (a := a) (xs := ns.map V.int) (fun i ys H7 => Same H H7 ∧ H7 D = some (.lst ys) ∧ ys = []) (lt_line (by rw [List.length_map]; omega)) ⟨(Same.refl H).upd_free hD, upd_same, rfl⟩ (fun i ys H7 h => by rw [h.2.2]; exact Nat.zero_le _) (fun i ys H7 h => SqT.of (h.1 _ _ ha)) ?_ ?_
    · rintro i ys H7 x N M hx ⟨u1, u2, rfl⟩ hN hM
      rw [List.getElem?_map] at hx
      cases e : ns[i]? with
      | none => rw [e] at hx; cases hx
      | some n =>
        rw [e] at hx
        cases hx
        refine ⟨_, rfl, _, _, _, true, rfl, .int _, rfl, true, rfl, iteF ⟨_, rfl, _, _, _, false, rfl, .int _, rfl, false, rfl, iteF (hM H7 ⟨u1, u2, rfl⟩)⟩⟩
    · rintro ys H7 ⟨u1, u2, rfl⟩
      refine ⟨(by show 0 ≤ sizeLine; decide), fun e he => ?_⟩
      have s8 := (Same.refl H7).upd_free (o := .lst []) he
      have ok0 : DOk (.list []) := ⟨by decide, by decide⟩
      exact ⟨.list [], .list [], .lst (SqL.of (s8 _ _ u2)) .nil, .lst (SqL.of upd_same) .nil, ok0, ok0, k _ (u1.trans s8)⟩
theorem scNb : FnScope ["_law_cell", "_law_wide", "_law_rest"] ["_law_cell"] (defScope sNb) := ⟨rfl, rfl, rfl, by decide +kernel, rfl, by decide +kernel, by decide +kernel⟩
theorem ok_nb {f : Addr} {fd : FuncData} (F : Fun K "_law_number" "_law_number" sNb f fd) : FnOk P w K mg base CX0 1 f fd ["_law_cell"] spNb := by
  refine F.ok scNb (fun vs H Q E h => ?_) (fun cdv A outer s H vs Q E hr h => ?_)
  · obtain ⟨c, rfl, _⟩ := h
    rfl
  · obtain ⟨c, rfl, k⟩ := h
    refine ⟨_, pss_cons (ps_set (i := 1) scNb.nd rfl (Or.inl rfl) (pe_op op_mod (pv 0) pe_int))
      (pss_cons (ps_set (i := 2) scNb.nd rfl (Or.inl rfl) (pe_op op_fdiv (pv 0) pe_int))
      (pss_cons (ps_if (pt_cmpR op_eq (pe_op op_mod (pv 2) pe_int) pe_int (nomark _)) (pss_one (ps_ret (pe_tup (pa_cons (pv 1) (pa_cons pe_int pa_nil))))) pss_nil)
      (pss_cons (ps_if (pt_cmpR op_eq (pe_op op_mod (pv 2) pe_int) pe_int (nomark _)) (pss_one (ps_ret (pe_tup (pa_cons (pv 1) (pa_cons (pe_op op_sub (pe_op op_shl pe_int (pv 1)) pe_int) pa_nil))))) pss_nil)
      (pss_one (ps_ret (pe_tup (pa_cons (pv 1) (pa_cons (pe_op op_mod (pe_op op_mul (pe_op op_fdiv (pv 2) pe_int) pe_int) (pe_op op_shl pe_int (pv 1))) pa_nil)))))))), ?_⟩
    have h1 := Int.emod_nonneg c (b := 31) (by decide)
    have h2 := Int.emod_lt_of_pos c (b := 31) (by decide)
    have cp : CPow 1 (c % 31) := ⟨h1, by omega, by decide⟩
    refine ⟨_, rfl, _, _, rfl, rfl, (by show (0 : Int) < 31; decide), _, rfl, _, _, rfl, rfl, ⟨by decide, by decide⟩, ?_⟩
    have fin : ∀ n p, H p = none → Q (.ref p) (upd H p (.tup [.int (c % 31), .int n])) := fun n p hp => k p n _ ((Same.refl H).upd_free hp) upd_same
    refine ⟨_, rfl, _, _, rfl, rfl, (by show (0 : Int) < 5; decide), rfl, _, rfl, ?_⟩
    refine iteA (fun _ => ?_) fun _ => ?_
    · exact ⟨_, rfl, (by show 2 ≤ sizeLine; decide), fin 0⟩
    · refine ⟨_, rfl, _, _, rfl, rfl, (by show (0 : Int) < 5; decide), rfl, _, rfl, ?_⟩
      refine iteA (fun _ => ?_) fun _ => ?_
      · exact ⟨_, rfl, _, rfl, _, _, rfl, rfl, cp, _, _, rfl, rfl, (by show 2 ≤ sizeLine; decide), fin _⟩
      · refine ⟨_, rfl, _, rfl, _, _, rfl, rfl, ⟨by decide, by decide⟩, _, _, rfl, rfl, .inr ⟨by decide, by decide⟩, _, rfl, _, _, rfl, rfl, cp, _, _, rfl, rfl, ?_, (by show 2 ≤ sizeLine; decide), fin _⟩
        have := pow_pos2 (c % 31).toNat
        show (0 : Int) < 1 * 2 ^ (c % 31).toNat
        omega
theorem scTo : FnScope ["_law_reader", "_law_wide", "_law_due", "_law_left", "_law_many", "_law_found"] ["_law_reader", "_law_wide", "_law_due", "_law_left"] (defScope sTo) := ⟨rfl, rfl, rfl, by decide +kernel, rfl, by decide +kernel, by decide +kernel⟩
theorem ok_to {f fL fB fN : Addr} {fd dL dB dN : FuncData} (F : Fun K "_law_told" "_law_told" sTo f fd) (T : Txt mg) (g8 : mg "WIDE" = some u8) (r8 : RelV (.int 8) u8) (Y : RdK K C)
    (FL : Fun K "left" "Reader.left" sRl fL dL) (bL : Binds K dL ["self"] []) (mL : Meth K C "left" fL) (FB : Fun K "bits" "Reader.bits" sRb fB dB) (bB : Binds K dB ["self", "wide"] []) (mB : Meth K C "bits" fB)
    (FN : Fun K "number_of" "number_of" sNu fN dN) (bN : Binds K dN ["bits"] []) (gN : mg "number_of" = some (.ref fN)) : FnOk P w K mg base CX0 3 f fd ["_law_reader", "_law_wide", "_law_due", "_law_left"] (spTo C) := by
  have GL : FnOk P w K mg base CX0 1 fL dL ["self"] (spRl C) := ok_rl FL T g8 r8 Y
  have GB : FnOk P w K mg base CX0 2 fB dB ["self", "wide"] (spRb C) := ok_rb FB T g8 r8 Y FL bL mL FN bN gN
  refine F.ok scTo (fun vs H Q E h => ?_) (fun cdv A outer s H vs Q E hr h => ?_)
  · obtain ⟨rd, nt, t, w, ns, due, left, rfl, _⟩ := h
    rfl
  · obtain ⟨rd, nt, t, w, ns, due, left, rfl, hR, hle, h60, h1k, rfl, rfl, k⟩ := h
    obtain ⟨dx, fs, hr', R, hn⟩ := id hR
    have hr1 : Room 1 _ := hr.mono (by decide)
    refine ⟨_, pss_cons (ps_set (i := 4) scTo.nd rfl (Or.inl rfl) (pe_meth0 (pv 0) Y.cls mL GL hr1 bL .nil pass0))
      (pss_cons (ps_if (PW.pt (pw_or (pt_val (pe_callB call_isB (by rfl) T.isin PyProof.Rows.boot_isinstance (pa_cons (pv 4) (pa_cons (pe_bltn (v := .ty "bool") (by rfl) T.bool PyProof.Rows.boot_bool rfl) pa_nil))))
          (pw_or1 (pt_cmpR op_ne (pv 4) (pv 3) (nomark _))))) (pss_one (ps_ret pe_bl)) pss_nil)
      (pss_cons (ps_set (i := 5) scTo.nd rfl (Or.inl rfl) (pe_meth (pv 0) Y.cls mB GB hr bB .nil pass0 (pa_cons (pv 1) pa_nil)))
      (pss_cons (ps_if (PW.pt (pw_or (pt_not (pt_val (pe_callB call_isB (by rfl) T.isin PyProof.Rows.boot_isinstance (pa_cons (pv 5) (pa_cons (pe_bltn (v := .ty "int") (by rfl) T.int PyProof.Rows.boot_int rfl) pa_nil)))))
          (pw_or (pt_val (pe_callB call_isB (by rfl) T.isin PyProof.Rows.boot_isinstance (pa_cons (pv 5) (pa_cons (pe_bltn (v := .ty "bool") (by rfl) T.bool PyProof.Rows.boot_bool rfl) pa_nil))))
          (pw_or1 (pt_cmpR op_ne (pv 5) (pv 2) (nomark _)))))) (pss_one (ps_ret pe_bl)) pss_nil)
      (pss_one (ps_ret (pe_cmpR op_eq (pe_meth0 (pv 0) Y.cls mL GL hr1 bL .nil pass0) (pe_op op_sub (pv 3) (pv 1)) (nomark _))))))), ?_⟩
    refine ⟨_, rfl, rd, dx, fs, rfl, hr', R.l, rd, nt, t, ns, rfl, hR, ?_⟩
    refine ⟨_, rfl, _, _, _, false, rfl, .int _, rfl, false, rfl, iteF ⟨_, rfl, _, rfl, rfl, false, neS _, iteF ?_⟩⟩
    refine ⟨_, rfl, rd, dx, fs, rfl, hr', R.b, _, rfl, rd, nt, t, w, ns, rfl, hR, hle, h60, h1k, fun H2 hR2 kp2 => ?_⟩
    refine ⟨_, rfl, _, _, _, true, rfl, .int _, rfl, true, rfl, iteF ⟨_, rfl, _, _, _, false, rfl, .int _, rfl, false, rfl, iteF ⟨_, rfl, _, rfl, rfl, false, neS _, iteF ?_⟩⟩⟩
    obtain ⟨dx2, fs2, hr2, R2, hn2⟩ := id hR2
    refine ⟨_, rfl, rd, dx2, fs2, rfl, hr2, R2.l, rd, nt, t + w, ns, rfl, hR2, _, rfl, _, rfl, _, _, rfl, rfl, rfl, ?_⟩
    have e : (ns.length : Int) * 8 - ((t + w : Nat) : Int) = (ns.length : Int) * 8 - (t : Int) - (w : Int) := by omega
    show Q (V.bl (decide (V.int ((ns.length : Int) * 8 - ((t + w : Nat) : Int)) = V.int ((ns.length : Int) * 8 - (t : Int) - (w : Int))))) H2
    rw [e, decide_eq_true rfl]
    exact k H2 hR2 kp2

structure SpK (K : PySem.W.Frag) (mg : Str → Option Value) (CS CL CU : Addr) : Prop where
  gS : mg "Spoiled" = some (.ref CS)
  gL : mg "LoomError" = some (.ref CL)
  gU : mg "Unknown" = some (.ref CU)
  ex : PySem.W.excIn K CS bmV "ValueError.__new__" = true
  tL : takesX K CS (.ref CL) = true
  get : excGet K CS = true
  iS : PySem.W.kitOne K (.ref CS) (.ref CS) = some true
  iU : PySem.W.kitOne K (.ref CS) (.ref CU) = some false
  iV : PySem.W.kitOne K (.ref CS) (.type "ValueError") = some true
theorem scLa : FnScope ["_law_reader", "_law_wide", "_law_left", "_law_refused", "e"] ["_law_reader", "_law_wide"] (defScope sLa) := ⟨rfl, rfl, rfl, by decide +kernel, rfl, by decide +kernel, by decide +kernel⟩
theorem ok_la {f fL fB : Addr} {fd dL dB : FuncData} (F : Fun K "_law_lacking" "_law_lacking" sLa f fd) (T : Txt mg) (g8 : mg "WIDE" = some u8) (r8 : RelV (.int 8) u8) (Y : RdK K C) (N : SpK K mg CS CL CU)
    (FL : Fun K "left" "Reader.left" sRl fL dL) (bL : Binds K dL ["self"] []) (mL : Meth K C "left" fL) (FB : Fun K "bits" "Reader.bits" sRb fB dB) (bB : Binds K dB ["self", "wide"] []) (mB : Meth K C "bits" fB) : FnOk P w K mg base CX0 3 f fd ["_law_reader", "_law_wide"] (spLa C) := by
  have GL : FnOk P w K mg base CX0 1 fL dL ["self"] (spRl C) := ok_rl FL T g8 r8 Y
  have GB : FnOk P w K mg base (CX1 P w) 2 fB dB ["self", "wide"] (spXb C CS) := ok_xb FB T g8 r8 Y N.gS N.ex FL bL mL
  refine F.ok scLa (fun vs H Q E h => ?_) (fun cdv A outer s H vs Q E hr h => ?_)
  · obtain ⟨rd, nt, t, w, ns, rfl, _⟩ := h
    rfl
  · obtain ⟨rd, nt, t, w, ns, rfl, hR, hlt, k⟩ := h
    obtain ⟨dx, fs, hr', R, hn⟩ := id hR
    have hr1 : Room 1 _ := hr.mono (by decide)
    refine ⟨_, pss_cons (ps_set (i := 2) scLa.nd rfl (Or.inl rfl) (pe_meth0 (pv 0) Y.cls mL GL hr1 bL .nil pass0))
      (pss_cons (ps_set (i := 3) scLa.nd rfl (Or.inl rfl) pe_bl)
      (pss_cons (ps_try (i := 4) ⟨rfl, rfl⟩ scLa.nd rfl rfl ⟨by rfl, by decide, .inl N.gL⟩ (pssx_one (psx_expr (pex_meth (pv 0) Y.cls mB GB hr bB .nil (pa_cons (pv 1) pa_nil))))
        (fun a => pss_one (ps_set (i := 3) scLa.nd rfl (Or.inl rfl) (pe_and (pe_callB call_isinstX (by rfl) T.isin PyProof.Rows.boot_isinstance (pa_cons (pv 4) (pa_cons (pe_glob (v := .ref CS) (by rfl) N.gS rfl) pa_nil)))
          (pe_and (pe_callB call_isinstX (by rfl) T.isin PyProof.Rows.boot_isinstance (pa_cons (pv 4) (pa_cons (pe_bltn (v := .ty "ValueError") (by rfl) T.verr rfl rfl) pa_nil)))
          (pe_one (pe_not (pe_callB call_isinstX (by rfl) T.isin PyProof.Rows.boot_isinstance (pa_cons (pv 4) (pa_cons (pe_glob (v := .ref CU) (by rfl) N.gU rfl) pa_nil))))))))))
      (pss_one (ps_ret (pe_and (pv 3) (pe_one (pe_cmpR op_eq (pe_meth0 (pv 0) Y.cls mL GL hr1 bL .nil pass0) (pv 2) (nomark _)))))))), ?_⟩
    refine ⟨_, rfl, rd, dx, fs, rfl, hr', R.l, rd, nt, t, ns, rfl, hR, ?_⟩
    refine ⟨_, rfl, rd, dx, fs, rfl, hr', R.b, _, rfl, rd, nt, t, w, ns, rfl, hR, hlt, CS, rfl, N.tL, fun e he => ?_⟩
    have s1 := (Same.refl H).upd_free (o := .ext (ExcAt e CS none)) he
    have g1 : upd H e (.ext (ExcAt e CS none)) e = some (.ext (ExcAt e CS none)) := upd_same
    generalize upd H e (.ext (ExcAt e CS none)) = H1 at s1 g1
    refine ⟨_, rfl, e, .ref CS, CS, true, rfl, g1, N.get, N.iS, true, rfl, iteT ⟨_, rfl, e, .ty "ValueError", CS, true, rfl, g1, N.get, N.iV, true, rfl, iteT ⟨_, rfl, e, .ref CU, CS, false, rfl, g1, N.get, N.iU, false, rfl, ?_⟩⟩⟩
    refine ⟨_, rfl, true, rfl, iteT ⟨_, rfl, rd, dx, fs, rfl, s1 _ _ hr', R.l, rd, nt, t, ns, rfl, ⟨dx, fs, s1 _ _ hr', R, s1 _ _ hn⟩, _, rfl, rfl, ?_⟩⟩
    show Q (V.bl (decide (V.int ((ns.length : Int) * 8 - (t : Int)) = V.int ((ns.length : Int) * 8 - (t : Int))))) H1
    rw [decide_eq_true rfl]
    exact k H1 s1
end
end BT
namespace BT
open PySem L2
def spRe : Sp := fun vs H Q _ => ∃ (nt lb lw : Addr) (bs : List Int) (ws : List Nat), vs = [.ref nt, .ref lb, .ref lw] ∧ H nt = some (.tup ((eightM bs).map V.int)) ∧ H lb = some (.lst (bs.map V.int)) ∧ H lw = some (.lst (ws.map fun (w : Nat) => V.int (w : Int))) ∧ B01 bs ∧ bs.length ≤ 3000 ∧ (∀ w ∈ ws, w ≤ 31) ∧ ∀ H', Same H H' → Q (.bl true) H'
theorem cut_tw (xs : List Int) (t w : Nat) : cutV (xs.map V.int) (some (t : Int)) (some ((t : Int) + (w : Int))) = ((xs.drop t).take w).map V.int := by
  have e : ((t : Int) + (w : Int)) = ((t + w : Nat) : Int) := by omega
  rw [e]
  unfold cutV
  rw [HT.sIx_nat, HT.sIx_nat, List.length_map, ← List.map_drop, ← List.map_take]
  congr 1
  by_cases h : t ≤ xs.length
  · rw [Nat.min_eq_left h]
    by_cases h2 : t + w ≤ xs.length
    · rw [Nat.min_eq_left h2]
      congr 1
      omega
    · rw [Nat.min_eq_right (by omega), List.take_of_length_le (by rw [List.length_drop]; omega), List.take_of_length_le (by rw [List.length_drop]; omega)]
  · rw [Nat.min_eq_right (by omega), Nat.min_eq_right (by omega), List.drop_eq_nil_of_le (Nat.le_refl _), List.drop_eq_nil_of_le (show xs.length ≤ t by omega)]
    simp
theorem pow_mono {a b : Nat} (h : a ≤ b) : (2 : Int) ^ a ≤ 2 ^ b := by
  induction h with
  | refl => exact Int.le_refl _
  | @step m _ ih =>
    have := pow_pos2 m
    rw [Int.pow_succ]
    omega
theorem Kp.base {H H1 H' : Hp} {wa : Addr} (k : Kp H1 H' wa) (s : Same H H1) (h : H wa = none) : Same H H' := fun b o e => k b o (s _ _ e) (ne_of_none e h)
section
variable {P : Program} {w : World} {K : PySem.W.Frag} {mg : Str → Option Value} {base : Heap} {C CW CS CL CU : Addr} {u8 : Value}
theorem scRe : FnScope ["_law_numbers", "_law_bits", "_law_widths", "_law_reader", "_law_at", "_law_wide", "_law_due", "_law_bit"] ["_law_numbers", "_law_bits", "_law_widths"] (defScope sRe) := ⟨rfl, rfl, rfl, by decide +kernel, rfl, by decide +kernel, by decide +kernel⟩
theorem ok_re {f fI fLa fTo : Addr} {fd dI dLa dTo : FuncData} (F : Fun K "_law_read" "_law_read" sRe f fd) (T : Txt mg) (M : Mk K C fI) (gI : mg "Reader" = some (.ref C)) (bI : Binds K dI ["self", "numbers"] []) (GI : FnOk P w K mg base CX0 1 fI dI ["self", "numbers"] (spRi C))
    (FLa : Fun K "_law_lacking" "_law_lacking" sLa fLa dLa) (bLa : Binds K dLa ["_law_reader", "_law_wide"] []) (gLa : mg "_law_lacking" = some (.ref fLa)) (GLa : FnOk P w K mg base CX0 3 fLa dLa ["_law_reader", "_law_wide"] (spLa C))
    (FTo : Fun K "_law_told" "_law_told" sTo fTo dTo) (bTo : Binds K dTo ["_law_reader", "_law_wide", "_law_due", "_law_left"] []) (gTo : mg "_law_told" = some (.ref fTo)) (GTo : FnOk P w K mg base CX0 3 fTo dTo ["_law_reader", "_law_wide", "_law_due", "_law_left"] (spTo C)) :
    FnOk P w K mg base CX0 4 f fd ["_law_numbers", "_law_bits", "_law_widths"] spRe := by
  refine F.ok scRe (fun vs H Q E h => ?_) (fun cdv A outer s H vs Q E hr h => ?_)
  · obtain ⟨nt, lb, lw, bs, ws, rfl, _⟩ := h
    rfl
  · obtain ⟨nt, lb, lw, bs, ws, rfl, hn, hb, hw, h01, h3k, h31, k⟩ := h
    have hr2 : Room 2 _ := hr.mono (by decide)
    refine ⟨_, pss_cons (ps_set (i := 3) scRe.nd rfl (Or.inl rfl) (pe_make M GI hr2 rfl gI bI .nil pass0 (pa_cons (pv 0) pa_nil)))
      (pss_cons (ps_set (i := 4) scRe.nd rfl (Or.inl rfl) pe_int)
      (pss_cons (ps_for PassesOwn.never rfl (pi_list (pv 2)) (pg_name (i := 5) scRe.nd rfl (Or.inl rfl))
        (pss_cons (ps_if (pt_cmpR op_gt (pe_op op_add (pv 4) (pv 5)) (pe_op op_mul pe_int (pe_callB call_len_seq (by rfl) T.len PySem.boot_len (pa_cons (pv 0) pa_nil))) (nomark _)) (pss_one (ps_ret (pe_call GLa hr rfl gLa FLa.kp bLa .nil pass0 (pa_cons (pv 3) (pa_cons (pv 5) pa_nil))))) pss_nil)
        (pss_cons (ps_set (i := 6) scRe.nd rfl (Or.inl rfl) pe_int)
        (pss_cons (ps_for PassesOwn.never rfl (pi_list (pe_slice sl_list (pv 1) (po_some (pv 4)) (po_some (pe_op op_add (pv 4) (pv 5))))) (pg_name (i := 7) scRe.nd rfl (Or.inl rfl)) (pss_one (ps_set (i := 6) scRe.nd rfl (Or.inl rfl) (pe_op op_add (pe_op op_mul pe_int (pv 6)) (pv 7)))))
        (pss_cons (ps_if (pt_not (pt_val (pe_call GTo hr rfl gTo FTo.kp bTo .nil pass0 (pa_cons (pv 3) (pa_cons (pv 5) (pa_cons (pe_op op_shl (pv 6) (pe_callB (call_max2 rfl) (by rfl) T.max PyProof.Rows.boot_max (pa_cons pe_int (pa_cons (pe_op op_sub (pe_op op_add (pv 4) (pv 5)) (pe_callB call_len_seq (by rfl) T.len PySem.boot_len (pa_cons (pv 1) pa_nil))) pa_nil))))
            (pa_cons (pe_op op_sub (pe_op op_mul pe_int (pe_callB call_len_seq (by rfl) T.len PySem.boot_len (pa_cons (pv 0) pa_nil))) (pv 4)) pa_nil))))))) (pss_one (ps_ret pe_bl)) pss_nil)
        (pss_one (ps_set (i := 4) scRe.nd rfl (Or.inl rfl) (pe_op op_add (pv 4) (pv 5)))))))))
      (pss_one (ps_ret (pe_ifExp (pt_cmpR op_lt (pe_op op_sub (pe_op op_mul pe_int (pe_callB call_len_seq (by rfl) T.len PySem.boot_len (pa_cons (pv 0) pa_nil))) (pv 4)) pe_int (nomark _))
        (pe_call GLa hr rfl gLa FLa.kp bLa .nil pass0 (pa_cons (pv 3) (pa_cons (pe_op op_add (pe_op op_sub (pe_op op_mul pe_int (pe_callB call_len_seq (by rfl) T.len PySem.boot_len (pa_cons (pv 0) pa_nil))) (pv 4)) pe_int) pa_nil))) pe_bl))))), ?_⟩
    have hel := eight_len bs
    have hpl := pad_len bs
    have hnl : ((eightM bs).map V.int).length = (eightM bs).length := List.length_map ..
    have hbl : (bs.map V.int).length = bs.length := List.length_map ..
    refine ⟨_, rfl, fun rd dx nr ndx nex => ?_⟩
    refine ⟨rd, dx, nt, eightM bs, rfl, upd_same, ?_, fun H1 hR1 kp1 => ⟨rfl, ?_⟩⟩
    · rw [upd_ne (ne_of_none hn nr), upd_ne (ne_of_none hn ndx)]
      exact hn
    have s1 : Same H H1 := fun b o e => kp1 b o (by rw [upd_ne (ne_of_none e nr), upd_ne (ne_of_none e ndx)]; exact e) (ne_of_none e nr)
    refine ⟨_, rfl, lw, rfl, ⟨_, SqL.of (s1 _ _ hw)⟩, ?_⟩
    refine for_list (K := K) (a := lw) (xs := ws.map fun (w : Nat) => V.int (w : Int)) (fun i σ H' => ∃ (t : Nat) (v5 v6 v7 : Option V), σ = [some (.ref nt), some (.ref lb), some (.ref lw), some (.ref rd), some (.int (t : Int)), v5, v6, v7] ∧ Same H H' ∧ RdAt C H' rd nt t (eightM bs) ∧ t ≤ (eightM bs).length * 8)
      ⟨0, none, none, none, rfl, s1, hR1, Nat.zero_le _⟩ (fun i σ H' _ ⟨_, _, _, _, _, e, _⟩ => SqL.of (e _ _ hw)) ?_ ?_
    · rintro i x σ H2 hx ⟨t, v5, v6, v7, rfl, s2, hR2, ht⟩
      rw [List.getElem?_map] at hx
      cases e : ws[i]? with
      | none => rw [e] at hx; cases hx
      | some w =>
        rw [e] at hx
        cases hx
        have hw31 := h31 w (List.mem_of_getElem? e)
        refine ⟨_, rfl, _, rfl, _, _, rfl, rfl, _, rfl, nt, _, rfl, .inr (SqT.of (s2 _ _ hn)), _, _, rfl, rfl, .inl ⟨by decide, by decide⟩, _, _, rfl, rfl, _, rfl, ?_⟩
        rw [hnl]
        refine iteA (fun hc => ?_) fun hc => ?_
        · have hc' : (t : Int) + (w : Int) > 8 * ((eightM bs).length : Int) := of_decide_eq_true hc
          exact ⟨_, rfl, _, rfl, rd, nt, t, w, eightM bs, rfl, hR2, by omega, fun H3 s3 => k _ (s2.trans s3)⟩
        have hc' : ¬ (t : Int) + (w : Int) > 8 * ((eightM bs).length : Int) := of_decide_eq_false hc
        have htw : t + w ≤ (pad bs).length := by omega
        refine ⟨_, rfl, _, rfl, _, rfl, _, rfl, _, rfl, _, _, rfl, rfl, _, rfl, lb, _, rfl, SqL.of (s2 _ _ hb), fun p hp => ?_⟩
        rw [cut_tw]
        have s3 := (Same.refl H2).upd_free (o := .lst (((bs.drop t).take w).map V.int)) hp
        have g3 : upd H2 p (.lst (((bs.drop t).take w).map V.int)) p = some (.lst (((bs.drop t).take w).map V.int)) := upd_same
        generalize upd H2 p (.lst (((bs.drop t).take w).map V.int)) = H3 at s3 g3
        refine ⟨p, rfl, ⟨_, SqL.of g3⟩, ?_⟩
        refine for_list (K := K) (a := p) (xs := ((bs.drop t).take w).map V.int) (fun j σ H' => ∃ v7, σ = [some (.ref nt), some (.ref lb), some (.ref lw), some (.ref rd), some (.int (t : Int)), some (.int (w : Int)), some (.int (numI (((bs.drop t).take w).take j))), v7] ∧ H' = H3) ⟨v7, rfl, rfl⟩ (fun j σ H' _ ⟨_, _, e⟩ => by rw [e]; exact SqL.of g3) ?_ ?_
        · rintro j x σ H' hx ⟨v7, rfl, rfl⟩
          rw [List.getElem?_map] at hx
          cases e : ((bs.drop t).take w)[j]? with
          | none => rw [e] at hx; cases hx
          | some b =>
            rw [e] at hx
            cases hx
            refine ⟨_, rfl, _, _, rfl, rfl, cmL, _, rfl, _, _, rfl, rfl, some (V.int b), ?_, rfl⟩
            rw [List.take_add_one, e]
            show _ = [some (V.ref nt), some (V.ref lb), some (V.ref lw), some (V.ref rd), _, _, some (V.int (numI (((bs.drop t).take w).take j ++ [b]))), _]
            rw [num_snoc, Int.mul_comm (numI (((bs.drop t).take w).take j)) 2]
            rfl
        rintro σ H' ⟨v7, rfl, rfl⟩
        rw [List.length_map, List.take_of_length_le (Nat.le_refl _)]
        have s23 := s2.trans s3
        have hd01 : B01 ((bs.drop t).take w) := fun c hc => h01 c (List.mem_of_mem_drop (List.mem_of_mem_take hc))
        obtain ⟨d1, d2⟩ := num_range hd01
        have d3 : (2 : Int) ^ ((bs.drop t).take w).length ≤ 2 ^ 31 := pow_mono (by rw [List.length_take]; omega)
        refine ⟨_, rfl, _, rfl, _, rfl, _, rfl, _, rfl, _, _, rfl, rfl, _, rfl, lb, _, rfl, .inl (SqL.of (s23 _ _ hb)), _, _, rfl, rfl, _, _, rfl, ?_⟩
        rw [hbl]
        have em : (if (t : Int) + (w : Int) - (bs.length : Int) > 0 then (t : Int) + (w : Int) - (bs.length : Int) else 0) = ((t + w - bs.length : Nat) : Int) := by split <;> omega
        rw [em]
        refine ⟨_, _, rfl, rfl, ⟨by omega, by omega, by omega⟩, _, rfl, nt, _, rfl, .inr (SqT.of (s23 _ _ hn)), _, _, rfl, rfl, .inl ⟨by decide, by decide⟩, _, rfl, _, _, rfl, rfl, ?_⟩
        obtain ⟨dx2, fs2, r2, R2, n2⟩ := hR2
        refine ⟨rd, nt, t, w, eightM bs, _, _, rfl, ⟨dx2, fs2, s3 _ _ r2, R2, s3 _ _ n2⟩, by omega, by omega, by omega, ?_, ?_, fun H4 hR4 kp4 => ⟨true, rfl, iteF ?_⟩⟩
        · show (8 : Int) * ((((eightM bs).map V.int).length : Nat) : Int) - (t : Int) = ((eightM bs).length : Int) * 8 - (t : Int)
          rw [hnl]
          omega
        · show numI ((bs.drop t).take w) * 2 ^ (((t + w - bs.length : Nat) : Int)).toNat = numI (readM (eightM bs) t w)
          rw [Int.toNat_natCast]
          exact (read_num h01 htw).symm
        · exact ⟨_, rfl, _, rfl, _, _, rfl, rfl, t + w, _, _, _, rfl, kp4.base s23 nr, hR4, by omega⟩
    · rintro σ H2 ⟨t, v5, v6, v7, rfl, s2, hR2, ht⟩
      refine ⟨_, rfl, nt, _, rfl, .inr (SqT.of (s2 _ _ hn)), _, _, rfl, rfl, .inl ⟨by decide, by decide⟩, _, rfl, _, _, rfl, rfl, _, _, rfl, rfl, _, rfl, ?_⟩
      refine iteA (fun hc => ?_) fun hc => k _ s2
      refine ⟨_, rfl, _, rfl, nt, _, rfl, .inr (SqT.of (s2 _ _ hn)), _, _, rfl, rfl, .inl ⟨by decide, by decide⟩, _, rfl, _, _, rfl, rfl, _, _, rfl, rfl, ?_⟩
      refine ⟨rd, nt, t, (eightM bs).length * 8 - t + 1, eightM bs, ?_, hR2, by omega, fun H3 s3 => k _ (s2.trans s3)⟩
      show [V.ref rd, V.int ((8 : Int) * ((((eightM bs).map V.int).length : Nat) : Int) - (t : Int) + 1)] = _
      rw [hnl, show (8 : Int) * ((eightM bs).length : Int) - (t : Int) + 1 = (((eightM bs).length * 8 - t + 1 : Nat) : Int) by omega]
end
end BT
namespace BT
open PySem L2
def spLaw (K : PySem.W.Frag) : Sp := fun vs H Q _ => ∃ (a : Addr) (ns : List Int), vs = [.ref a] ∧ SqL K H a (ns.map V.int) ∧ ns.length ≤ 63 ∧ ∀ H', Q (.bl true) H'
theorem WrAt.kp {C : Addr} {H H' : Hp} {wr l l' : Addr} {bs : List Int} {xs : List V} (k : Kp H H' l) (hl : H l = some (.lst xs)) (n : l' ≠ l) (h : WrAt C H wr l' bs) : WrAt C H' wr l' bs := by
  obtain ⟨dx, fs, h1, h2, h3, h4, h5⟩ := h
  exact ⟨dx, fs, k _ _ h1 (fun z => by rw [z, hl] at h1; cases h1), h2, h3, h4, k _ _ h5 n⟩
theorem WrAt.put {C : Addr} {H H' : Hp} {wr l : Addr} {bs cs : List Int} (k : Kp H H' l) (h : WrAt C H wr l bs) (e : H' l = some (.lst (cs.map V.int))) : WrAt C H' wr l cs := by
  obtain ⟨dx, fs, h1, h2, h3, h4, h5⟩ := h
  exact ⟨dx, fs, k _ _ h1 (fun z => by rw [z, h5] at h1; cases h1), h2, h3, h4, e⟩
theorem WrAt.same {C : Addr} {H H' : Hp} {wr l : Addr} {bs : List Int} (s : Same H H') (h : WrAt C H wr l bs) : WrAt C H' wr l bs := by
  obtain ⟨dx, fs, h1, h2, h3, h4, h5⟩ := h
  exact ⟨dx, fs, s _ _ h1, h2, h3, h4, s _ _ h5⟩
theorem WrAt.at_ {C : Addr} {H : Hp} {wr l : Addr} {bs : List Int} (h : WrAt C H wr l bs) : ∃ dx fs, H wr = some (.ins C dx fs) ∧ fs.lookup ("put" : Str) = none ∧ fs.lookup ("told" : Str) = none ∧ H l = some (.lst (bs.map V.int)) := by
  obtain ⟨dx, fs, h1, h2, h3, h4, h5⟩ := h
  exact ⟨dx, fs, h1, h3, h4, h5⟩
theorem cut60 (ns : List Int) : cutV (ns.map V.int) none (some 60) = (ns.take 60).map V.int := by
  unfold cutV
  rw [show (60 : Int) = ((60 : Nat) : Int) from rfl, HT.sIx_nat, HT.sIx_none, List.length_map, List.drop_zero, Nat.sub_zero, List.map_take]
  by_cases h : 60 ≤ ns.length
  · rw [Nat.min_eq_left h]
  · rw [Nat.min_eq_right (by omega), List.take_of_length_le (by rw [List.length_map]; exact Nat.le_refl _), List.take_of_length_le (by rw [List.length_map]; omega)]
section
variable {P : Program} {w : World} {K : PySem.W.Frag} {mg : Str → Option Value} {base : Heap} {CW : Addr}
abbrev nLaw : List Str := ["_law_script", "_law_writer", "_law_beside", "_law_bits", "_law_others", "_law_cells", "_law_k", "_law_wide", "_law_number_here", "_law_numbers", "_law_widths"]
theorem scLaw : FnScope nLaw ["_law_script"] (defScope sLaw) := ⟨rfl, rfl, rfl, by decide +kernel, rfl, by decide +kernel, by decide +kernel⟩
def scopeC : Scope := { kind := .function, names := [(".0", .local), ("_law_cell", .local), ("_law_number", .globalImplicit)], isGenerator := false, isCoroutine := false, more := [] }
theorem scC : BlkScope (defScope sLaw) nLaw ["_law_cell"] [] [] scopeC := ⟨rfl, by decide +kernel, by decide +kernel, by decide +kernel, rfl, by decide +kernel, by decide +kernel⟩
theorem ok_law {f fI fP fT fPu fEi fAl fNb fRe : Addr} {fd dI dP dT dPu dEi dAl dNb dRe : FuncData} (F : Fun K "law" "law" sLaw f fd) (T : Txt mg) (M : Mk K CW fI) (gI : mg "Writer" = some (.ref CW)) (Y : WrK K CW)
    (bI : Binds K dI ["self"] []) (GI : FnOk P w K mg base CX0 1 fI dI ["self"] (spWi CW)) (bP : Binds K dP ["self", "number", "wide"] []) (mP : Meth K CW "put" fP) (GP : FnOk P w K mg base CX0 2 fP dP ["self", "number", "wide"] (spWp CW))
    (bT : Binds K dT ["self"] []) (mT : Meth K CW "told" fT) (GT : FnOk P w K mg base CX0 2 fT dT ["self"] (spWt CW))
    (GRe : FnOk P w K mg base CX0 4 fRe dRe ["_law_numbers", "_law_bits", "_law_widths"] spRe)
    (FPu : Fun K "_law_put" "_law_put" sPu fPu dPu) (bPu : Binds K dPu ["_law_bits", "_law_number_here", "_law_wide"] []) (gPu : mg "_law_put" = some (.ref fPu))
    (FEi : Fun K "_law_eighths" "_law_eighths" sEi fEi dEi) (bEi : Binds K dEi ["_law_bits"] []) (gEi : mg "_law_eighths" = some (.ref fEi))
    (FAl : Fun K "_law_alike" "_law_alike" sAl fAl dAl) (bAl : Binds K dAl ["_law_found", "_law_due"] []) (gAl : mg "_law_alike" = some (.ref fAl))
    (FNb : Fun K "_law_number" "_law_number" sNb fNb dNb) (bNb : Binds K dNb ["_law_cell"] []) (gNb : mg "_law_number" = some (.ref fNb))
    (FRe : Fun K "_law_read" "_law_read" sRe fRe dRe) (bRe : Binds K dRe ["_law_numbers", "_law_bits", "_law_widths"] []) (gRe : mg "_law_read" = some (.ref fRe)) :
    FnOk P w K mg base CX0 5 f fd ["_law_script"] (spLaw K) := by
  have GPu : FnOk P w K mg base CX0 1 fPu dPu ["_law_bits", "_law_number_here", "_law_wide"] spPu := ok_pu FPu T
  have GEi : FnOk P w K mg base CX0 1 fEi dEi ["_law_bits"] spEi := ok_ei FEi T
  have GAl : FnOk P w K mg base CX0 1 fAl dAl ["_law_found", "_law_due"] spAl := ok_al FAl T
  have GNb : FnOk P w K mg base CX0 1 fNb dNb ["_law_cell"] spNb := ok_nb FNb
  refine F.ok scLaw (fun vs H Q E h => ?_) (fun cdv A outer s H vs Q E hr h => ?_)
  · obtain ⟨a, ns, rfl, _⟩ := h
    rfl
  · obtain ⟨a, ns, rfl, hS, hln, k⟩ := h
    have hr1 : Room 1 _ := hr.mono (by decide)
    have hr2 : Room 2 _ := hr.mono (by decide)
    refine ⟨_, pss_cons (ps_set (i := 1) scLaw.nd rfl (Or.inl rfl) (pe_make0 M GI hr2 rfl gI bI .nil pass0))
      (pss_cons (ps_set (i := 2) scLaw.nd rfl (Or.inl rfl) (pe_make0 M GI hr2 rfl gI bI .nil pass0))
      (pss_cons (ps_set (i := 3) scLaw.nd rfl (Or.inl rfl) (pe_lst pa_nil))
      (pss_cons (ps_set (i := 4) scLaw.nd rfl (Or.inl rfl) (pe_lst pa_nil))
      (pss_cons (ps_set (i := 5) scLaw.nd rfl (Or.inl rfl) (pe_slice sl_list (pv 0) po_none (po_some pe_int)))
      (pss_cons (ps_for PassesOwn.never rfl (pi_range1 rfl T.range (pa_cons (pe_callB call_len_seq (by rfl) T.len PySem.boot_len (pa_cons (pv 5) pa_nil)) pa_nil)) (pg_name (i := 6) scLaw.nd rfl (Or.inl rfl))
        (pss_cons (ps_asg (pe_call GNb hr1 rfl gNb FNb.kp bNb .nil pass0 (pa_cons (pe_ix ix_list (pv 5) (pv 6) (fun _ _ => rfl)) pa_nil)) (pg_tup (n := 2) rfl (pgs_cons (pg_name (i := 7) scLaw.nd rfl (Or.inl rfl)) (pgs_cons (pg_name (i := 8) scLaw.nd rfl (Or.inl rfl)) pgs_nil))))
        (pss_cons (ps_expr (pe_meth (pv 1) Y.cls mP GP hr2 bP .nil pass0 (pa_cons (pv 8) (pa_cons (pv 7) pa_nil))))
        (pss_cons (ps_set (i := 3) scLaw.nd rfl (Or.inl rfl) (pe_call GPu hr1 rfl gPu FPu.kp bPu .nil pass0 (pa_cons (pv 3) (pa_cons (pv 8) (pa_cons (pv 7) pa_nil)))))
        (pss_cons (ps_cut (ps_if (pt_cmpR op_eq (pe_op op_mod (pv 6) pe_int) pe_int (nomark _))
          (pss_cons (ps_expr (pe_meth (pv 2) Y.cls mP GP hr2 bP .nil pass0 (pa_cons (pv 8) (pa_cons (pv 7) pa_nil))))
          (pss_one (ps_set (i := 4) scLaw.nd rfl (Or.inl rfl) (pe_call GPu hr1 rfl gPu FPu.kp bPu .nil pass0 (pa_cons (pv 4) (pa_cons (pv 8) (pa_cons (pv 7) pa_nil))))))) pss_nil))
        (pss_one (ps_if (PW.pt (pw_and (pt_cmpR op_eq (pe_op op_mod (pe_op op_fdiv (pe_ix ix_list (pv 5) (pv 6) (fun _ _ => rfl)) pe_int) pe_int) pe_int (nomark _))
          (pw_and1 (pt_not (pt_val (pe_call GAl hr1 rfl gAl FAl.kp bAl .nil pass0 (pa_cons (pe_meth0 (pv 1) Y.cls mT GT hr2 bT .nil pass0) (pa_cons (pe_call GEi hr1 rfl gEi FEi.kp bEi .nil pass0 (pa_cons (pv 3) pa_nil)) pa_nil)))))))) (pss_one (ps_ret pe_bl)) pss_nil)))))))
      (pss_cons (ps_set (i := 9) scLaw.nd rfl (Or.inl rfl) (pe_call GEi hr1 rfl gEi FEi.kp bEi .nil pass0 (pa_cons (pv 3) pa_nil)))
      (pss_cons (ps_if (PW.pt (pw_or (pt_not (pt_val (pe_call GAl hr1 rfl gAl FAl.kp bAl .nil pass0 (pa_cons (pe_meth0 (pv 2) Y.cls mT GT hr2 bT .nil pass0) (pa_cons (pe_call GEi hr1 rfl gEi FEi.kp bEi .nil pass0 (pa_cons (pv 4) pa_nil)) pa_nil)))))
          (pw_or1 (pt_not (pt_val (pe_call GAl hr1 rfl gAl FAl.kp bAl .nil pass0 (pa_cons (pe_meth0 (pv 1) Y.cls mT GT hr2 bT .nil pass0) (pa_cons (pv 9) pa_nil)))))))) (pss_one (ps_ret pe_bl)) pss_nil)
      (pss_cons (ps_setlc (i := 10) scC rfl rfl rfl (pi_list (pv 5)) (fun fp C s1 H1 => pg_name (i := 0) scC.nd rfl (Or.inl rfl)) (fun fp C s1 H1 => pts_nil)
        (fun fp C s1 H1 => pe_ix (r := rIxT K) ix_tup (pe_call GNb hr1 rfl gNb FNb.kp bNb .nil pass0 (pa_cons (pv 0) pa_nil)) pe_int (fun _ _ => rfl)) scLaw.nd rfl rfl rfl)
      (pss_one (ps_ret (pe_and (pe_call GRe hr rfl gRe FRe.kp bRe .nil pass0 (pa_cons (pv 9) (pa_cons (pv 3) (pa_cons (pv 10) pa_nil))))
        (pe_one (pe_call GRe hr rfl gRe FRe.kp bRe .nil pass0 (pa_cons (pv 9) (pa_cons (pv 3) (pa_cons (pe_op op_catL (pe_rev (pv 10) (pe_un un_neg pe_int)) (pe_lst (pa_cons pe_int pa_nil))) pa_nil)))))))))))))))), ?_⟩
    intro wr dx nw ndx nex
    refine ⟨wr, dx, rfl, upd_same, fun l1 H1 hl1 nl1 hW1 kp1 => ⟨rfl, ?_⟩⟩
    have s1 : Same H H1 := fun b o e => kp1 b o (by rw [upd_ne (ne_of_none e nw), upd_ne (ne_of_none e ndx)]; exact e) (ne_of_none e nw)
    intro be dy nb ndy ney
    refine ⟨be, dy, rfl, upd_same, fun l2 H2 hl2 nl2 hW2 kp2 => ⟨rfl, ?_⟩⟩
    have up2 : ∀ b o, H1 b = some o → upd (upd H1 dy (.own be)) be (.ins CW dy []) b = some o := fun b o e => by rw [upd_ne (ne_of_none e nb), upd_ne (ne_of_none e ndy)]; exact e
    have s2 : Same H1 H2 := fun b o e => kp2 b o (up2 b o e) (ne_of_none e nb)
    have hW1' := hW1.same s2
    obtain ⟨_, _, _, _, _, x1⟩ := hW1.at_
    obtain ⟨_, _, _, _, _, x1'⟩ := hW1'.at_
    obtain ⟨_, _, _, _, _, x2⟩ := hW2.at_
    have n12 : l1 ≠ l2 := fun z => by
      have := up2 _ _ x1
      rw [z, hl2] at this
      cases this
    refine ⟨(by show 0 ≤ sizeLine; decide), fun lb hlb => ?_⟩
    have s3 := (Same.refl H2).upd_free (o := .lst []) hlb
    have g3 : upd H2 lb (.lst []) lb = some (.lst []) := upd_same
    generalize upd H2 lb (.lst []) = H3 at s3 g3
    refine ⟨(by show 0 ≤ sizeLine; decide), fun lo hlo => ?_⟩
    have s4 := (Same.refl H3).upd_free (o := .lst []) hlo
    have g4 : upd H3 lo (.lst []) lo = some (.lst []) := upd_same
    generalize upd H3 lo (.lst []) = H4 at s4 g4
    have t4 := s3.trans s4
    have n1b : l1 ≠ lb := ne_of_none x1' hlb
    have n2b : l2 ≠ lb := ne_of_none x2 hlb
    have n1o : l1 ≠ lo := ne_of_none (s3 _ _ x1') hlo
    have n2o : l2 ≠ lo := ne_of_none (s3 _ _ x2) hlo
    have nbo : lb ≠ lo := ne_of_none g3 hlo
    refine ⟨_, rfl, _, rfl, a, _, rfl, (((s1.trans s2).trans t4)).seq hS, fun lc hlc => ?_⟩
    rw [cut60]
    generalize hcs : ns.take 60 = cs
    have hcl : cs.length ≤ 60 := by rw [← hcs, List.length_take]; omega
    have s5 := (Same.refl H4).upd_free (o := .lst (cs.map V.int)) hlc
    have g5 : upd H4 lc (.lst (cs.map V.int)) lc = some (.lst (cs.map V.int)) := upd_same
    generalize upd H4 lc (.lst (cs.map V.int)) = H5 at s5 g5
    have t5 := t4.trans s5
    have n1c : l1 ≠ lc := ne_of_none (t4 _ _ x1') hlc
    have n2c : l2 ≠ lc := ne_of_none (t4 _ _ x2) hlc
    have nbc : lb ≠ lc := ne_of_none (s4 _ _ g3) hlc
    have noc : lo ≠ lc := ne_of_none g4 hlc
    have hml : (cs.map V.int).length = cs.length := List.length_map ..
    refine ⟨_, rfl, lc, _, rfl, .inl (SqL.of g5), _, rfl, by omega, by omega, ?_⟩
    rw [hml, Int.toNat_natCast]
    refine for_range (n := cs.length) (fun i σ H' => ∃ (v6 v7 v8 : Option V) (bs os : List Int), σ = [some (.ref a), some (.ref wr), some (.ref be), some (.ref lb), some (.ref lo), some (.ref lc), v6, v7, v8, none, none] ∧ H' lc = some (.lst (cs.map V.int)) ∧ WrAt CW H' wr l1 bs ∧ WrAt CW H' be l2 os ∧ H' lb = some (.lst (bs.map V.int)) ∧ H' lo = some (.lst (os.map V.int)) ∧ B01 bs ∧ bs.length ≤ 31 * i ∧ os.length ≤ 31 * i)
      ⟨none, none, none, [], [], rfl, g5, hW1'.same t5, hW2.same t5, (s4.trans s5) _ _ g3, s5 _ _ g4, (fun b hb => by cases hb), Nat.zero_le _, Nat.zero_le _⟩ ?_ ?_
    · rintro i σ H6 hi ⟨v6, v7, v8, bs, os, rfl, c6, w6, e6, b6, o6, h01, lb6, lo6⟩
      have eat : atI (cs.map V.int) (0 + (i : Int)) = some (.int cs[i]) := by
        rw [Int.zero_add]
        refine atI_nat ?_
        rw [List.getElem?_map]
        simp [hi]
      refine ⟨_, rfl, _, rfl, lc, _, _, _, rfl, rfl, SqL.of c6, eat, cs[i], rfl, fun p n H7 s7 hp => ?_⟩
      refine ⟨p, _, rfl, SqT.of hp, rfl, _, _, rfl, _, _, rfl, rfl, ?_⟩
      generalize hwd : cs[i] % 31 = wd at hp
      obtain ⟨w, rfl⟩ : ∃ w : Nat, wd = (w : Int) := ⟨wd.toNat, by omega⟩
      have hw31 : w ≤ 31 := by omega
      have w7 := w6.same s7
      obtain ⟨dx7, fs7, r7, p7, _, l7⟩ := w7.at_
      refine ⟨_, rfl, wr, dx7, fs7, rfl, r7, p7, _, rfl, _, rfl, wr, l1, bs, n, w, rfl, w7, hw31, by omega, fun H8 kp8 hl8 => ?_⟩
      have e8 := (e6.same s7).kp kp8 l7 (Ne.symm n12)
      have b8 := kp8 _ _ (s7 _ _ b6) (Ne.symm n1b)
      have o8 := kp8 _ _ (s7 _ _ o6) (Ne.symm n1o)
      have c8 := kp8 _ _ (s7 _ _ c6) (Ne.symm n1c)
      have w8 := w7.put kp8 hl8
      refine ⟨_, rfl, _, rfl, _, rfl, lb, bs, n, w, rfl, b8, hw31, by omega, fun H9 kp9 hl9 => ?_⟩
      have w9 := w8.kp kp9 b8 n1b
      have e9 := e8.kp kp9 b8 n2b
      have o9 := kp9 _ _ o8 (Ne.symm nbo)
      have c9 := kp9 _ _ c8 (Ne.symm nbc)
      have h01' := h01.append (bits_01 n w)
      have hbl : (bs ++ bitsI n w).length ≤ 31 * (i + 1) := by rw [List.length_append, bits_len]; omega
      have lo6' : os.length ≤ 31 * (i + 1) := by omega
      refine ⟨fun σ' H' => ∃ (os' : List Int), σ' = [some (.ref a), some (.ref wr), some (.ref be), some (.ref lb), some (.ref lo), some (.ref lc), some (.int (0 + (i : Int))), some (.int (w : Int)), some (.int n), none, none] ∧ H' lc = some (.lst (cs.map V.int)) ∧ WrAt CW H' wr l1 (bs ++ bitsI n w) ∧ WrAt CW H' be l2 os' ∧ H' lb = some (.lst ((bs ++ bitsI n w).map V.int)) ∧ H' lo = some (.lst (os'.map V.int)) ∧ os'.length ≤ 31 * (i + 1), ?_, ?_⟩
      · refine ⟨_, rfl, _, _, rfl, rfl, (by show (0 : Int) < 2; decide), rfl, _, rfl, iteA (fun _ => ?_) fun _ => ⟨os, rfl, c9, w9, e9, hl9, o9, lo6'⟩⟩
        obtain ⟨dx9, fs9, r9, p9, _, l9⟩ := e9.at_
        refine ⟨_, rfl, be, dx9, fs9, rfl, r9, p9, _, rfl, _, rfl, be, l2, os, n, w, rfl, e9, hw31, by omega, fun HA kpA hlA => ?_⟩
        have wA := w9.kp kpA l9 n12
        have bA := kpA _ _ hl9 (Ne.symm n2b)
        have oA := kpA _ _ o9 (Ne.symm n2o)
        have cA := kpA _ _ c9 (Ne.symm n2c)
        have eA := e9.put kpA hlA
        refine ⟨_, rfl, _, rfl, _, rfl, lo, os, n, w, rfl, oA, hw31, by omega, fun HB kpB hlB => ?_⟩
        exact ⟨os ++ bitsI n w, rfl, kpB _ _ cA (Ne.symm noc), wA.kp kpB oA n1o, eA.kp kpB oA n2o, kpB _ _ bA nbo, hlB, by rw [List.length_append, bits_len]; omega⟩
      rintro _ HC ⟨os', rfl, cC, wC, eC, bC, oC, loC⟩
      refine ⟨_, rfl, _, rfl, lc, _, _, _, rfl, rfl, SqL.of cC, eat, _, _, rfl, rfl, ⟨by decide, by decide⟩, _, _, rfl, rfl, (by show (0 : Int) < 3; decide), rfl, _, rfl, iteA (fun _ => ?_) fun _ => ?_⟩
      · obtain ⟨dxC, fsC, rC, _, tC', lC⟩ := wC.at_
        refine ⟨_, rfl, wr, dxC, fsC, rfl, rC, tC', wr, l1, bs ++ bitsI n w, rfl, wC, by omega, fun p1 HD sD hp1 => ?_⟩
        refine ⟨_, rfl, lb, bs ++ bitsI n w, rfl, sD _ _ bC, by omega, fun p2 HE sE hp2 => ?_⟩
        have hel := eight_len (bs ++ bitsI n w)
        have hpl := pad_len (bs ++ bitsI n w)
        refine ⟨p1, p2, _, rfl, sE _ _ hp1, hp2, by omega, fun HF sF => ⟨true, rfl, iteF ?_⟩⟩
        have tF := (sD.trans sE).trans sF
        exact ⟨_, _, _, _, os', rfl, tF _ _ cC, wC.same tF, eC.same tF, tF _ _ bC, tF _ _ oC, h01', hbl, loC⟩
      · exact iteF ⟨_, _, _, _, os', rfl, cC, wC, eC, bC, oC, h01', hbl, loC⟩
    · rintro σ H6 ⟨v6, v7, v8, bs, os, rfl, c6, w6, e6, b6, o6, h01, lb6, lo6⟩
      have hel := eight_len bs
      have hpl := pad_len bs
      have hel2 := eight_len os
      have hpl2 := pad_len os
      refine ⟨_, rfl, lb, bs, rfl, b6, by omega, fun pn H7 s7 hpn => ?_⟩
      have e7 := e6.same s7
      obtain ⟨dx7, fs7, r7, _, t7, _⟩ := e7.at_
      refine ⟨_, rfl, be, dx7, fs7, rfl, r7, t7, be, l2, os, rfl, e7, by omega, fun p1 H8 s8 hp1 => ?_⟩
      refine ⟨_, rfl, lo, os, rfl, (s7.trans s8) _ _ o6, by omega, fun p2 H9 s9 hp2 => ?_⟩
      refine ⟨p1, p2, _, rfl, s9 _ _ hp1, hp2, by omega, fun HA sA => ⟨true, rfl, iteF ?_⟩⟩
      have tA := (s8.trans s9).trans sA
      have tA6 := s7.trans tA
      have wA := w6.same tA6
      obtain ⟨dxA, fsA, rA, _, tA', _⟩ := wA.at_
      refine ⟨_, rfl, wr, dxA, fsA, rfl, rA, tA', wr, l1, bs, rfl, wA, by omega, fun p3 HB sB hp3 => ?_⟩
      refine ⟨_, rfl, p3, pn, _, rfl, hp3, (tA.trans sB) _ _ hpn, by omega, fun HC sC => ⟨true, rfl, iteF ?_⟩⟩
      have tC := (tA.trans sB).trans sC
      have tC6 := s7.trans tC
      have cC := tC6 _ _ c6
      -- the widths
      refine ⟨_, rfl, lc, rfl, ⟨_, SqL.of cC⟩, fun D hD => ?_⟩
      refine lc_list (K := K) (a := lc) (xs := cs.map V.int) (fun i ys H7 => Same HC H7 ∧ H7 D = some (.lst ys) ∧ ys = ((cs.map fun c => (c % 31).toNat).take i).map fun (w : Nat) => V.int (w : Int)) (lt_line (by omega)) ⟨(Same.refl HC).upd_free hD, upd_same, by rw [List.take_zero]; rfl⟩
        (fun i ys H7 h => by rw [h.2.2, List.length_map, List.length_take]; omega) (fun i ys H7 h => SqL.of (h.1 _ _ cC)) ?_ ?_
      · rintro i ys HD x N M hx ⟨u1, u2, rfl⟩ hN hM
        rw [List.getElem?_map] at hx
        cases e : cs[i]? with
        | none => rw [e] at hx; cases hx
        | some c =>
          rw [e] at hx
          cases hx
          refine ⟨_, rfl, c, rfl, fun p n HE sE hp => ?_⟩
          refine ⟨p, _, _, .int (c % 31), rfl, rfl, SqT.of hp, atI_nat (j := 0) rfl, hN _ HE (sE _ _ u2) ⟨(u1.trans sE).upd_free hD, upd_same, ?_⟩⟩
          rw [List.take_add_one, List.getElem?_map, e, List.map_append]
          show _ ++ [V.int (c % 31)] = _ ++ [V.int (((c % 31).toNat : Nat) : Int)]
          rw [Int.toNat_of_nonneg (Int.emod_nonneg c (by decide))]
      · rintro ys HD ⟨u1, u2, rfl⟩
        rw [List.take_of_length_le (by rw [List.length_map, List.length_map]; exact Nat.le_refl _)] at u2
        have h31 : ∀ w ∈ cs.map (fun c => (c % 31).toNat), w ≤ 31 := fun w hw => by
          obtain ⟨c, _, rfl⟩ := List.mem_map.mp hw
          have := Int.emod_lt_of_pos c (b := 31) (by decide)
          omega
        have tD := tC.trans u1
        refine ⟨_, rfl, _, rfl, _, rfl, pn, lb, D, bs, _, rfl, tD _ _ hpn, (s7.trans tD) _ _ b6, u2, h01, by omega, h31, fun HE sE => ⟨true, rfl, iteT ?_⟩⟩
        refine ⟨_, rfl, _, rfl, _, rfl, _, rfl, D, _, rfl, rfl, SqL.of (sE _ _ u2), fun p hp => ?_⟩
        have sF := (Same.refl HE).upd_free (o := .lst ((cs.map fun c => (c % 31).toNat).map fun (w : Nat) => V.int (w : Int)).reverse) hp
        have gF : upd HE p (.lst ((cs.map fun c => (c % 31).toNat).map fun (w : Nat) => V.int (w : Int)).reverse) p = some (.lst ((cs.map fun c => (c % 31).toNat).map fun (w : Nat) => V.int (w : Int)).reverse) := upd_same
        generalize upd HE p (.lst ((cs.map fun c => (c % 31).toNat).map fun (w : Nat) => V.int (w : Int)).reverse) = HF at sF gF
        refine ⟨(by show 1 ≤ sizeLine; decide), fun z hz => ?_⟩
        have sG := (Same.refl HF).upd_free (o := .lst [V.int 30]) hz
        have gG : upd HF z (.lst [V.int 30]) z = some (.lst [V.int 30]) := upd_same
        generalize upd HF z (.lst [V.int 30]) = HG at sG gG
        refine ⟨p, z, _, _, rfl, rfl, SqL.of (sG _ _ gF), SqL.of gG, lt_line (by rw [List.length_reverse, List.length_map, List.length_map, List.length_singleton]; omega), fun y hy => ?_⟩
        have sH := (Same.refl HG).upd_free (o := .lst (((cs.map fun c => (c % 31).toNat).map fun (w : Nat) => V.int (w : Int)).reverse ++ [V.int 30])) hy
        have tH := ((tD.trans sE).trans (sF.trans sG)).trans sH
        refine ⟨pn, lb, y, bs, (cs.map fun c => (c % 31).toNat).reverse ++ [30], rfl, tH _ _ hpn, (s7.trans tH) _ _ b6, ?_, h01, by omega, ?_, fun HI sI => k _⟩
        · rw [upd_same, List.map_append, List.map_reverse]
          rfl
        · intro w hw
          rcases List.mem_append.mp hw with h | h
          · exact h31 w (List.mem_reverse.mp h)
          · rw [List.mem_singleton.mp h]
            decide
end
end BT

namespace BT
open PySem L2
theorem all_mk {l : PySem.W.OpenLaw} {w : World} {K : PySem.W.Frag} {h : Heap} {mg : Str → Option Value} {fa CW CR XS XL XU fNu fBo fPu fEi fAl fNb fTo fLa fRe fZ fWi fWp fWt fRi fRb fRl : Addr} (X : K.In h) (G : h.Ns mainGlobals mg) (hfa : mg "law" = some (.ref fa))
    {odNu anNu odBo anBo odPu anPu odEi anEi odAl anAl odNb anNb odTo anTo odLa anLa odRe anRe odZ anZ odWi anWi odWp anWp odWt anWt odRi anRi odRb anRb odRl anRl : Option Addr} {slNu slBo slPu slEi slAl slNb slTo slLa slRe slZ slWi slWp slWt slRi slRb slRl : Array (Option Value)} {ocNu kVNu dcNu pmNu cdNu ctNu ocBo kVBo dcBo pmBo cdBo ctBo ocPu kVPu dcPu pmPu cdPu ctPu ocEi kVEi dcEi pmEi cdEi ctEi ocAl kVAl dcAl pmAl cdAl ctAl ocNb kVNb dcNb pmNb cdNb ctNb ocTo kVTo dcTo pmTo cdTo ctTo ocLa kVLa dcLa pmLa cdLa ctLa ocRe kVRe dcRe pmRe cdRe ctRe ocZ kVZ dcZ pmZ cdZ ctZ ocWi kVWi dcWi pmWi cdWi ctWi ocWp kVWp dcWp pmWp cdWp ctWp ocWt kVWt dcWt pmWt cdWt ctWt ocRi kVRi dcRi pmRi cdRi ctRi ocRb kVRb dcRb pmRb cdRb ctRb ocRl kVRl dcRl pmRl cdRl ctRl : Value}
    {tk8 : Tok}
    (aCW : PySem.W.nsIn K mainGlobals "Writer" = some (some (.ref CW)))
    (pgCW : PySem.W.plainGet K CW Str.empty = true)
    (hdCW : PySem.W.hasDictIn K CW = true)
    (poCW : PySem.W.plainOver K CW = true)
    (saCW : PySem.W.findIn K (.ref CW) "__setattr__" = some (some (.builtin "object.__setattr__")))
    (mkCW : PySem.W.makesIn K CW = true)
    (kcCW : PySem.W.keepIn K (.ref CW) = true)
    (haCW : PySem.W.findIn K (.ref CW) "__class__" = some (some (.builtin "object.__class__")))
    (hmCW : PySem.W.mroIn K CW (.type "object") = some true)
    (nCW_laid : PySem.W.findIn K (.ref CW) "laid" = some none)
    (aCR : PySem.W.nsIn K mainGlobals "Reader" = some (some (.ref CR)))
    (pgCR : PySem.W.plainGet K CR Str.empty = true)
    (hdCR : PySem.W.hasDictIn K CR = true)
    (poCR : PySem.W.plainOver K CR = true)
    (saCR : PySem.W.findIn K (.ref CR) "__setattr__" = some (some (.builtin "object.__setattr__")))
    (mkCR : PySem.W.makesIn K CR = true)
    (kcCR : PySem.W.keepIn K (.ref CR) = true)
    (haCR : PySem.W.findIn K (.ref CR) "__class__" = some (some (.builtin "object.__class__")))
    (hmCR : PySem.W.mroIn K CR (.type "object") = some true)
    (nCR_numbers : PySem.W.findIn K (.ref CR) "numbers" = some none)
    (nCR_taken : PySem.W.findIn K (.ref CR) "taken" = some none)
    (aXS : PySem.W.nsIn K mainGlobals "Spoiled" = some (some (.ref XS)))
    (aXL : PySem.W.nsIn K mainGlobals "LoomError" = some (some (.ref XL)))
    (aXU : PySem.W.nsIn K mainGlobals "Unknown" = some (some (.ref XU)))
    (hn : PySem.W.specialIn K (.builtin "object.__class__") "__get__" = some (some (.builtin "getset_descriptor.__get__")))
    (htk : PySem.W.takesIn K (.builtin "object.__class__") = some true)
    (xex : PySem.W.excIn K XS bmV "ValueError.__new__" = true)
    (xtL : takesX K XS (.ref XL) = true)
    (xge : excGet K XS = true)
    (xiS : PySem.W.kitOne K (.ref XS) (.ref XS) = some true)
    (xiU : PySem.W.kitOne K (.ref XS) (.ref XU) = some false)
    (xiV : PySem.W.kitOne K (.ref XS) (.type "ValueError") = some true)
    (aNu : PySem.W.nsIn K mainGlobals "number_of" = some (some (.ref fNu)))
    (lNu : K.lookup fNu = some ⟨ocNu, odNu, .func (PySem.W.fnOf "number_of" "number_of" (defArgs sNu) (defBody sNu) (defScope sNu) .none kVNu dcNu pmNu anNu cdNu ctNu), slNu⟩)
    (cNu : PySem.W.codeIn K cdNu "number_of" = true)
    (kNu : PySem.W.keepIn K (.ref fNu) = true)
    (aBo : PySem.W.nsIn K mainGlobals "bits_of" = some (some (.ref fBo)))
    (lBo : K.lookup fBo = some ⟨ocBo, odBo, .func (PySem.W.fnOf "bits_of" "bits_of" (defArgs sBo) (defBody sBo) (defScope sBo) .none kVBo dcBo pmBo anBo cdBo ctBo), slBo⟩)
    (cBo : PySem.W.codeIn K cdBo "bits_of" = true)
    (kBo : PySem.W.keepIn K (.ref fBo) = true)
    (aPu : PySem.W.nsIn K mainGlobals "_law_put" = some (some (.ref fPu)))
    (lPu : K.lookup fPu = some ⟨ocPu, odPu, .func (PySem.W.fnOf "_law_put" "_law_put" (defArgs sPu) (defBody sPu) (defScope sPu) .none kVPu dcPu pmPu anPu cdPu ctPu), slPu⟩)
    (cPu : PySem.W.codeIn K cdPu "_law_put" = true)
    (kPu : PySem.W.keepIn K (.ref fPu) = true)
    (aEi : PySem.W.nsIn K mainGlobals "_law_eighths" = some (some (.ref fEi)))
    (lEi : K.lookup fEi = some ⟨ocEi, odEi, .func (PySem.W.fnOf "_law_eighths" "_law_eighths" (defArgs sEi) (defBody sEi) (defScope sEi) .none kVEi dcEi pmEi anEi cdEi ctEi), slEi⟩)
    (cEi : PySem.W.codeIn K cdEi "_law_eighths" = true)
    (kEi : PySem.W.keepIn K (.ref fEi) = true)
    (aAl : PySem.W.nsIn K mainGlobals "_law_alike" = some (some (.ref fAl)))
    (lAl : K.lookup fAl = some ⟨ocAl, odAl, .func (PySem.W.fnOf "_law_alike" "_law_alike" (defArgs sAl) (defBody sAl) (defScope sAl) .none kVAl dcAl pmAl anAl cdAl ctAl), slAl⟩)
    (cAl : PySem.W.codeIn K cdAl "_law_alike" = true)
    (kAl : PySem.W.keepIn K (.ref fAl) = true)
    (aNb : PySem.W.nsIn K mainGlobals "_law_number" = some (some (.ref fNb)))
    (lNb : K.lookup fNb = some ⟨ocNb, odNb, .func (PySem.W.fnOf "_law_number" "_law_number" (defArgs sNb) (defBody sNb) (defScope sNb) .none kVNb dcNb pmNb anNb cdNb ctNb), slNb⟩)
    (cNb : PySem.W.codeIn K cdNb "_law_number" = true)
    (kNb : PySem.W.keepIn K (.ref fNb) = true)
    (aTo : PySem.W.nsIn K mainGlobals "_law_told" = some (some (.ref fTo)))
    (lTo : K.lookup fTo = some ⟨ocTo, odTo, .func (PySem.W.fnOf "_law_told" "_law_told" (defArgs sTo) (defBody sTo) (defScope sTo) .none kVTo dcTo pmTo anTo cdTo ctTo), slTo⟩)
    (cTo : PySem.W.codeIn K cdTo "_law_told" = true)
    (kTo : PySem.W.keepIn K (.ref fTo) = true)
    (aLa : PySem.W.nsIn K mainGlobals "_law_lacking" = some (some (.ref fLa)))
    (lLa : K.lookup fLa = some ⟨ocLa, odLa, .func (PySem.W.fnOf "_law_lacking" "_law_lacking" (defArgs sLa) (defBody sLa) (defScope sLa) .none kVLa dcLa pmLa anLa cdLa ctLa), slLa⟩)
    (cLa : PySem.W.codeIn K cdLa "_law_lacking" = true)
    (kLa : PySem.W.keepIn K (.ref fLa) = true)
    (aRe : PySem.W.nsIn K mainGlobals "_law_read" = some (some (.ref fRe)))
    (lRe : K.lookup fRe = some ⟨ocRe, odRe, .func (PySem.W.fnOf "_law_read" "_law_read" (defArgs sRe) (defBody sRe) (defScope sRe) .none kVRe dcRe pmRe anRe cdRe ctRe), slRe⟩)
    (cRe : PySem.W.codeIn K cdRe "_law_read" = true)
    (kRe : PySem.W.keepIn K (.ref fRe) = true)
    (aZ : PySem.W.nsIn K mainGlobals "law" = some (some (.ref fZ)))
    (lZ : K.lookup fZ = some ⟨ocZ, odZ, .func (PySem.W.fnOf "law" "law" (defArgs sLaw) (defBody sLaw) (defScope sLaw) .none kVZ dcZ pmZ anZ cdZ ctZ), slZ⟩)
    (cZ : PySem.W.codeIn K cdZ "law" = true)
    (kZ : PySem.W.keepIn K (.ref fZ) = true)
    (aWi : PySem.W.findIn K (.ref CW) "__init__" = some (some (.ref fWi)))
    (iWi : PySem.W.isFn K (.ref fWi) = true)
    (lWi : K.lookup fWi = some ⟨ocWi, odWi, .func (PySem.W.fnOf "__init__" "Writer.__init__" (defArgs sWi) (defBody sWi) (defScope sWi) .none kVWi dcWi pmWi anWi cdWi ctWi), slWi⟩)
    (cWi : PySem.W.codeIn K cdWi "Writer.__init__" = true)
    (kWi : PySem.W.keepIn K (.ref fWi) = true)
    (aWp : PySem.W.findIn K (.ref CW) "put" = some (some (.ref fWp)))
    (iWp : PySem.W.isFn K (.ref fWp) = true)
    (lWp : K.lookup fWp = some ⟨ocWp, odWp, .func (PySem.W.fnOf "put" "Writer.put" (defArgs sWp) (defBody sWp) (defScope sWp) .none kVWp dcWp pmWp anWp cdWp ctWp), slWp⟩)
    (cWp : PySem.W.codeIn K cdWp "Writer.put" = true)
    (kWp : PySem.W.keepIn K (.ref fWp) = true)
    (aWt : PySem.W.findIn K (.ref CW) "told" = some (some (.ref fWt)))
    (iWt : PySem.W.isFn K (.ref fWt) = true)
    (lWt : K.lookup fWt = some ⟨ocWt, odWt, .func (PySem.W.fnOf "told" "Writer.told" (defArgs sWt) (defBody sWt) (defScope sWt) .none kVWt dcWt pmWt anWt cdWt ctWt), slWt⟩)
    (cWt : PySem.W.codeIn K cdWt "Writer.told" = true)
    (kWt : PySem.W.keepIn K (.ref fWt) = true)
    (aRi : PySem.W.findIn K (.ref CR) "__init__" = some (some (.ref fRi)))
    (iRi : PySem.W.isFn K (.ref fRi) = true)
    (lRi : K.lookup fRi = some ⟨ocRi, odRi, .func (PySem.W.fnOf "__init__" "Reader.__init__" (defArgs sRi) (defBody sRi) (defScope sRi) .none kVRi dcRi pmRi anRi cdRi ctRi), slRi⟩)
    (cRi : PySem.W.codeIn K cdRi "Reader.__init__" = true)
    (kRi : PySem.W.keepIn K (.ref fRi) = true)
    (aRb : PySem.W.findIn K (.ref CR) "bits" = some (some (.ref fRb)))
    (iRb : PySem.W.isFn K (.ref fRb) = true)
    (lRb : K.lookup fRb = some ⟨ocRb, odRb, .func (PySem.W.fnOf "bits" "Reader.bits" (defArgs sRb) (defBody sRb) (defScope sRb) .none kVRb dcRb pmRb anRb cdRb ctRb), slRb⟩)
    (cRb : PySem.W.codeIn K cdRb "Reader.bits" = true)
    (kRb : PySem.W.keepIn K (.ref fRb) = true)
    (aRl : PySem.W.findIn K (.ref CR) "left" = some (some (.ref fRl)))
    (iRl : PySem.W.isFn K (.ref fRl) = true)
    (lRl : K.lookup fRl = some ⟨ocRl, odRl, .func (PySem.W.fnOf "left" "Reader.left" (defArgs sRl) (defBody sRl) (defScope sRl) .none kVRl dcRl pmRl anRl cdRl ctRl), slRl⟩)
    (cRl : PySem.W.codeIn K cdRl "Reader.left" = true)
    (kRl : PySem.W.keepIn K (.ref fRl) = true)
    (q8 : PySem.W.nsIn K mainGlobals "WIDE" = some (some (.int 8 tk8)))
    (zlen : PySem.W.nsIn K mainGlobals "len" = some none)
    (zrange : PySem.W.nsIn K mainGlobals "range" = some none)
    (ztuple : PySem.W.nsIn K mainGlobals "tuple" = some none)
    (zisin : PySem.W.nsIn K mainGlobals "isinstance" = some none)
    (zlist : PySem.W.nsIn K mainGlobals "list" = some none)
    (zint : PySem.W.nsIn K mainGlobals "int" = some none)
    (zbool : PySem.W.nsIn K mainGlobals "bool" = some none)
    (zmax : PySem.W.nsIn K mainGlobals "max" = some none)
    (zverr : PySem.W.nsIn K mainGlobals "ValueError" = some none)
    : ∃ fd : FuncData, (∀ (s : Shared) (v : Value), BindsTo s fd ⟨[v], []⟩ [("_law_script", v)]) ∧ ∀ base : Heap, K.In base → base.Ns mainGlobals mg → FnOk l.prog w K mg base CX0 5 fa fd ["_law_script"] (spLaw K) := by
  have e := hfa.symm.trans (PySem.W.mg_of X G aZ)
  cases e
  have T : Txt mg := ⟨PySem.W.mg_none_of X G zlen, PySem.W.mg_none_of X G zrange, PySem.W.mg_none_of X G ztuple, PySem.W.mg_none_of X G zisin, PySem.W.mg_none_of X G zlist, PySem.W.mg_none_of X G zint, PySem.W.mg_none_of X G zbool, PySem.W.mg_none_of X G zmax, PySem.W.mg_none_of X G zverr⟩
  have mgCW := PySem.W.mg_of X G aCW
  have clCW : Cls K CW := ⟨pgCW, hdCW, poCW, saCW⟩
  have mgCR := PySem.W.mg_of X G aCR
  have clCR : Cls K CR := ⟨pgCR, hdCR, poCR, saCR⟩
  have mgXS := PySem.W.mg_of X G aXS
  have mgXL := PySem.W.mg_of X G aXL
  have mgXU := PySem.W.mg_of X G aXU
  have FNu := fun_mk (st := sNu) lNu cNu kNu
  have bNu := FNu.binds (ps := ["bits"]) fun _ _ _ _ _ _ us hl => match us, hl with | [_], _ => rfl
  have FBo := fun_mk (st := sBo) lBo cBo kBo
  have bBo := FBo.binds (ps := ["number", "wide"]) fun _ _ _ _ _ _ us hl => match us, hl with | [_, _], _ => rfl
  have FPu := fun_mk (st := sPu) lPu cPu kPu
  have bPu := FPu.binds (ps := ["_law_bits", "_law_number_here", "_law_wide"]) fun _ _ _ _ _ _ us hl => match us, hl with | [_, _, _], _ => rfl
  have FEi := fun_mk (st := sEi) lEi cEi kEi
  have bEi := FEi.binds (ps := ["_law_bits"]) fun _ _ _ _ _ _ us hl => match us, hl with | [_], _ => rfl
  have FAl := fun_mk (st := sAl) lAl cAl kAl
  have bAl := FAl.binds (ps := ["_law_found", "_law_due"]) fun _ _ _ _ _ _ us hl => match us, hl with | [_, _], _ => rfl
  have FNb := fun_mk (st := sNb) lNb cNb kNb
  have bNb := FNb.binds (ps := ["_law_cell"]) fun _ _ _ _ _ _ us hl => match us, hl with | [_], _ => rfl
  have FTo := fun_mk (st := sTo) lTo cTo kTo
  have bTo := FTo.binds (ps := ["_law_reader", "_law_wide", "_law_due", "_law_left"]) fun _ _ _ _ _ _ us hl => match us, hl with | [_, _, _, _], _ => rfl
  have FLa := fun_mk (st := sLa) lLa cLa kLa
  have bLa := FLa.binds (ps := ["_law_reader", "_law_wide"]) fun _ _ _ _ _ _ us hl => match us, hl with | [_, _], _ => rfl
  have FRe := fun_mk (st := sRe) lRe cRe kRe
  have bRe := FRe.binds (ps := ["_law_numbers", "_law_bits", "_law_widths"]) fun _ _ _ _ _ _ us hl => match us, hl with | [_, _, _], _ => rfl
  have FZ := fun_mk (st := sLaw) lZ cZ kZ
  have FWi := fun_mk (st := sWi) lWi cWi kWi
  have bWi := FWi.binds (ps := ["self"]) fun _ _ _ _ _ _ us hl => match us, hl with | [_], _ => rfl
  have FWp := fun_mk (st := sWp) lWp cWp kWp
  have bWp := FWp.binds (ps := ["self", "number", "wide"]) fun _ _ _ _ _ _ us hl => match us, hl with | [_, _, _], _ => rfl
  have FWt := fun_mk (st := sWt) lWt cWt kWt
  have bWt := FWt.binds (ps := ["self"]) fun _ _ _ _ _ _ us hl => match us, hl with | [_], _ => rfl
  have FRi := fun_mk (st := sRi) lRi cRi kRi
  have bRi := FRi.binds (ps := ["self", "numbers"]) fun _ _ _ _ _ _ us hl => match us, hl with | [_, _], _ => rfl
  have FRb := fun_mk (st := sRb) lRb cRb kRb
  have bRb := FRb.binds (ps := ["self", "wide"]) fun _ _ _ _ _ _ us hl => match us, hl with | [_, _], _ => rfl
  have FRl := fun_mk (st := sRl) lRl cRl kRl
  have bRl := FRl.binds (ps := ["self"]) fun _ _ _ _ _ _ us hl => match us, hl with | [_], _ => rfl
  have gNu := PySem.W.mg_of X G aNu
  have gBo := PySem.W.mg_of X G aBo
  have gPu := PySem.W.mg_of X G aPu
  have gEi := PySem.W.mg_of X G aEi
  have gAl := PySem.W.mg_of X G aAl
  have gNb := PySem.W.mg_of X G aNb
  have gTo := PySem.W.mg_of X G aTo
  have gLa := PySem.W.mg_of X G aLa
  have gRe := PySem.W.mg_of X G aRe
  have MCW : Mk K CW fWi := ⟨mkCW, aWi, iWi, kcCW⟩
  have mWp : Meth K CW "put" fWp := ⟨aWp, iWp, kWp⟩
  have mWt : Meth K CW "told" fWt := ⟨aWt, iWt, kWt⟩
  have MCR : Mk K CR fRi := ⟨mkCR, aRi, iRi, kcCR⟩
  have mRb : Meth K CR "bits" fRb := ⟨aRb, iRb, kRb⟩
  have mRl : Meth K CR "left" fRl := ⟨aRl, iRl, kRl⟩
  have g8 := PySem.W.mg_of X G q8
  have r8 : RelV (.int 8) (Value.int 8 tk8) := ⟨_, rfl⟩
  have YW : WrK K CW := ⟨clCW, nCW_laid⟩
  have YR : RdK K CR := ⟨clCR, nCR_numbers, nCR_taken⟩
  have SK : SpK K mg XS XL XU := ⟨mgXS, mgXL, mgXU, xex, xtL, xge, xiS, xiU, xiV⟩
  exact ⟨PySem.W.fnOf "law" "law" (defArgs sLaw) (defBody sLaw) (defScope sLaw) .none kVZ dcZ pmZ anZ cdZ ctZ, fun s v => .of_eq rfl, fun base _ _ => ok_law FZ T MCW mgCW YW bWi (ok_wi FWi YW) bWp mWp (ok_wp FWp T YW FBo bBo gBo) bWt mWt (ok_wt FWt T g8 r8 YW FNu bNu gNu) (ok_re FRe T MCR mgCR bRi (ok_ri FRi YR) FLa bLa gLa (ok_la FLa T g8 r8 YR SK FRl bRl mRl FRb bRb mRb) FTo bTo gTo (ok_to FTo T g8 r8 YR FRl bRl mRl FRb bRb mRb FNu bNu gNu)) FPu bPu gPu FEi bEi gEi FAl bAl gAl FNb bNb gNb FRe bRe gRe⟩
theorem walk {l : PySem.W.OpenLaw} {q : Program} {loose : List Str} {XP : (Str → Option Value) → Heap → Prop} {YP : World → Heap → Prop} {d : DefRec} {K : Params → PySem.W.Frag} (hn : l.most = some 63) (hdf : d.params.defaults = [])
    (hY : ∀ (w : World) (h : Heap), YP w h → (K w.params).In h)
    (F : ∀ (w : World) (mg : Str → Option Value) (fa : Addr) (h : Heap), (K w.params).In h → h.Ns mainGlobals mg → mg d.name = some (.ref fa) →
      ∃ fd : FuncData, (∀ (s : Shared) (u : Value), BindsTo s fd ⟨[u], []⟩ [("_law_script", u)]) ∧ ∀ base : Heap, (K w.params).In base → base.Ns mainGlobals mg → FnOk l.prog w (K w.params) mg base CX0 5 fa fd ["_law_script"] (spLaw (K w.params))) :
    PySem.W.WalkO q loose XP YP l.row.toRowW d [] (fun f vs => PySem.call f vs) :=
  L2.walk_of (n := 63) (k := 5) (x := "_law_script") (CX := fun _ => CX0) (sp := fun w => spLaw (K w.params)) hn (by decide) hdf ⟨rfl, by decide, by decide⟩ hY F (fun _ _ a ns hl _ hS => ⟨a, ns, rfl, hS, hl, fun _ => rfl⟩) fun _ _ _ _ _ z => z
end BT
open PySem PySem.W PyProof.Rows
set_option maxRecDepth 100000 in
set_option maxHeartbeats 0 in
theorem PySem.Challenge.cw_logloom_k70_bits_put_and_taken_holds : PySem.Challenge.rw_logloom_k70_bits_put_and_taken.Holds := by
  w_on; o_law
  refine PySem.W.holds_open (q := BT.hQ) (loose := []) (Xt := BT.hX)
    (XP := PySem.W.XL BT.hQ [])
    (Yf := (PySem.W.kHook BT.hK BT.hA BT.hE).obs) (Ya := (PySem.W.kHook BT.hK BT.hA BT.hE).val)
    (YP := (PySem.W.kHook BT.hK BT.hA BT.hE).says)
    (N := 3218) BT.hL (PySem.W.kHook BT.hK BT.hA BT.hE).of (PySem.W.kHook BT.hK BT.hA BT.hE).keeps
    (fun s e => PySem.W.xl_of s (Bool.and_eq_true_iff.mp e).1) PySem.W.XL.keeps
    rfl rfl rfl
    (fun s e => PySem.W.recFacts_of (Bool.and_eq_true_iff.mp e).2)
    rfl (by first | assumption | decide +kernel) (by decide +kernel)
    ⟨rfl, rfl, rfl, rfl, rfl, by decide +kernel⟩ ?hw ?hc
  case hw => w_witness2
  k_fill
  refine BT.walk (l := PySem.Challenge.rw_logloom_k70_bits_put_and_taken) rfl rfl (fun w h Y => PySem.W.kIn_of Y) ?F
  case F =>
    intro w mg fa h KX G hmg
    refine' BT.all_mk KX G hmg ?aCW ?pgCW ?hdCW ?poCW ?saCW ?mkCW ?kcCW ?haCW ?hmCW ?nCW_laid ?aCR ?pgCR ?hdCR ?poCR ?saCR ?mkCR ?kcCR ?haCR ?hmCR ?nCR_numbers ?nCR_taken ?aXS ?aXL ?aXU ?hn ?htk ?xex ?xtL ?xge ?xiS ?xiU ?xiV ?aNu ?lNu ?cNu ?kNu ?aBo ?lBo ?cBo ?kBo ?aPu ?lPu ?cPu ?kPu ?aEi ?lEi ?cEi ?kEi ?aAl ?lAl ?cAl ?kAl ?aNb ?lNb ?cNb ?kNb ?aTo ?lTo ?cTo ?kTo ?aLa ?lLa ?cLa ?kLa ?aRe ?lRe ?cRe ?kRe ?aZ ?lZ ?cZ ?kZ ?aWi ?iWi ?lWi ?cWi ?kWi ?aWp ?iWp ?lWp ?cWp ?kWp ?aWt ?iWt ?lWt ?cWt ?kWt ?aRi ?iRi ?lRi ?cRi ?kRi ?aRb ?iRb ?lRb ?cRb ?kRb ?aRl ?iRl ?lRl ?cRl ?kRl ?q8 ?zlen ?zrange ?ztuple ?zisin ?zlist ?zint ?zbool ?zmax ?zverr
    (case aCW => k_is)
    (case pgCW => k_is)
    (case hdCW => k_is)
    (case poCW => k_is)
    (case saCW => k_is)
    (case mkCW => k_is)
    (case kcCW => k_is)
    (case haCW => k_is)
    (case hmCW => k_is)
    (case nCW_laid => k_is)
    (case aCR => k_is)
    (case pgCR => k_is)
    (case hdCR => k_is)
    (case poCR => k_is)
    (case saCR => k_is)
    (case mkCR => k_is)
    (case kcCR => k_is)
    (case haCR => k_is)
    (case hmCR => k_is)
    (case nCR_numbers => k_is)
    (case nCR_taken => k_is)
    (case aXS => k_is)
    (case aXL => k_is)
    (case aXU => k_is)
    (case hn => k_is)
    (case htk => k_is)
    (case xex => k_exc)
    (case xtL => (first | kernel_rfl | decide +kernel))
    (case xge => (first | kernel_rfl | decide +kernel))
    (case xiS => kit_is)
    (case xiU => kit_is)
    (case xiV => kit_is)
    (case aNu => k_is)
    (case lNu => k_is)
    (case cNu => k_is)
    (case kNu => k_is)
    (case aBo => k_is)
    (case lBo => k_is)
    (case cBo => k_is)
    (case kBo => k_is)
    (case aPu => k_is)
    (case lPu => k_is)
    (case cPu => k_is)
    (case kPu => k_is)
    (case aEi => k_is)
    (case lEi => k_is)
    (case cEi => k_is)
    (case kEi => k_is)
    (case aAl => k_is)
    (case lAl => k_is)
    (case cAl => k_is)
    (case kAl => k_is)
    (case aNb => k_is)
    (case lNb => k_is)
    (case cNb => k_is)
    (case kNb => k_is)
    (case aTo => k_is)
    (case lTo => k_is)
    (case cTo => k_is)
    (case kTo => k_is)
    (case aLa => k_is)
    (case lLa => k_is)
    (case cLa => k_is)
    (case kLa => k_is)
    (case aRe => k_is)
    (case lRe => k_is)
    (case cRe => k_is)
    (case kRe => k_is)
    (case aZ => k_is)
    (case lZ => k_is)
    (case cZ => k_is)
    (case kZ => k_is)
    (case aWi => k_is)
    (case iWi => k_is)
    (case lWi => k_is)
    (case cWi => k_is)
    (case kWi => k_is)
    (case aWp => k_is)
    (case iWp => k_is)
    (case lWp => k_is)
    (case cWp => k_is)
    (case kWp => k_is)
    (case aWt => k_is)
    (case iWt => k_is)
    (case lWt => k_is)
    (case cWt => k_is)
    (case kWt => k_is)
    (case aRi => k_is)
    (case iRi => k_is)
    (case lRi => k_is)
    (case cRi => k_is)
    (case kRi => k_is)
    (case aRb => k_is)
    (case iRb => k_is)
    (case lRb => k_is)
    (case cRb => k_is)
    (case kRb => k_is)
    (case aRl => k_is)
    (case iRl => k_is)
    (case lRl => k_is)
    (case cRl => k_is)
    (case kRl => k_is)
    (case q8 => k_is)
    (case zlen => k_is)
    (case zrange => k_is)
    (case ztuple => k_is)
    (case zisin => k_is)
    (case zlist => k_is)
    (case zint => k_is)
    (case zbool => k_is)
    (case zmax => k_is)
    (case zverr => k_is)

