import PyProof.Rows.All
import Wide.All
import OpenK.AllK
import Wide.FinOn
import Lean
import PyProof.EqAt
import PyProof.EqKinds
import PyProof.TupleCall
import PySem.Challenge.RW_logloom_k13_whole_no_fewer_groups
set_option Elab.async false
set_option linter.all false
set_option maxRecDepth 100000
/-! the run of the top over a tree of objects, by the library's faster forms, in one kernel run -/
namespace HT
open PySem PySem.W
abbrev annR : Option Value := some (.ref 6)
noncomputable abbrev okQ : Thread → Bool := Fast.tw6613529449190102663 11 annR
noncomputable abbrev stQ (p : Program) (w : World) : SharedT → Thread → Option (SharedT × Thread) :=
 Fast.tw10156331382660048174 (Fast.tw11892475500146522536 Fast.tw14364793385576792824) p w
noncomputable def runQ (p : Program) (w : World) : Nat → SharedT → Thread → Option SharedT
 | 0, _, _ => none
 | fuel + 1, a, th => @Bool.rec (fun _ => Option SharedT)
     (@Bool.rec (fun _ => Option SharedT) none (@Option.rec (SharedT × Thread) (fun _ => Option SharedT) none (fun r => runQ p w fuel r.1 r.2) (stQ p w a th)) (okQ th))
     (some a) (through th)
theorem okQ_is (th : Thread) : okQ th = stepOk 11 annR th := by
 show Fast.tw6613529449190102663 11 annR th = _
 rw [← Fast.te6613529449190102663]
theorem stQ_is (p : Program) (w : World) (a : SharedT) (th : Thread) : stQ p w a th = stepT (denote treeTable) p w a th := by
 show Fast.tw10156331382660048174 (Fast.tw11892475500146522536 Fast.tw14364793385576792824) p w a th = _
 rw [← Fast.te10156331382660048174, ← Fast.te11892475500146522536, ← Fast.te14364793385576792824]
theorem runQ_top {p : Program} {w : World} : ∀ (fuel : Nat) (a b : SharedT) (th : Thread),
   runQ p w fuel a th = some b → topRun treeTable p w 11 annR fuel a.abs th = some b.abs
 | 0, _, _, _, e => by cases e
 | fuel + 1, a, b, th, e => by
   unfold runQ at e
   unfold topRun
   rw [okQ_is, stQ_is] at e
   cases e1 : through th
   · rw [e1] at e
     cases e2 : stepOk 11 annR th
     · rw [e2] at e; cases e
     · rw [e2] at e
       cases e3 : stepT (denote treeTable) p w a th with
       | none => rw [e3] at e; cases e
       | some r =>
         rw [e3] at e
         have e4 := stepT_spec (s' := r.1) (t' := r.2) e3
         rw [e4]
         exact runQ_top fuel r.1 b r.2 e
   · rw [e1] at e
     have : a = b := Option.some.inj e
     rw [this]
noncomputable def bT (P : Params) : BT :=
 .node (boot_o_0 P)
   (.node (boot_o_1 P) (.node (boot_o_3 P) (.node (boot_o_7 P) .nil .nil) .nil) (.node (boot_o_5 P) (.node (boot_o_9 P) .nil .nil) .nil))
   (.node (boot_o_2 P) (.node (boot_o_4 P) (.node (boot_o_8 P) .nil .nil) .nil) (.node (boot_o_6 P) (.node (boot_o_10 P) .nil .nil) .nil))
theorem bT_boot : ∀ P, boot_heap P = absHeap (bT P) 11 {} := fun P => by kernel_rfl
noncomputable abbrev at0 (w : World) (os : OsState) : SharedT := ⟨bT w.params, 11, {}, Array.mk [], boot_drawn, boot_toks, os⟩
theorem at0_abs (w : World) (os : OsState) : (at0 w os).abs = ⟨boot_heap w.params, Array.mk [], boot_drawn, boot_toks, os⟩ := by
 rw [bT_boot]; rfl
theorem boot_looks : ∀ P : Params, (((boot_heap P).isNs mainGlobals && (#[] : Array GenState).size == 0) = true ∧ (boot_heap P).objs.size = 11) ∧
   (boot_heap P).nsMap mainGlobals "__annotations__" = annR := fun P => ⟨⟨by kernel_rfl, by kernel_rfl⟩, by kernel_rfl⟩
/-- what is looked at behind the top, ahead of the views -/
noncomputable abbrev kept (p : Program) (P : Params) (b : Shared) : Bool :=
 staticsOk (importedModules p.main.body) (boot_heap P) b.heap && namesBound p b.heap && gensDone b && laidKept (boot_heap P) b.heap
/-- the head out of one kernel run -/
theorem left1 {p q : Program} {loose : List Str} {Xt : Shared → Bool} {α : Type} {Yf : Shared → α} {Ya : World → α} {N : Nat} {g0 : Bool}
   (e : opening p = plainProg p.main.scope.names) (hN : Nat.ble 600 N = true) (f : ∀ s, fenceModules? p s = some s)
   (run : ∀ (w : World) (os : OsState), (runQ p w N (at0 w os) (topStub p)).map (fun b =>
     (kept p w.params b.abs, Fast.tw4187177175401517315 q loose (importedModules p.main.body) Xt g0 b.abs, Yf b.abs)) = some (true, openGood q loose, Ya w)) :
   LeftO p q loose Xt Yf Ya N g0 := by
 intro w
 obtain ⟨⟨hp, gs, d, k, os⟩, o1, o2⟩ := Option.map_eq_some_iff.mp (boot_open e hN f w)
 obtain ⟨rfl, rfl, rfl, rfl⟩ : hp = boot_heap w.params ∧ gs = Array.mk [] ∧ d = boot_drawn ∧ k = boot_toks := by
   simpa using o2
 obtain ⟨⟨z1, z2⟩, z3⟩ := boot_looks w.params
 have r := run w os
 rw [← Fast.te4187177175401517315] at r
 obtain ⟨b, r1, r2⟩ := Option.map_eq_some_iff.mp r
 rw [Prod.mk.injEq, Prod.mk.injEq] at r2
 have r3 := runQ_top N _ b _ r1
 rw [at0_abs] at r3
 have r4 : topFrom treeTable p w N ⟨boot_heap w.params, Array.mk [], boot_drawn, boot_toks, os⟩ = some b.abs := by
   have k1 : kept p w.params b.abs = true := r2.1
   unfold kept at k1
   unfold topFrom
   simp only [z1, z2, z3, r3, Option.bind_some, k1]
 have r5 : openEnds treeTable p w N = some b.abs := by
   unfold openEnds
   simp only [o1, Option.bind_some, r4]
 rw [r5]
 exact congrArg some (by rw [← r2.2.1, ← r2.2.2])
end HT
namespace L2
open PySem
def inClass (s : Stmt) (j : Nat) : Stmt := match s with
 | .ClassDef _ _ _ body _ _ _ _ _ _ _ => body.getD j (.Pass ⟨0, 0, 0, 0⟩)
 | _ => .Pass ⟨0, 0, 0, 0⟩
def defArgs (s : Stmt) : Arguments := match s with
 | .FunctionDef _ a _ _ _ _ _ _ _ _ => a
 | _ => { posonlyargs := [], args := [], vararg := none, kwonlyargs := [], kw_defaults := [], kwarg := none, defaults := [] }
def defBody (s : Stmt) : List Stmt := match s with
 | .FunctionDef _ _ b _ _ _ _ _ _ _ => b
 | _ => []
def defScope (s : Stmt) : Scope := match s with
 | .FunctionDef _ _ _ _ _ _ sc _ _ _ => sc
 | _ => { kind := .function, names := [], isGenerator := false, isCoroutine := false }
end L2
namespace SL
open PySem L2
def top (i : Nat) : Stmt := PySem.Challenge.pw_logloom_k13_whole_no_fewer_groups.main.body.getD i (.Pass ⟨0, 0, 0, 0⟩)
abbrev sMo : Stmt := top 11
abbrev sNw : Stmt := inClass (top 13) 0
abbrev sNt : Stmt := inClass (top 13) 1
abbrev sAw : Stmt := inClass (top 14) 0
abbrev sAt : Stmt := inClass (top 14) 1
abbrev sIw : Stmt := inClass (top 15) 0
abbrev sIt : Stmt := inClass (top 15) 1
abbrev sKw : Stmt := inClass (top 16) 0
abbrev sKt : Stmt := inClass (top 16) 1
abbrev sIi : Stmt := top 17
abbrev sAl : Stmt := top 18
abbrev sSo : Stmt := top 19
abbrev sIg : Stmt := top 21
abbrev sPt : Stmt := top 22
abbrev sFm : Stmt := top 23
abbrev sWr : Stmt := top 24
abbrev sUn : Stmt := top 26
abbrev sWa : Stmt := top 27
abbrev sLp : Stmt := top 28
abbrev sLf : Stmt := top 29
abbrev sFw : Stmt := top 30
abbrev sRi : Stmt := top 33
abbrev sWt : Stmt := top 34
abbrev sGo : Stmt := top 35
abbrev sFg : Stmt := top 36
abbrev sGr : Stmt := top 37
abbrev sCe : Stmt := top 39
abbrev sPi : Stmt := top 40
abbrev sSi : Stmt := top 41
abbrev sMk : Stmt := top 42
abbrev sNa : Stmt := top 43
abbrev sWo : Stmt := top 44
abbrev sLs : Stmt := top 45
abbrev sTu : Stmt := top 46
abbrev sRo : Stmt := top 47
abbrev sLl : Stmt := top 48
abbrev sFi : Stmt := top 49
abbrev sGd : Stmt := top 50
abbrev sGs : Stmt := top 51
abbrev sWy : Stmt := top 52
abbrev sFt : Stmt := top 53
abbrev sLaw : Stmt := top 54
end SL
namespace SL
open PySem L2
def hK : PySem.Params → W.Frag := fun P =>
 (nat_lit 2, {cls := .none, data := .dict #[]}) ::
 (nat_lit 3, {cls := .type "dict", data := .dict #[⟨PyData.keyHash P "__name__", .str "__name__" 165, .str "law_logloom_k13_whole_no_fewer_groups" 543⟩, ⟨PyData.keyHash P "__doc__", .str "__doc__" 166, .none⟩, ⟨PyData.keyHash P "__package__", .str "__package__" 167, .none⟩, ⟨PyData.keyHash P "__loader__", .str "__loader__" 168, .builtin "__main__.__loader__#opaque"⟩, ⟨PyData.keyHash P "__spec__", .str "__spec__" 169, .none⟩, ⟨PyData.keyHash P "__annotations__", .str "__annotations__" 170, .ref 6⟩, ⟨PyData.keyHash P "__builtins__", .str "__builtins__" 171, .ref 4⟩, ⟨PyData.keyHash P "__file__", .str "__file__" 173, .str "/claim/cut.py" 172⟩, ⟨PyData.keyHash P "__cached__", .str "__cached__" 174, .none⟩, ⟨PyData.keyHash P "LoomError", .str "LoomError" 206, .ref 24⟩, ⟨PyData.keyHash P "TooMany", .str "TooMany" 231, .ref 44⟩, ⟨PyData.keyHash P "FIGURES", .str "FIGURES" 235, .str "0123456789" 234⟩, ⟨PyData.keyHash P "SMALL_LETTERS", .str "SMALL_LETTERS" 237, .str "abcdefghijklmnopqrstuvwxyz" 236⟩, ⟨PyData.keyHash P "NAME_SIGNS", .str "NAME_SIGNS" 239, .str "abcdefghijklmnopqrstuvwxyz0123456789" 238⟩, ⟨PyData.keyHash P "MARK_SIGNS", .str "MARK_SIGNS" 241, .str "abcdefghijklmnopqrstuvwxyzABCDEFGHIJKLMNOPQRSTUVWXYZ0123456789.:-_/=" 240⟩, ⟨PyData.keyHash P "MOST_FIGURES", .str "MOST_FIGURES" 243, .int 9 242⟩, ⟨PyData.keyHash P "MOST_SIGNS", .str "MOST_SIGNS" 245, .int 12 244⟩, ⟨PyData.keyHash P "MOST_ITEMS", .str "MOST_ITEMS" 247, .int 4 246⟩, ⟨PyData.keyHash P "made_of", .str "made_of" 253, .ref 51⟩, ⟨PyData.keyHash P "Sort", .str "Sort" 288, .ref 75⟩, ⟨PyData.keyHash P "Number", .str "Number" 319, .ref 103⟩, ⟨PyData.keyHash P "Name", .str "Name" 350, .ref 129⟩, ⟨PyData.keyHash P "Items", .str "Items" 379, .ref 153⟩, ⟨PyData.keyHash P "Mark", .str "Mark" 410, .ref 179⟩, ⟨PyData.keyHash P "is_item", .str "is_item" 417, .ref 188⟩, ⟨PyData.keyHash P "all_sorts", .str "all_sorts" 423, .ref 195⟩, ⟨PyData.keyHash P "sort_of", .str "sort_of" 431, .ref 202⟩, ⟨PyData.keyHash P "is_gap", .str "is_gap" 440, .ref 209⟩, ⟨PyData.keyHash P "part_takes", .str "part_takes" 448, .ref 216⟩, ⟨PyData.keyHash P "first_misfit", .str "first_misfit" 458, .ref 223⟩, ⟨PyData.keyHash P "writes", .str "writes" 466, .ref 230⟩, ⟨PyData.keyHash P "unlike", .str "unlike" 477, .ref 237⟩, ⟨PyData.keyHash P "words_at", .str "words_at" 483, .ref 242⟩, ⟨PyData.keyHash P "least_part", .str "least_part" 489, .ref 247⟩, ⟨PyData.keyHash P "least_form", .str "least_form" 495, .ref 252⟩, ⟨PyData.keyHash P "form_within", .str "form_within" 501, .ref 257⟩, ⟨PyData.keyHash P "MOST_UNLIKE", .str "MOST_UNLIKE" 505, .int 8 504⟩, ⟨PyData.keyHash P "rows_in", .str "rows_in" 511, .ref 262⟩, ⟨PyData.keyHash P "writes_others", .str "writes_others" 517, .ref 267⟩, ⟨PyData.keyHash P "groups_on", .str "groups_on" 529, .ref 274⟩, ⟨PyData.keyHash P "first_grouping", .str "first_grouping" 535, .ref 279⟩, ⟨PyData.keyHash P "groups", .str "groups" 542, .ref 285⟩, ⟨PyData.keyHash P "_law_cell_at", .str "_law_cell_at" 552, .ref 292⟩, ⟨PyData.keyHash P "_law_pick", .str "_law_pick" 561, .ref 299⟩, ⟨PyData.keyHash P "_law_signs", .str "_law_signs" 567, .ref 304⟩, ⟨PyData.keyHash P "_law_mark", .str "_law_mark" 578, .ref 311⟩, ⟨PyData.keyHash P "_law_name", .str "_law_name" 586, .ref 318⟩, ⟨PyData.keyHash P "_law_word", .str "_law_word" 596, .ref 325⟩, ⟨PyData.keyHash P "_law_sort", .str "_law_sort" 602, .ref 330⟩, ⟨PyData.keyHash P "_law_turned", .str "_law_turned" 615, .ref 337⟩, ⟨PyData.keyHash P "_law_rows", .str "_law_rows" 628, .ref 344⟩, ⟨PyData.keyHash P "_law_least", .str "_law_least" 639, .ref 351⟩, ⟨PyData.keyHash P "_law_fits", .str "_law_fits" 648, .ref 358⟩, ⟨PyData.keyHash P "_law_good", .str "_law_good" 654, .ref 363⟩, ⟨PyData.keyHash P "_law_goods", .str "_law_goods" 660, .ref 368⟩, ⟨PyData.keyHash P "_law_ways", .str "_law_ways" 672, .ref 375⟩, ⟨PyData.keyHash P "_law_first", .str "_law_first" 678, .ref 380⟩, ⟨PyData.keyHash P "law", .str "law" 684, .ref 385⟩] 58}) ::
 (nat_lit 15, {cls := .type "tuple", data := .seq #[.type "ValueError"]}) ::
 (nat_lit 22, {cls := .type "tuple", data := .seq #[]}) ::
 (nat_lit 23, {cls := .type "dict", data := .dict #[⟨PyData.keyHash P "__module__", .str "__module__" 196, .str "logloom.errors" 187⟩, ⟨PyData.keyHash P "__firstlineno__", .str "__firstlineno__" 200, .int 2 199⟩, ⟨PyData.keyHash P "__static_attributes__", .str "__static_attributes__" 201, .ref 22⟩, ⟨PyData.keyHash P "__weakref__", .str "__weakref__" 203, .ref 25⟩, ⟨PyData.keyHash P "__doc__", .str "__doc__" 204, .none⟩] 3}) ::
 (nat_lit 24, {cls := .type "type", data := Data.cls { name := Str.ofString "LoomError", bases := [.type "ValueError"], mro := [.ref 24, .type "ValueError", .type "Exception", .type "BaseException", .type "object"], ns := 23, qualname := Str.ofString "LoomError", subclasses := [.ref 44]}, slots := #[some (.ref 15), none, some (.str "LoomError" 189), some (.str "LoomError" 197), some (.builtin "ValueError.__new__"), some (.bool true)]}) ::
 (nat_lit 25, {cls := .type "getset_descriptor", data := .fields #[.str "__weakref__" 202, .ref 24, .builtin "ExceptionGroup.__weakref__", .none]}) ::
 (nat_lit 28, {cls := .type "tuple", data := .seq #[.ref 24]}) ::
 (nat_lit 35, {cls := .type "tuple", data := .seq #[]}) ::
 (nat_lit 37, {cls := .type "tuple", data := .seq #[.str "self" 222, .str "number" 223]}) ::
 (nat_lit 38, {cls := .type "tuple", data := .seq #[]}) ::
 (nat_lit 40, {cls := .type "code", data := .fields #[.str "__init__" 219, .str "TooMany.__init__" 220, .str "/claim/cut.py" 221, .int 6 0, .int 2 0, .int 0 0, .int 0 0, .int 3 0, .ref 35, .bool true, .int 181 0, .ref 36, .none, .ref 37, .ref 38, .ref 39, .int 224 0, .int 6 0, .str "/claim/cut.py" 225]}) ::
 (nat_lit 41, ⟨(.type "function"), none, .func (W.fnOf "__init__" "TooMany.__init__" (defArgs (inClass (top 2) 0)) (defBody (inClass (top 2) 0)) (defScope (inClass (top 2) 0)) .none .none .none (.str "logloom.errors" 187) none (.ref 40) .none), #[]⟩) ::
 (nat_lit 42, {cls := .type "tuple", data := .seq #[.str "number" 227]}) ::
 (nat_lit 43, {cls := .type "dict", data := .dict #[⟨PyData.keyHash P "__module__", .str "__module__" 214, .str "logloom.errors" 187⟩, ⟨PyData.keyHash P "__firstlineno__", .str "__firstlineno__" 218, .int 4 217⟩, ⟨PyData.keyHash P "__init__", .str "__init__" 226, .ref 41⟩, ⟨PyData.keyHash P "__static_attributes__", .str "__static_attributes__" 228, .ref 42⟩, ⟨PyData.keyHash P "__doc__", .str "__doc__" 229, .none⟩] 2}) ::
 (nat_lit 44, {cls := .type "type", data := Data.cls { name := Str.ofString "TooMany", bases := [.ref 24], mro := [.ref 44, .ref 24, .type "ValueError", .type "Exception", .type "BaseException", .type "object"], ns := 43, qualname := Str.ofString "TooMany"}, slots := #[some (.ref 28), none, some (.str "TooMany" 207), some (.str "TooMany" 215), some (.builtin "ValueError.__new__"), some (.bool true)]}) ::
 (nat_lit 47, {cls := .type "tuple", data := .seq #[]}) ::
 (nat_lit 50, {cls := .type "code", data := .fields #[.str "made_of" 248, .str "made_of" 249, .str "/claim/cut.py" 250, .int 16 0, .int 2 0, .int 0 0, .int 0 0, .int 3 0, .ref 47, .bool true, .int 181 0, .ref 48, .none, .none, .none, .ref 49, .int 251 0, .int 16 0, .str "/claim/cut.py" 252]}) ::
 (nat_lit 51, ⟨(.type "function"), none, .func (W.fnOf "made_of" "made_of" (defArgs (top 11)) (defBody (top 11)) (defScope (top 11)) .none .none .none (.str "logloom.sorts" 232) none (.ref 50) .none), #[]⟩) ::
 (nat_lit 59, {cls := .type "tuple", data := .seq #[]}) ::
 (nat_lit 61, {cls := .type "tuple", data := .seq #[.str "self" 269]}) ::
 (nat_lit 62, {cls := .type "tuple", data := .seq #[]}) ::
 (nat_lit 64, {cls := .type "code", data := .fields #[.str "word" 266, .str "Sort.word" 267, .str "/claim/cut.py" 268, .int 20 0, .int 1 0, .int 0 0, .int 0 0, .int 3 0, .ref 59, .bool true, .int 181 0, .ref 60, .none, .ref 61, .ref 62, .ref 63, .int 270 0, .int 20 0, .str "/claim/cut.py" 271]}) ::
 (nat_lit 65, ⟨(.type "function"), none, .func (W.fnOf "word" "Sort.word" (defArgs (inClass (top 12) 0)) (defBody (inClass (top 12) 0)) (defScope (inClass (top 12) 0)) .none .none .none (.str "logloom.sorts" 232) none (.ref 64) .none), #[]⟩) ::
 (nat_lit 66, {cls := .type "tuple", data := .seq #[]}) ::
 (nat_lit 68, {cls := .type "tuple", data := .seq #[.str "self" 276, .str "text" 277]}) ::
 (nat_lit 69, {cls := .type "tuple", data := .seq #[]}) ::
 (nat_lit 71, {cls := .type "code", data := .fields #[.str "takes" 273, .str "Sort.takes" 274, .str "/claim/cut.py" 275, .int 23 0, .int 2 0, .int 0 0, .int 0 0, .int 3 0, .ref 66, .bool true, .int 181 0, .ref 67, .none, .ref 68, .ref 69, .ref 70, .int 278 0, .int 23 0, .str "/claim/cut.py" 279]}) ::
 (nat_lit 72, ⟨(.type "function"), none, .func (W.fnOf "takes" "Sort.takes" (defArgs (inClass (top 12) 1)) (defBody (inClass (top 12) 1)) (defScope (inClass (top 12) 1)) .none .none .none (.str "logloom.sorts" 232) none (.ref 71) .none), #[]⟩) ::
 (nat_lit 73, {cls := .type "tuple", data := .seq #[]}) ::
 (nat_lit 74, {cls := .type "dict", data := .dict #[⟨PyData.keyHash P "__module__", .str "__module__" 261, .str "logloom.sorts" 232⟩, ⟨PyData.keyHash P "__firstlineno__", .str "__firstlineno__" 265, .int 18 264⟩, ⟨PyData.keyHash P "word", .str "word" 272, .ref 65⟩, ⟨PyData.keyHash P "takes", .str "takes" 280, .ref 72⟩, ⟨PyData.keyHash P "__static_attributes__", .str "__static_attributes__" 281, .ref 73⟩, ⟨PyData.keyHash P "__dict__", .str "__dict__" 283, .ref 76⟩, ⟨PyData.keyHash P "__weakref__", .str "__weakref__" 285, .ref 77⟩, ⟨PyData.keyHash P "__doc__", .str "__doc__" 286, .none⟩] 4}) ::
 (nat_lit 75, {cls := .type "type", data := Data.cls { name := Str.ofString "Sort", bases := [.type "object"], mro := [.ref 75, .type "object"], ns := 74, qualname := Str.ofString "Sort", subclasses := [.ref 103, .ref 129, .ref 153, .ref 179]}, slots := #[none, none, some (.str "Sort" 254), some (.str "Sort" 262), some (.builtin "object.__new__"), some (.bool true)]}) ::
 (nat_lit 76, {cls := .type "getset_descriptor", data := .fields #[.str "__dict__" 282, .ref 75, .builtin "function.__dict__", .builtin "function.__dict__#set"]}) ::
 (nat_lit 77, {cls := .type "getset_descriptor", data := .fields #[.str "__weakref__" 284, .ref 75, .builtin "ExceptionGroup.__weakref__", .none]}) ::
 (nat_lit 80, {cls := .type "tuple", data := .seq #[.ref 75]}) ::
 (nat_lit 87, {cls := .type "tuple", data := .seq #[]}) ::
 (nat_lit 89, {cls := .type "tuple", data := .seq #[.str "self" 304]}) ::
 (nat_lit 90, {cls := .type "tuple", data := .seq #[]}) ::
 (nat_lit 92, {cls := .type "code", data := .fields #[.str "word" 301, .str "Number.word" 302, .str "/claim/cut.py" 303, .int 27 0, .int 1 0, .int 0 0, .int 0 0, .int 3 0, .ref 87, .bool true, .int 181 0, .ref 88, .none, .ref 89, .ref 90, .ref 91, .int 305 0, .int 27 0, .str "/claim/cut.py" 306]}) ::
 (nat_lit 93, ⟨(.type "function"), none, .func (W.fnOf "word" "Number.word" (defArgs (inClass (top 13) 0)) (defBody (inClass (top 13) 0)) (defScope (inClass (top 13) 0)) .none .none .none (.str "logloom.sorts" 232) none (.ref 92) .none), #[]⟩) ::
 (nat_lit 94, {cls := .type "tuple", data := .seq #[]}) ::
 (nat_lit 96, {cls := .type "tuple", data := .seq #[.str "self" 311, .str "text" 312]}) ::
 (nat_lit 97, {cls := .type "tuple", data := .seq #[]}) ::
 (nat_lit 99, {cls := .type "code", data := .fields #[.str "takes" 308, .str "Number.takes" 309, .str "/claim/cut.py" 310, .int 30 0, .int 2 0, .int 0 0, .int 0 0, .int 3 0, .ref 94, .bool true, .int 181 0, .ref 95, .none, .ref 96, .ref 97, .ref 98, .int 313 0, .int 30 0, .str "/claim/cut.py" 314]}) ::
 (nat_lit 100, ⟨(.type "function"), none, .func (W.fnOf "takes" "Number.takes" (defArgs (inClass (top 13) 1)) (defBody (inClass (top 13) 1)) (defScope (inClass (top 13) 1)) .none .none .none (.str "logloom.sorts" 232) none (.ref 99) .none), #[]⟩) ::
 (nat_lit 101, {cls := .type "tuple", data := .seq #[]}) ::
 (nat_lit 102, {cls := .type "dict", data := .dict #[⟨PyData.keyHash P "__module__", .str "__module__" 296, .str "logloom.sorts" 232⟩, ⟨PyData.keyHash P "__firstlineno__", .str "__firstlineno__" 300, .int 25 299⟩, ⟨PyData.keyHash P "word", .str "word" 307, .ref 93⟩, ⟨PyData.keyHash P "takes", .str "takes" 315, .ref 100⟩, ⟨PyData.keyHash P "__static_attributes__", .str "__static_attributes__" 316, .ref 101⟩, ⟨PyData.keyHash P "__doc__", .str "__doc__" 317, .none⟩] 2}) ::
 (nat_lit 103, {cls := .type "type", data := Data.cls { name := Str.ofString "Number", bases := [.ref 75], mro := [.ref 103, .ref 75, .type "object"], ns := 102, qualname := Str.ofString "Number"}, slots := #[some (.ref 80), none, some (.str "Number" 289), some (.str "Number" 297), some (.builtin "object.__new__"), some (.bool true)]}) ::
 (nat_lit 106, {cls := .type "tuple", data := .seq #[.ref 75]}) ::
 (nat_lit 113, {cls := .type "tuple", data := .seq #[]}) ::
 (nat_lit 115, {cls := .type "tuple", data := .seq #[.str "self" 335]}) ::
 (nat_lit 116, {cls := .type "tuple", data := .seq #[]}) ::
 (nat_lit 118, {cls := .type "code", data := .fields #[.str "word" 332, .str "Name.word" 333, .str "/claim/cut.py" 334, .int 36 0, .int 1 0, .int 0 0, .int 0 0, .int 3 0, .ref 113, .bool true, .int 181 0, .ref 114, .none, .ref 115, .ref 116, .ref 117, .int 336 0, .int 36 0, .str "/claim/cut.py" 337]}) ::
 (nat_lit 119, ⟨(.type "function"), none, .func (W.fnOf "word" "Name.word" (defArgs (inClass (top 14) 0)) (defBody (inClass (top 14) 0)) (defScope (inClass (top 14) 0)) .none .none .none (.str "logloom.sorts" 232) none (.ref 118) .none), #[]⟩) ::
 (nat_lit 120, {cls := .type "tuple", data := .seq #[]}) ::
 (nat_lit 122, {cls := .type "tuple", data := .seq #[.str "self" 342, .str "text" 343]}) ::
 (nat_lit 123, {cls := .type "tuple", data := .seq #[]}) ::
 (nat_lit 125, {cls := .type "code", data := .fields #[.str "takes" 339, .str "Name.takes" 340, .str "/claim/cut.py" 341, .int 39 0, .int 2 0, .int 0 0, .int 0 0, .int 3 0, .ref 120, .bool true, .int 181 0, .ref 121, .none, .ref 122, .ref 123, .ref 124, .int 344 0, .int 39 0, .str "/claim/cut.py" 345]}) ::
 (nat_lit 126, ⟨(.type "function"), none, .func (W.fnOf "takes" "Name.takes" (defArgs (inClass (top 14) 1)) (defBody (inClass (top 14) 1)) (defScope (inClass (top 14) 1)) .none .none .none (.str "logloom.sorts" 232) none (.ref 125) .none), #[]⟩) ::
 (nat_lit 127, {cls := .type "tuple", data := .seq #[]}) ::
 (nat_lit 128, {cls := .type "dict", data := .dict #[⟨PyData.keyHash P "__module__", .str "__module__" 327, .str "logloom.sorts" 232⟩, ⟨PyData.keyHash P "__firstlineno__", .str "__firstlineno__" 331, .int 34 330⟩, ⟨PyData.keyHash P "word", .str "word" 338, .ref 119⟩, ⟨PyData.keyHash P "takes", .str "takes" 346, .ref 126⟩, ⟨PyData.keyHash P "__static_attributes__", .str "__static_attributes__" 347, .ref 127⟩, ⟨PyData.keyHash P "__doc__", .str "__doc__" 348, .none⟩] 2}) ::
 (nat_lit 129, {cls := .type "type", data := Data.cls { name := Str.ofString "Name", bases := [.ref 75], mro := [.ref 129, .ref 75, .type "object"], ns := 128, qualname := Str.ofString "Name"}, slots := #[some (.ref 106), none, some (.str "Name" 320), some (.str "Name" 328), some (.builtin "object.__new__"), some (.bool true)]}) ::
 (nat_lit 132, {cls := .type "tuple", data := .seq #[.ref 75]}) ::
 (nat_lit 139, {cls := .type "tuple", data := .seq #[]}) ::
 (nat_lit 141, {cls := .type "tuple", data := .seq #[.str "self" 366]}) ::
 (nat_lit 142, {cls := .type "tuple", data := .seq #[]}) ::
 (nat_lit 144, {cls := .type "code", data := .fields #[.str "word" 363, .str "Items.word" 364, .str "/claim/cut.py" 365, .int 45 0, .int 1 0, .int 0 0, .int 0 0, .int 3 0, .ref 139, .bool true, .int 181 0, .ref 140, .none, .ref 141, .ref 142, .ref 143, .int 367 0, .int 45 0, .str "/claim/cut.py" 368]}) ::
 (nat_lit 145, ⟨(.type "function"), none, .func (W.fnOf "word" "Items.word" (defArgs (inClass (top 15) 0)) (defBody (inClass (top 15) 0)) (defScope (inClass (top 15) 0)) .none .none .none (.str "logloom.sorts" 232) none (.ref 144) .none), #[]⟩) ::
 (nat_lit 146, {cls := .type "tuple", data := .seq #[]}) ::
 (nat_lit 149, {cls := .type "code", data := .fields #[.str "takes" 370, .str "Items.takes" 371, .str "/claim/cut.py" 372, .int 48 0, .int 2 0, .int 0 0, .int 0 0, .int 3 0, .ref 146, .bool true, .int 181 0, .ref 147, .none, .none, .none, .ref 148, .int 373 0, .int 48 0, .str "/claim/cut.py" 374]}) ::
 (nat_lit 150, ⟨(.type "function"), none, .func (W.fnOf "takes" "Items.takes" (defArgs (inClass (top 15) 1)) (defBody (inClass (top 15) 1)) (defScope (inClass (top 15) 1)) .none .none .none (.str "logloom.sorts" 232) none (.ref 149) .none), #[]⟩) ::
 (nat_lit 151, {cls := .type "tuple", data := .seq #[]}) ::
 (nat_lit 152, {cls := .type "dict", data := .dict #[⟨PyData.keyHash P "__module__", .str "__module__" 358, .str "logloom.sorts" 232⟩, ⟨PyData.keyHash P "__firstlineno__", .str "__firstlineno__" 362, .int 43 361⟩, ⟨PyData.keyHash P "word", .str "word" 369, .ref 145⟩, ⟨PyData.keyHash P "takes", .str "takes" 375, .ref 150⟩, ⟨PyData.keyHash P "__static_attributes__", .str "__static_attributes__" 376, .ref 151⟩, ⟨PyData.keyHash P "__doc__", .str "__doc__" 377, .none⟩] 2}) ::
 (nat_lit 153, {cls := .type "type", data := Data.cls { name := Str.ofString "Items", bases := [.ref 75], mro := [.ref 153, .ref 75, .type "object"], ns := 152, qualname := Str.ofString "Items"}, slots := #[some (.ref 132), none, some (.str "Items" 351), some (.str "Items" 359), some (.builtin "object.__new__"), some (.bool true)]}) ::
 (nat_lit 156, {cls := .type "tuple", data := .seq #[.ref 75]}) ::
 (nat_lit 163, {cls := .type "tuple", data := .seq #[]}) ::
 (nat_lit 165, {cls := .type "tuple", data := .seq #[.str "self" 395]}) ::
 (nat_lit 166, {cls := .type "tuple", data := .seq #[]}) ::
 (nat_lit 168, {cls := .type "code", data := .fields #[.str "word" 392, .str "Mark.word" 393, .str "/claim/cut.py" 394, .int 57 0, .int 1 0, .int 0 0, .int 0 0, .int 3 0, .ref 163, .bool true, .int 181 0, .ref 164, .none, .ref 165, .ref 166, .ref 167, .int 396 0, .int 57 0, .str "/claim/cut.py" 397]}) ::
 (nat_lit 169, ⟨(.type "function"), none, .func (W.fnOf "word" "Mark.word" (defArgs (inClass (top 16) 0)) (defBody (inClass (top 16) 0)) (defScope (inClass (top 16) 0)) .none .none .none (.str "logloom.sorts" 232) none (.ref 168) .none), #[]⟩) ::
 (nat_lit 170, {cls := .type "tuple", data := .seq #[]}) ::
 (nat_lit 172, {cls := .type "tuple", data := .seq #[.str "self" 402, .str "text" 403]}) ::
 (nat_lit 173, {cls := .type "tuple", data := .seq #[]}) ::
 (nat_lit 175, {cls := .type "code", data := .fields #[.str "takes" 399, .str "Mark.takes" 400, .str "/claim/cut.py" 401, .int 60 0, .int 2 0, .int 0 0, .int 0 0, .int 3 0, .ref 170, .bool true, .int 181 0, .ref 171, .none, .ref 172, .ref 173, .ref 174, .int 404 0, .int 60 0, .str "/claim/cut.py" 405]}) ::
 (nat_lit 176, ⟨(.type "function"), none, .func (W.fnOf "takes" "Mark.takes" (defArgs (inClass (top 16) 1)) (defBody (inClass (top 16) 1)) (defScope (inClass (top 16) 1)) .none .none .none (.str "logloom.sorts" 232) none (.ref 175) .none), #[]⟩) ::
 (nat_lit 177, {cls := .type "tuple", data := .seq #[]}) ::
 (nat_lit 178, {cls := .type "dict", data := .dict #[⟨PyData.keyHash P "__module__", .str "__module__" 387, .str "logloom.sorts" 232⟩, ⟨PyData.keyHash P "__firstlineno__", .str "__firstlineno__" 391, .int 55 390⟩, ⟨PyData.keyHash P "word", .str "word" 398, .ref 169⟩, ⟨PyData.keyHash P "takes", .str "takes" 406, .ref 176⟩, ⟨PyData.keyHash P "__static_attributes__", .str "__static_attributes__" 407, .ref 177⟩, ⟨PyData.keyHash P "__doc__", .str "__doc__" 408, .none⟩] 2}) ::
 (nat_lit 179, {cls := .type "type", data := Data.cls { name := Str.ofString "Mark", bases := [.ref 75], mro := [.ref 179, .ref 75, .type "object"], ns := 178, qualname := Str.ofString "Mark"}, slots := #[some (.ref 156), none, some (.str "Mark" 380), some (.str "Mark" 388), some (.builtin "object.__new__"), some (.bool true)]}) ::
 (nat_lit 182, {cls := .type "tuple", data := .seq #[]}) ::
 (nat_lit 184, {cls := .type "tuple", data := .seq #[.str "text" 414]}) ::
 (nat_lit 185, {cls := .type "tuple", data := .seq #[]}) ::
 (nat_lit 187, {cls := .type "code", data := .fields #[.str "is_item" 411, .str "is_item" 412, .str "/claim/cut.py" 413, .int 64 0, .int 1 0, .int 0 0, .int 0 0, .int 3 0, .ref 182, .bool true, .int 181 0, .ref 183, .none, .ref 184, .ref 185, .ref 186, .int 415 0, .int 64 0, .str "/claim/cut.py" 416]}) ::
 (nat_lit 188, ⟨(.type "function"), none, .func (W.fnOf "is_item" "is_item" (defArgs (top 17)) (defBody (top 17)) (defScope (top 17)) .none .none .none (.str "logloom.sorts" 232) none (.ref 187) .none), #[]⟩) ::
 (nat_lit 189, {cls := .type "tuple", data := .seq #[]}) ::
 (nat_lit 191, {cls := .type "tuple", data := .seq #[]}) ::
 (nat_lit 192, {cls := .type "tuple", data := .seq #[]}) ::
 (nat_lit 194, {cls := .type "code", data := .fields #[.str "all_sorts" 418, .str "all_sorts" 419, .str "/claim/cut.py" 420, .int 66 0, .int 0 0, .int 0 0, .int 0 0, .int 3 0, .ref 189, .bool true, .int 181 0, .ref 190, .none, .ref 191, .ref 192, .ref 193, .int 421 0, .int 66 0, .str "/claim/cut.py" 422]}) ::
 (nat_lit 195, ⟨(.type "function"), none, .func (W.fnOf "all_sorts" "all_sorts" (defArgs (top 18)) (defBody (top 18)) (defScope (top 18)) .none .none .none (.str "logloom.sorts" 232) none (.ref 194) .none), #[]⟩) ::
 (nat_lit 196, {cls := .type "tuple", data := .seq #[]}) ::
 (nat_lit 198, {cls := .type "tuple", data := .seq #[.str "text" 427, .str "sort" 428]}) ::
 (nat_lit 199, {cls := .type "tuple", data := .seq #[]}) ::
 (nat_lit 201, {cls := .type "code", data := .fields #[.str "sort_of" 424, .str "sort_of" 425, .str "/claim/cut.py" 426, .int 68 0, .int 1 0, .int 0 0, .int 0 0, .int 3 0, .ref 196, .bool true, .int 181 0, .ref 197, .none, .ref 198, .ref 199, .ref 200, .int 429 0, .int 68 0, .str "/claim/cut.py" 430]}) ::
 (nat_lit 202, ⟨(.type "function"), none, .func (W.fnOf "sort_of" "sort_of" (defArgs (top 19)) (defBody (top 19)) (defScope (top 19)) .none .none .none (.str "logloom.sorts" 232) none (.ref 201) .none), #[]⟩) ::
 (nat_lit 203, {cls := .type "tuple", data := .seq #[]}) ::
 (nat_lit 205, {cls := .type "tuple", data := .seq #[.str "part" 437]}) ::
 (nat_lit 206, {cls := .type "tuple", data := .seq #[]}) ::
 (nat_lit 208, {cls := .type "code", data := .fields #[.str "is_gap" 434, .str "is_gap" 435, .str "/claim/cut.py" 436, .int 74 0, .int 1 0, .int 0 0, .int 0 0, .int 3 0, .ref 203, .bool true, .int 181 0, .ref 204, .none, .ref 205, .ref 206, .ref 207, .int 438 0, .int 74 0, .str "/claim/cut.py" 439]}) ::
 (nat_lit 209, ⟨(.type "function"), none, .func (W.fnOf "is_gap" "is_gap" (defArgs (top 21)) (defBody (top 21)) (defScope (top 21)) .none .none .none (.str "logloom.forms" 432) none (.ref 208) .none), #[]⟩) ::
 (nat_lit 210, {cls := .type "tuple", data := .seq #[]}) ::
 (nat_lit 212, {cls := .type "tuple", data := .seq #[.str "part" 444, .str "word" 445]}) ::
 (nat_lit 213, {cls := .type "tuple", data := .seq #[]}) ::
 (nat_lit 215, {cls := .type "code", data := .fields #[.str "part_takes" 441, .str "part_takes" 442, .str "/claim/cut.py" 443, .int 76 0, .int 2 0, .int 0 0, .int 0 0, .int 3 0, .ref 210, .bool true, .int 181 0, .ref 211, .none, .ref 212, .ref 213, .ref 214, .int 446 0, .int 76 0, .str "/claim/cut.py" 447]}) ::
 (nat_lit 216, ⟨(.type "function"), none, .func (W.fnOf "part_takes" "part_takes" (defArgs (top 22)) (defBody (top 22)) (defScope (top 22)) .none .none .none (.str "logloom.forms" 432) none (.ref 215) .none), #[]⟩) ::
 (nat_lit 217, {cls := .type "tuple", data := .seq #[]}) ::
 (nat_lit 219, {cls := .type "tuple", data := .seq #[.str "parts" 452, .str "words" 453, .str "shared" 454, .str "at" 455]}) ::
 (nat_lit 220, {cls := .type "tuple", data := .seq #[]}) ::
 (nat_lit 222, {cls := .type "code", data := .fields #[.str "first_misfit" 449, .str "first_misfit" 450, .str "/claim/cut.py" 451, .int 80 0, .int 2 0, .int 0 0, .int 0 0, .int 3 0, .ref 217, .bool true, .int 181 0, .ref 218, .none, .ref 219, .ref 220, .ref 221, .int 456 0, .int 80 0, .str "/claim/cut.py" 457]}) ::
 (nat_lit 223, ⟨(.type "function"), none, .func (W.fnOf "first_misfit" "first_misfit" (defArgs (top 23)) (defBody (top 23)) (defScope (top 23)) .none .none .none (.str "logloom.forms" 432) none (.ref 222) .none), #[]⟩) ::
 (nat_lit 224, {cls := .type "tuple", data := .seq #[]}) ::
 (nat_lit 226, {cls := .type "tuple", data := .seq #[.str "form" 462, .str "row" 463]}) ::
 (nat_lit 227, {cls := .type "tuple", data := .seq #[]}) ::
 (nat_lit 229, {cls := .type "code", data := .fields #[.str "writes" 459, .str "writes" 460, .str "/claim/cut.py" 461, .int 86 0, .int 2 0, .int 0 0, .int 0 0, .int 3 0, .ref 224, .bool true, .int 181 0, .ref 225, .none, .ref 226, .ref 227, .ref 228, .int 464 0, .int 86 0, .str "/claim/cut.py" 465]}) ::
 (nat_lit 230, ⟨(.type "function"), none, .func (W.fnOf "writes" "writes" (defArgs (top 24)) (defBody (top 24)) (defScope (top 24)) .none .none .none (.str "logloom.forms" 432) none (.ref 229) .none), #[]⟩) ::
 (nat_lit 231, {cls := .type "tuple", data := .seq #[]}) ::
 (nat_lit 233, {cls := .type "tuple", data := .seq #[.str "rows" 472, .str "met" 473, .str "row" 474]}) ::
 (nat_lit 234, {cls := .type "tuple", data := .seq #[]}) ::
 (nat_lit 236, {cls := .type "code", data := .fields #[.str "unlike" 469, .str "unlike" 470, .str "/claim/cut.py" 471, .int 89 0, .int 1 0, .int 0 0, .int 0 0, .int 3 0, .ref 231, .bool true, .int 181 0, .ref 232, .none, .ref 233, .ref 234, .ref 235, .int 475 0, .int 89 0, .str "/claim/cut.py" 476]}) ::
 (nat_lit 237, ⟨(.type "function"), none, .func (W.fnOf "unlike" "unlike" (defArgs (top 26)) (defBody (top 26)) (defScope (top 26)) .none .none .none (.str "logloom.joins" 467) none (.ref 236) .none), #[]⟩) ::
 (nat_lit 238, {cls := .type "tuple", data := .seq #[]}) ::
 (nat_lit 241, {cls := .type "code", data := .fields #[.str "words_at" 478, .str "words_at" 479, .str "/claim/cut.py" 480, .int 95 0, .int 2 0, .int 0 0, .int 0 0, .int 3 0, .ref 238, .bool true, .int 181 0, .ref 239, .none, .none, .none, .ref 240, .int 481 0, .int 95 0, .str "/claim/cut.py" 482]}) ::
 (nat_lit 242, ⟨(.type "function"), none, .func (W.fnOf "words_at" "words_at" (defArgs (top 27)) (defBody (top 27)) (defScope (top 27)) .none .none .none (.str "logloom.joins" 467) none (.ref 241) .none), #[]⟩) ::
 (nat_lit 243, {cls := .type "tuple", data := .seq #[]}) ::
 (nat_lit 246, {cls := .type "code", data := .fields #[.str "least_part" 484, .str "least_part" 485, .str "/claim/cut.py" 486, .int 97 0, .int 1 0, .int 0 0, .int 0 0, .int 3 0, .ref 243, .bool true, .int 181 0, .ref 244, .none, .none, .none, .ref 245, .int 487 0, .int 97 0, .str "/claim/cut.py" 488]}) ::
 (nat_lit 247, ⟨(.type "function"), none, .func (W.fnOf "least_part" "least_part" (defArgs (top 28)) (defBody (top 28)) (defScope (top 28)) .none .none .none (.str "logloom.joins" 467) none (.ref 246) .none), #[]⟩) ::
 (nat_lit 248, {cls := .type "tuple", data := .seq #[]}) ::
 (nat_lit 251, {cls := .type "code", data := .fields #[.str "least_form" 490, .str "least_form" 491, .str "/claim/cut.py" 492, .int 105 0, .int 1 0, .int 0 0, .int 0 0, .int 3 0, .ref 248, .bool true, .int 181 0, .ref 249, .none, .none, .none, .ref 250, .int 493 0, .int 105 0, .str "/claim/cut.py" 494]}) ::
 (nat_lit 252, ⟨(.type "function"), none, .func (W.fnOf "least_form" "least_form" (defArgs (top 29)) (defBody (top 29)) (defScope (top 29)) .none .none .none (.str "logloom.joins" 467) none (.ref 251) .none), #[]⟩) ::
 (nat_lit 253, {cls := .type "tuple", data := .seq #[]}) ::
 (nat_lit 256, {cls := .type "code", data := .fields #[.str "form_within" 496, .str "form_within" 497, .str "/claim/cut.py" 498, .int 110 0, .int 2 0, .int 0 0, .int 0 0, .int 3 0, .ref 253, .bool true, .int 181 0, .ref 254, .none, .none, .none, .ref 255, .int 499 0, .int 110 0, .str "/claim/cut.py" 500]}) ::
 (nat_lit 257, ⟨(.type "function"), none, .func (W.fnOf "form_within" "form_within" (defArgs (top 30)) (defBody (top 30)) (defScope (top 30)) .none .none .none (.str "logloom.joins" 467) none (.ref 256) .none), #[]⟩) ::
 (nat_lit 258, {cls := .type "tuple", data := .seq #[]}) ::
 (nat_lit 261, {cls := .type "code", data := .fields #[.str "rows_in" 506, .str "rows_in" 507, .str "/claim/cut.py" 508, .int 117 0, .int 2 0, .int 0 0, .int 0 0, .int 3 0, .ref 258, .bool true, .int 181 0, .ref 259, .none, .none, .none, .ref 260, .int 509 0, .int 117 0, .str "/claim/cut.py" 510]}) ::
 (nat_lit 262, ⟨(.type "function"), none, .func (W.fnOf "rows_in" "rows_in" (defArgs (top 33)) (defBody (top 33)) (defScope (top 33)) .none .none .none (.str "logloom.groups" 502) none (.ref 261) .none), #[]⟩) ::
 (nat_lit 263, {cls := .type "tuple", data := .seq #[]}) ::
 (nat_lit 266, {cls := .type "code", data := .fields #[.str "writes_others" 512, .str "writes_others" 513, .str "/claim/cut.py" 514, .int 119 0, .int 3 0, .int 0 0, .int 0 0, .int 3 0, .ref 263, .bool true, .int 181 0, .ref 264, .none, .none, .none, .ref 265, .int 515 0, .int 119 0, .str "/claim/cut.py" 516]}) ::
 (nat_lit 267, ⟨(.type "function"), none, .func (W.fnOf "writes_others" "writes_others" (defArgs (top 34)) (defBody (top 34)) (defScope (top 34)) .none .none .none (.str "logloom.groups" 502) none (.ref 266) .none), #[]⟩) ::
 (nat_lit 268, {cls := .type "tuple", data := .seq #[]}) ::
 (nat_lit 270, {cls := .type "tuple", data := .seq #[.str "group" 521, .str "known" 522, .str "most" 523, .str "form" 524, .str "found" 525, .str "number" 526]}) ::
 (nat_lit 271, {cls := .type "tuple", data := .seq #[]}) ::
 (nat_lit 273, {cls := .type "code", data := .fields #[.str "groups_on" 518, .str "groups_on" 519, .str "/claim/cut.py" 520, .int 121 0, .int 3 0, .int 0 0, .int 0 0, .int 3 0, .ref 268, .bool true, .int 181 0, .ref 269, .none, .ref 270, .ref 271, .ref 272, .int 527 0, .int 121 0, .str "/claim/cut.py" 528]}) ::
 (nat_lit 274, ⟨(.type "function"), none, .func (W.fnOf "groups_on" "groups_on" (defArgs (top 35)) (defBody (top 35)) (defScope (top 35)) .none .none .none (.str "logloom.groups" 502) none (.ref 273) .none), #[]⟩) ::
 (nat_lit 275, {cls := .type "tuple", data := .seq #[]}) ::
 (nat_lit 278, {cls := .type "code", data := .fields #[.str "first_grouping" 530, .str "first_grouping" 531, .str "/claim/cut.py" 532, .int 129 0, .int 3 0, .int 0 0, .int 0 0, .int 3 0, .ref 275, .bool true, .int 181 0, .ref 276, .none, .none, .none, .ref 277, .int 533 0, .int 129 0, .str "/claim/cut.py" 534]}) ::
 (nat_lit 279, ⟨(.type "function"), none, .func (W.fnOf "first_grouping" "first_grouping" (defArgs (top 36)) (defBody (top 36)) (defScope (top 36)) .none .none .none (.str "logloom.groups" 502) none (.ref 278) .none), #[]⟩) ::
 (nat_lit 280, {cls := .type "tuple", data := .seq #[.int 2 536]}) ::
 (nat_lit 281, {cls := .type "tuple", data := .seq #[]}) ::
 (nat_lit 284, {cls := .type "code", data := .fields #[.str "groups" 537, .str "groups" 538, .str "/claim/cut.py" 539, .int 141 0, .int 2 0, .int 0 0, .int 0 0, .int 3 0, .ref 281, .bool true, .int 181 0, .ref 282, .none, .none, .none, .ref 283, .int 540 0, .int 141 0, .str "/claim/cut.py" 541]}) ::
 (nat_lit 285, ⟨(.type "function"), none, .func (W.fnOf "groups" "groups" (defArgs (top 37)) (defBody (top 37)) (defScope (top 37)) (.ref 280) .none .none (.str "logloom.groups" 502) none (.ref 284) .none), #[]⟩) ::
 (nat_lit 286, {cls := .type "tuple", data := .seq #[]}) ::
 (nat_lit 288, {cls := .type "tuple", data := .seq #[.str "_law_script" 548, .str "_law_k" 549]}) ::
 (nat_lit 289, {cls := .type "tuple", data := .seq #[]}) ::
 (nat_lit 291, {cls := .type "code", data := .fields #[.str "_law_cell_at" 545, .str "_law_cell_at" 546, .str "/claim/cut.py" 547, .int 153 0, .int 2 0, .int 0 0, .int 0 0, .int 3 0, .ref 286, .bool true, .int 181 0, .ref 287, .none, .ref 288, .ref 289, .ref 290, .int 550 0, .int 153 0, .str "/claim/cut.py" 551]}) ::
 (nat_lit 292, ⟨(.type "function"), none, .func (W.fnOf "_law_cell_at" "_law_cell_at" (defArgs (top 39)) (defBody (top 39)) (defScope (top 39)) .none .none .none (.str "law_logloom_k13_whole_no_fewer_groups" 543) none (.ref 291) .none), #[]⟩) ::
 (nat_lit 293, {cls := .type "tuple", data := .seq #[]}) ::
 (nat_lit 295, {cls := .type "tuple", data := .seq #[.str "_law_cell" 556, .str "_law_k" 557, .str "_law_many" 558]}) ::
 (nat_lit 296, {cls := .type "tuple", data := .seq #[]}) ::
 (nat_lit 298, {cls := .type "code", data := .fields #[.str "_law_pick" 553, .str "_law_pick" 554, .str "/claim/cut.py" 555, .int 157 0, .int 3 0, .int 0 0, .int 0 0, .int 3 0, .ref 293, .bool true, .int 181 0, .ref 294, .none, .ref 295, .ref 296, .ref 297, .int 559 0, .int 157 0, .str "/claim/cut.py" 560]}) ::
 (nat_lit 299, ⟨(.type "function"), none, .func (W.fnOf "_law_pick" "_law_pick" (defArgs (top 40)) (defBody (top 40)) (defScope (top 40)) .none .none .none (.str "law_logloom_k13_whole_no_fewer_groups" 543) none (.ref 298) .none), #[]⟩) ::
 (nat_lit 300, {cls := .type "tuple", data := .seq #[]}) ::
 (nat_lit 303, {cls := .type "code", data := .fields #[.str "_law_signs" 562, .str "_law_signs" 563, .str "/claim/cut.py" 564, .int 159 0, .int 3 0, .int 0 0, .int 0 0, .int 3 0, .ref 300, .bool true, .int 181 0, .ref 301, .none, .none, .none, .ref 302, .int 565 0, .int 159 0, .str "/claim/cut.py" 566]}) ::
 (nat_lit 304, ⟨(.type "function"), none, .func (W.fnOf "_law_signs" "_law_signs" (defArgs (top 41)) (defBody (top 41)) (defScope (top 41)) .none .none .none (.str "law_logloom_k13_whole_no_fewer_groups" 543) none (.ref 303) .none), #[]⟩) ::
 (nat_lit 305, {cls := .type "tuple", data := .seq #[]}) ::
 (nat_lit 307, {cls := .type "tuple", data := .seq #[.str "_law_cell" 571, .str "_law_small" 572, .str "_law_rare" 573, .str "_law_more" 574, .str "_law_at" 575]}) ::
 (nat_lit 308, {cls := .type "tuple", data := .seq #[]}) ::
 (nat_lit 310, {cls := .type "code", data := .fields #[.str "_law_mark" 568, .str "_law_mark" 569, .str "/claim/cut.py" 570, .int 161 0, .int 1 0, .int 0 0, .int 0 0, .int 3 0, .ref 305, .bool true, .int 181 0, .ref 306, .none, .ref 307, .ref 308, .ref 309, .int 576 0, .int 161 0, .str "/claim/cut.py" 577]}) ::
 (nat_lit 311, ⟨(.type "function"), none, .func (W.fnOf "_law_mark" "_law_mark" (defArgs (top 42)) (defBody (top 42)) (defScope (top 42)) .none .none .none (.str "law_logloom_k13_whole_no_fewer_groups" 543) none (.ref 310) .none), #[]⟩) ::
 (nat_lit 312, {cls := .type "tuple", data := .seq #[]}) ::
 (nat_lit 314, {cls := .type "tuple", data := .seq #[.str "_law_cell" 582, .str "_law_small" 583]}) ::
 (nat_lit 315, {cls := .type "tuple", data := .seq #[]}) ::
 (nat_lit 317, {cls := .type "code", data := .fields #[.str "_law_name" 579, .str "_law_name" 580, .str "/claim/cut.py" 581, .int 173 0, .int 1 0, .int 0 0, .int 0 0, .int 3 0, .ref 312, .bool true, .int 181 0, .ref 313, .none, .ref 314, .ref 315, .ref 316, .int 584 0, .int 173 0, .str "/claim/cut.py" 585]}) ::
 (nat_lit 318, ⟨(.type "function"), none, .func (W.fnOf "_law_name" "_law_name" (defArgs (top 43)) (defBody (top 43)) (defScope (top 43)) .none .none .none (.str "law_logloom_k13_whole_no_fewer_groups" 543) none (.ref 317) .none), #[]⟩) ::
 (nat_lit 319, {cls := .type "tuple", data := .seq #[]}) ::
 (nat_lit 321, {cls := .type "tuple", data := .seq #[.str "_law_sort_here" 590, .str "_law_cell" 591, .str "_law_items" 592, .str "_law_k" 593]}) ::
 (nat_lit 322, {cls := .type "tuple", data := .seq #[]}) ::
 (nat_lit 324, {cls := .type "code", data := .fields #[.str "_law_word" 587, .str "_law_word" 588, .str "/claim/cut.py" 589, .int 176 0, .int 2 0, .int 0 0, .int 0 0, .int 3 0, .ref 319, .bool true, .int 181 0, .ref 320, .none, .ref 321, .ref 322, .ref 323, .int 594 0, .int 176 0, .str "/claim/cut.py" 595]}) ::
 (nat_lit 325, ⟨(.type "function"), none, .func (W.fnOf "_law_word" "_law_word" (defArgs (top 44)) (defBody (top 44)) (defScope (top 44)) .none .none .none (.str "law_logloom_k13_whole_no_fewer_groups" 543) none (.ref 324) .none), #[]⟩) ::
 (nat_lit 326, {cls := .type "tuple", data := .seq #[]}) ::
 (nat_lit 329, {cls := .type "code", data := .fields #[.str "_law_sort" 597, .str "_law_sort" 598, .str "/claim/cut.py" 599, .int 190 0, .int 1 0, .int 0 0, .int 0 0, .int 3 0, .ref 326, .bool true, .int 181 0, .ref 327, .none, .none, .none, .ref 328, .int 600 0, .int 190 0, .str "/claim/cut.py" 601]}) ::
 (nat_lit 330, ⟨(.type "function"), none, .func (W.fnOf "_law_sort" "_law_sort" (defArgs (top 45)) (defBody (top 45)) (defScope (top 45)) .none .none .none (.str "law_logloom_k13_whole_no_fewer_groups" 543) none (.ref 329) .none), #[]⟩) ::
 (nat_lit 331, {cls := .type "tuple", data := .seq #[]}) ::
 (nat_lit 333, {cls := .type "tuple", data := .seq #[.str "_law_row" 606, .str "_law_cell" 607, .str "_law_salt" 608, .str "_law_turn" 609, .str "_law_at" 610, .str "_law_sort_here" 611, .str "_law_number" 612]}) ::
 (nat_lit 334, {cls := .type "tuple", data := .seq #[]}) ::
 (nat_lit 336, {cls := .type "code", data := .fields #[.str "_law_turned" 603, .str "_law_turned" 604, .str "/claim/cut.py" 605, .int 200 0, .int 3 0, .int 0 0, .int 0 0, .int 3 0, .ref 331, .bool true, .int 181 0, .ref 332, .none, .ref 333, .ref 334, .ref 335, .int 613 0, .int 200 0, .str "/claim/cut.py" 614]}) ::
 (nat_lit 337, ⟨(.type "function"), none, .func (W.fnOf "_law_turned" "_law_turned" (defArgs (top 46)) (defBody (top 46)) (defScope (top 46)) .none .none .none (.str "law_logloom_k13_whole_no_fewer_groups" 543) none (.ref 336) .none), #[]⟩) ::
 (nat_lit 338, {cls := .type "tuple", data := .seq #[]}) ::
 (nat_lit 340, {cls := .type "tuple", data := .seq #[.str "_law_script" 619, .str "_law_most" 620, .str "_law_salt" 621, .str "_law_base" 622, .str "_law_k" 623, .str "_law_cell" 624, .str "_law_rows_here" 625]}) ::
 (nat_lit 341, {cls := .type "tuple", data := .seq #[]}) ::
 (nat_lit 343, {cls := .type "code", data := .fields #[.str "_law_rows" 616, .str "_law_rows" 617, .str "/claim/cut.py" 618, .int 216 0, .int 2 0, .int 0 0, .int 0 0, .int 3 0, .ref 338, .bool true, .int 181 0, .ref 339, .none, .ref 340, .ref 341, .ref 342, .int 626 0, .int 216 0, .str "/claim/cut.py" 627]}) ::
 (nat_lit 344, ⟨(.type "function"), none, .func (W.fnOf "_law_rows" "_law_rows" (defArgs (top 47)) (defBody (top 47)) (defScope (top 47)) .none .none .none (.str "law_logloom_k13_whole_no_fewer_groups" 543) none (.ref 343) .none), #[]⟩) ::
 (nat_lit 345, {cls := .type "tuple", data := .seq #[]}) ::
 (nat_lit 347, {cls := .type "tuple", data := .seq #[.str "_law_rows_here" 632, .str "_law_form" 633, .str "_law_row" 634, .str "_law_at" 635, .str "_law_part" 636]}) ::
 (nat_lit 348, {cls := .type "tuple", data := .seq #[]}) ::
 (nat_lit 350, {cls := .type "code", data := .fields #[.str "_law_least" 629, .str "_law_least" 630, .str "/claim/cut.py" 631, .int 226 0, .int 1 0, .int 0 0, .int 0 0, .int 3 0, .ref 345, .bool true, .int 181 0, .ref 346, .none, .ref 347, .ref 348, .ref 349, .int 637 0, .int 226 0, .str "/claim/cut.py" 638]}) ::
 (nat_lit 351, ⟨(.type "function"), none, .func (W.fnOf "_law_least" "_law_least" (defArgs (top 48)) (defBody (top 48)) (defScope (top 48)) .none .none .none (.str "law_logloom_k13_whole_no_fewer_groups" 543) none (.ref 350) .none), #[]⟩) ::
 (nat_lit 352, {cls := .type "tuple", data := .seq #[]}) ::
 (nat_lit 354, {cls := .type "tuple", data := .seq #[.str "_law_form" 643, .str "_law_row" 644, .str "_law_at" 645]}) ::
 (nat_lit 355, {cls := .type "tuple", data := .seq #[]}) ::
 (nat_lit 357, {cls := .type "code", data := .fields #[.str "_law_fits" 640, .str "_law_fits" 641, .str "/claim/cut.py" 642, .int 240 0, .int 2 0, .int 0 0, .int 0 0, .int 3 0, .ref 352, .bool true, .int 181 0, .ref 353, .none, .ref 354, .ref 355, .ref 356, .int 646 0, .int 240 0, .str "/claim/cut.py" 647]}) ::
 (nat_lit 358, ⟨(.type "function"), none, .func (W.fnOf "_law_fits" "_law_fits" (defArgs (top 49)) (defBody (top 49)) (defScope (top 49)) .none .none .none (.str "law_logloom_k13_whole_no_fewer_groups" 543) none (.ref 357) .none), #[]⟩) ::
 (nat_lit 359, {cls := .type "tuple", data := .seq #[]}) ::
 (nat_lit 362, {cls := .type "code", data := .fields #[.str "_law_good" 649, .str "_law_good" 650, .str "/claim/cut.py" 651, .int 247 0, .int 3 0, .int 0 0, .int 0 0, .int 3 0, .ref 359, .bool true, .int 181 0, .ref 360, .none, .none, .none, .ref 361, .int 652 0, .int 247 0, .str "/claim/cut.py" 653]}) ::
 (nat_lit 363, ⟨(.type "function"), none, .func (W.fnOf "_law_good" "_law_good" (defArgs (top 50)) (defBody (top 50)) (defScope (top 50)) .none .none .none (.str "law_logloom_k13_whole_no_fewer_groups" 543) none (.ref 362) .none), #[]⟩) ::
 (nat_lit 364, {cls := .type "tuple", data := .seq #[]}) ::
 (nat_lit 367, {cls := .type "code", data := .fields #[.str "_law_goods" 655, .str "_law_goods" 656, .str "/claim/cut.py" 657, .int 252 0, .int 2 0, .int 0 0, .int 0 0, .int 3 0, .ref 364, .bool true, .int 181 0, .ref 365, .none, .none, .none, .ref 366, .int 658 0, .int 252 0, .str "/claim/cut.py" 659]}) ::
 (nat_lit 368, ⟨(.type "function"), none, .func (W.fnOf "_law_goods" "_law_goods" (defArgs (top 51)) (defBody (top 51)) (defScope (top 51)) .none .none .none (.str "law_logloom_k13_whole_no_fewer_groups" 543) none (.ref 367) .none), #[]⟩) ::
 (nat_lit 369, {cls := .type "tuple", data := .seq #[]}) ::
 (nat_lit 371, {cls := .type "tuple", data := .seq #[.str "_law_many" 664, .str "_law_found" 665, .str "_law_k" 666, .str "_law_more" 667, .str "_law_way" 668, .str "_law_at" 669]}) ::
 (nat_lit 372, {cls := .type "tuple", data := .seq #[]}) ::
 (nat_lit 374, {cls := .type "code", data := .fields #[.str "_law_ways" 661, .str "_law_ways" 662, .str "/claim/cut.py" 663, .int 260 0, .int 1 0, .int 0 0, .int 0 0, .int 3 0, .ref 369, .bool true, .int 181 0, .ref 370, .none, .ref 371, .ref 372, .ref 373, .int 670 0, .int 260 0, .str "/claim/cut.py" 671]}) ::
 (nat_lit 375, ⟨(.type "function"), none, .func (W.fnOf "_law_ways" "_law_ways" (defArgs (top 52)) (defBody (top 52)) (defScope (top 52)) .none .none .none (.str "law_logloom_k13_whole_no_fewer_groups" 543) none (.ref 374) .none), #[]⟩) ::
 (nat_lit 376, {cls := .type "tuple", data := .seq #[]}) ::
 (nat_lit 379, {cls := .type "code", data := .fields #[.str "_law_first" 673, .str "_law_first" 674, .str "/claim/cut.py" 675, .int 270 0, .int 2 0, .int 0 0, .int 0 0, .int 3 0, .ref 376, .bool true, .int 181 0, .ref 377, .none, .none, .none, .ref 378, .int 676 0, .int 270 0, .str "/claim/cut.py" 677]}) ::
 (nat_lit 380, ⟨(.type "function"), none, .func (W.fnOf "_law_first" "_law_first" (defArgs (top 53)) (defBody (top 53)) (defScope (top 53)) .none .none .none (.str "law_logloom_k13_whole_no_fewer_groups" 543) none (.ref 379) .none), #[]⟩) ::
 (nat_lit 381, {cls := .type "tuple", data := .seq #[]}) ::
 (nat_lit 384, {cls := .type "code", data := .fields #[.str "law" 679, .str "law" 680, .str "/claim/cut.py" 681, .int 278 0, .int 1 0, .int 0 0, .int 0 0, .int 3 0, .ref 381, .bool true, .int 181 0, .ref 382, .none, .none, .none, .ref 383, .int 682 0, .int 278 0, .str "/claim/cut.py" 683]}) ::
 (nat_lit 385, ⟨(.type "function"), none, .func (W.fnOf "law" "law" (defArgs (top 54)) (defBody (top 54)) (defScope (top 54)) .none .none .none (.str "law_logloom_k13_whole_no_fewer_groups" 543) none (.ref 384) .none), #[]⟩) :: []
def hA : List PySem.Addr := nat_lit 2 :: nat_lit 3 :: nat_lit 15 :: nat_lit 22 :: nat_lit 23 :: nat_lit 24 :: nat_lit 25 :: nat_lit 28 :: nat_lit 35 :: nat_lit 37 :: nat_lit 38 :: nat_lit 40 :: nat_lit 41 :: nat_lit 42 :: nat_lit 43 :: nat_lit 44 :: nat_lit 47 :: nat_lit 50 :: nat_lit 51 :: nat_lit 59 :: nat_lit 61 :: nat_lit 62 :: nat_lit 64 :: nat_lit 65 :: nat_lit 66 :: nat_lit 68 :: nat_lit 69 :: nat_lit 71 :: nat_lit 72 :: nat_lit 73 :: nat_lit 74 :: nat_lit 75 :: nat_lit 76 :: nat_lit 77 :: nat_lit 80 :: nat_lit 87 :: nat_lit 89 :: nat_lit 90 :: nat_lit 92 :: nat_lit 93 :: nat_lit 94 :: nat_lit 96 :: nat_lit 97 :: nat_lit 99 :: nat_lit 100 :: nat_lit 101 :: nat_lit 102 :: nat_lit 103 :: nat_lit 106 :: nat_lit 113 :: nat_lit 115 :: nat_lit 116 :: nat_lit 118 :: nat_lit 119 :: nat_lit 120 :: nat_lit 122 :: nat_lit 123 :: nat_lit 125 :: nat_lit 126 :: nat_lit 127 :: nat_lit 128 :: nat_lit 129 :: nat_lit 132 :: nat_lit 139 :: nat_lit 141 :: nat_lit 142 :: nat_lit 144 :: nat_lit 145 :: nat_lit 146 :: nat_lit 149 :: nat_lit 150 :: nat_lit 151 :: nat_lit 152 :: nat_lit 153 :: nat_lit 156 :: nat_lit 163 :: nat_lit 165 :: nat_lit 166 :: nat_lit 168 :: nat_lit 169 :: nat_lit 170 :: nat_lit 172 :: nat_lit 173 :: nat_lit 175 :: nat_lit 176 :: nat_lit 177 :: nat_lit 178 :: nat_lit 179 :: nat_lit 182 :: nat_lit 184 :: nat_lit 185 :: nat_lit 187 :: nat_lit 188 :: nat_lit 189 :: nat_lit 191 :: nat_lit 192 :: nat_lit 194 :: nat_lit 195 :: nat_lit 196 :: nat_lit 198 :: nat_lit 199 :: nat_lit 201 :: nat_lit 202 :: nat_lit 203 :: nat_lit 205 :: nat_lit 206 :: nat_lit 208 :: nat_lit 209 :: nat_lit 210 :: nat_lit 212 :: nat_lit 213 :: nat_lit 215 :: nat_lit 216 :: nat_lit 217 :: nat_lit 219 :: nat_lit 220 :: nat_lit 222 :: nat_lit 223 :: nat_lit 224 :: nat_lit 226 :: nat_lit 227 :: nat_lit 229 :: nat_lit 230 :: nat_lit 231 :: nat_lit 233 :: nat_lit 234 :: nat_lit 236 :: nat_lit 237 :: nat_lit 238 :: nat_lit 241 :: nat_lit 242 :: nat_lit 243 :: nat_lit 246 :: nat_lit 247 :: nat_lit 248 :: nat_lit 251 :: nat_lit 252 :: nat_lit 253 :: nat_lit 256 :: nat_lit 257 :: nat_lit 258 :: nat_lit 261 :: nat_lit 262 :: nat_lit 263 :: nat_lit 266 :: nat_lit 267 :: nat_lit 268 :: nat_lit 270 :: nat_lit 271 :: nat_lit 273 :: nat_lit 274 :: nat_lit 275 :: nat_lit 278 :: nat_lit 279 :: nat_lit 280 :: nat_lit 281 :: nat_lit 284 :: nat_lit 285 :: nat_lit 286 :: nat_lit 288 :: nat_lit 289 :: nat_lit 291 :: nat_lit 292 :: nat_lit 293 :: nat_lit 295 :: nat_lit 296 :: nat_lit 298 :: nat_lit 299 :: nat_lit 300 :: nat_lit 303 :: nat_lit 304 :: nat_lit 305 :: nat_lit 307 :: nat_lit 308 :: nat_lit 310 :: nat_lit 311 :: nat_lit 312 :: nat_lit 314 :: nat_lit 315 :: nat_lit 317 :: nat_lit 318 :: nat_lit 319 :: nat_lit 321 :: nat_lit 322 :: nat_lit 324 :: nat_lit 325 :: nat_lit 326 :: nat_lit 329 :: nat_lit 330 :: nat_lit 331 :: nat_lit 333 :: nat_lit 334 :: nat_lit 336 :: nat_lit 337 :: nat_lit 338 :: nat_lit 340 :: nat_lit 341 :: nat_lit 343 :: nat_lit 344 :: nat_lit 345 :: nat_lit 347 :: nat_lit 348 :: nat_lit 350 :: nat_lit 351 :: nat_lit 352 :: nat_lit 354 :: nat_lit 355 :: nat_lit 357 :: nat_lit 358 :: nat_lit 359 :: nat_lit 362 :: nat_lit 363 :: nat_lit 364 :: nat_lit 367 :: nat_lit 368 :: nat_lit 369 :: nat_lit 371 :: nat_lit 372 :: nat_lit 374 :: nat_lit 375 :: nat_lit 376 :: nat_lit 379 :: nat_lit 380 :: nat_lit 381 :: nat_lit 384 :: nat_lit 385 :: []
theorem hE : ∀ P, hA = (hK P).map (·.1) := fun _ => by kernel_rfl
def hQ : PySem.Program := { PySem.Challenge.pw_logloom_k13_whole_no_fewer_groups with
 main := { PySem.Challenge.pw_logloom_k13_whole_no_fewer_groups.main with
   body := [top 1, top 2, top 4, top 5, top 6, top 7, top 8, top 9, top 10, top 11, top 12, top 13, top 14, top 15, top 16, top 17, top 18, top 19, top 21, top 22, top 23, top 24, top 26, top 27, top 28, top 29, top 30, top 32, top 33, top 34, top 35, top 36, top 39, top 40, top 41, top 42, top 43, top 44, top 45, top 46, top 47, top 48, top 49, top 50, top 51, top 52, top 53, top 54] } }
abbrev hH : W.Hook := W.kHook hK hA hE
abbrev hX (s : PySem.Shared) : Bool := W.xlAt hQ [] s &&
 W.recOk (W.RowW.records (W.OpenRow.toRowW (W.OpenLaw.row PySem.Challenge.rw_logloom_k13_whole_no_fewer_groups))) s
set_option maxHeartbeats 0 in
theorem hL : W.LeftO PySem.Challenge.pw_logloom_k13_whole_no_fewer_groups hQ [PySem.Str.ofString "groups"] hX hH.obs hH.val 5914 :=
 HT.left1 rfl rfl (fun _ => rfl) (fun w os => by kernel_rfl)
end SL
namespace L2
open PySem PySem.Spec PyProof.Rows
abbrev Key := Sum Int Str
def keyIs : Key → Value → Bool
 | .inl k, v => Value.isInt k v
 | .inr x, v => Value.isStrOf x v
def keyH (w : World) : Key → Int
 | .inl k => hashInt k
 | .inr x => hashStr w x
theorem keyIs_shape : ∀ {k : Key} {v : Value}, keyIs k v = true → (∃ i t, k = Sum.inl i ∧ v = Value.int i t) ∨ (∃ x t, k = Sum.inr x ∧ v = Value.str x t)
 | .inl i, v, h => by
   obtain ⟨t, e⟩ := Value.isInt_shape (k := i) (v := v) h
   exact .inl ⟨i, t, rfl, e⟩
 | .inr x, v, h => by
   obtain ⟨t, e⟩ := Value.isStrOf_shape (x := x) (v := v) h
   exact .inr ⟨x, t, rfl, e⟩
theorem key_ll (a b : Int) : decide ((Sum.inl a : Key) = Sum.inl b) = (a == b) := by
 by_cases e : a = b
 · subst e; simp
 · have h : ¬ (Sum.inl a : Key) = Sum.inl b := fun q => e (Sum.inl.inj q)
   rw [decide_eq_false h]
   exact (beq_eq_false_iff_ne.mpr e).symm
theorem key_rr (a b : Str) : decide ((Sum.inr a : Key) = Sum.inr b) = decide (a = b) := by
 by_cases e : a = b
 · subst e; simp
 · have h : ¬ (Sum.inr a : Key) = Sum.inr b := fun q => e (Sum.inr.inj q)
   rw [decide_eq_false h, decide_eq_false e]
theorem key_lr (a : Int) (b : Str) : decide ((Sum.inl a : Key) = Sum.inr b) = false := decide_eq_false (fun q => nomatch q)
theorem key_rl (a : Str) (b : Int) : decide ((Sum.inr a : Key) = Sum.inl b) = false := decide_eq_false (fun q => nomatch q)
def mixKind (prog : Program) (w : World) : PySem.KeyKind prog w Key where
 is := keyIs
 hash := keyH w
 inj := fun v a b ha hb => by
   rcases keyIs_shape ha with ⟨i, t, rfl, rfl⟩ | ⟨x, t, rfl, rfl⟩
   · rcases keyIs_shape hb with ⟨j, u, rfl, e⟩ | ⟨y, u, rfl, e⟩
     · injection e with e1 _; rw [e1]
     · exact nomatch e
   · rcases keyIs_shape hb with ⟨j, u, rfl, e⟩ | ⟨y, u, rfl, e⟩
     · exact nomatch e
     · injection e with e1 _; rw [e1]
 byValue := fun k v h => by
   rcases keyIs_shape h with ⟨i, t, rfl, rfl⟩ | ⟨x, t, rfl, rfl⟩ <;> rfl
 pyHash := fun hv h => by
   rcases keyIs_shape hv with ⟨i, t, rfl, rfl⟩ | ⟨x, t, rfl, rfl⟩
   · exact wpAny_pyHash_int h
   · exact wpAny_pyHash_str h
 eqBool := fun hu hv h => by
   rcases keyIs_shape hu with ⟨i, t, rfl, rfl⟩ | ⟨x, t, rfl, rfl⟩
   · rcases keyIs_shape hv with ⟨j, u, rfl, rfl⟩ | ⟨y, u, rfl, rfl⟩
     · rw [key_ll] at h; exact wpAny_eqBool_int h
     · rw [key_lr] at h; exact SeqAt.EqAt.int_str i t y u _ _ _ _ h
   · rcases keyIs_shape hv with ⟨j, u, rfl, rfl⟩ | ⟨y, u, rfl, rfl⟩
     · rw [key_rl] at h; exact SeqAt.EqAt.str_int x t j u _ _ _ _ h
     · rw [key_rr] at h; exact wpAny_eqBool_str h
 «strs» := fun k x t v h => by
   rcases keyIs_shape h with ⟨i, u, rfl, e⟩ | ⟨y, u, rfl, e⟩
   · exact nomatch e
   · injection e with e1 _
     subst e1
     cases v <;> rfl
end L2
namespace L2
open PySem PySem.Spec PyProof.Rows
inductive V where
 | non | bl (b : Bool) | int (i : Int) | str (x : Str) | byt (b : Array UInt8) | flt (b : UInt64) | ref (a : Addr) | ty (n : String)
 deriving DecidableEq
def RelV : V → Value → Prop
 | .non, u => u = Value.none
 | .bl b, u => u = Value.bool b
 | .int i, u => ∃ t, u = Value.int i t
 | .str x, u => ∃ t, u = Value.str x t
 | .byt b, u => ∃ t, u = Value.bytes b t
 | .flt b, u => ∃ t, u = Value.float b t
 | .ref a, u => u = Value.ref a
 | .ty n, u => u = Value.type n
abbrev Vals : List V → List Value → Prop := Paired RelV
theorem Vals.length {xs : List V} {us : List Value} (r : Vals xs us) : xs.length = us.length := Paired.length r
theorem Vals.get : ∀ {xs : List V} {us : List Value} {i : Nat} {x : V}, Vals xs us → xs[i]? = some x → ∃ u, us[i]? = some u ∧ RelV x u
 | _, _, _, _, .nil, e => by simp at e
 | _, _, 0, _, .cons r _, e => by simp at e; subst e; exact ⟨_, rfl, r⟩
 | _, _, i + 1, x, .cons _ t, e => by
   obtain ⟨u, h1, h2⟩ := Vals.get (i := i) (x := x) t (by simpa using e)
   exact ⟨u, by simpa using h1, h2⟩
theorem Vals.set {x : V} {u : Value} (r : RelV x u) : ∀ {xs : List V} {us : List Value} (i : Nat), Vals xs us → Vals (xs.set i x) (us.set i u)
 | _, _, _, .nil => .nil
 | _, _, 0, .cons _ t => .cons r t
 | _, _, i + 1, .cons q t => .cons q (Vals.set r i t)
theorem Vals.append : ∀ {xs ys : List V} {us ws : List Value}, Vals xs us → Vals ys ws → Vals (xs ++ ys) (us ++ ws)
 | _, _, _, _, .nil, s => s
 | _, _, _, _, .cons r t, s => .cons r (Vals.append t s)
theorem Vals.take : ∀ {xs : List V} {us : List Value} (n : Nat), Vals xs us → Vals (xs.take n) (us.take n)
 | _, _, 0, _ => .nil
 | _, _, _ + 1, .nil => .nil
 | _, _, n + 1, .cons r t => .cons r (Vals.take n t)
theorem Vals.drop : ∀ {xs : List V} {us : List Value} (n : Nat), Vals xs us → Vals (xs.drop n) (us.drop n)
 | _, _, 0, r => r
 | _, _, _ + 1, .nil => .nil
 | _, _, n + 1, .cons _ t => Vals.drop n t
def RelO : Option V → Option Value → Prop
 | some v, some u => RelV v u
 | none, none => True
 | _, _ => False
def KV {κ : Type} : List (κ × V) → List (κ × Value) → Prop := Paired fun (p : κ × V) (q : κ × Value) => p.1 = q.1 ∧ RelV p.2 q.2
def kV : Key → V
 | .inl i => .int i
 | .inr x => .str x
inductive HO where
 | lst (xs : List V)
 | tup (xs : List V)
 | dK (kvs : List (Key × V)) | dT (kvs : List (List Key × V))
 | set (S : Int → Bool) (n : Nat)
 | ins (C dx : Addr) (fs : List (Str × V))
 | own (x : Addr)
 | xd (fs : List (Str × V))
 | met (f x : Addr)
 | rng (lo hi : Int)
 | frz (o : Obj) (u : HO)
 | tbl (ps : Array Value)
 | ext (φ : Heap → Prop)
abbrev Hp := Addr → Option HO
def upd (H : Hp) (a : Addr) (o : HO) : Hp := fun b => if b = a then some o else H b
theorem upd_same {H : Hp} {a : Addr} {o : HO} : upd H a o a = some o := by unfold upd; rw [if_pos rfl]
theorem upd_ne {H : Hp} {a b : Addr} {o : HO} (h : b ≠ a) : upd H a o b = H b := by unfold upd; rw [if_neg h]
theorem ne_of {H : Hp} {a b : Addr} {o u : HO} (h : H a = some o) (h' : H b = some u) (d : o ≠ u) : a ≠ b := by
 intro e; subst e; rw [h] at h'; exact d (Option.some.inj h')
theorem ne_of_none {H : Hp} {a b : Addr} {o : HO} (h : H a = some o) (h' : H b = none) : a ≠ b := by
 intro e; subst e; rw [h] at h'; cases h'
section
variable (P : Program) (w : World)
def ObjOk (H : Hp) (h : Heap) (a : Addr) : HO → Prop
 | .lst xs => xs.length ≤ sizeLine ∧ ∃ (its : List Value) (n : Nat), Vals xs its ∧ h.get? a = some { cls := .type "list", data := .seq its.toArray n }
 | .tup xs => xs.length ≤ sizeLine ∧ ∃ its : List Value, Vals xs its ∧ IsTup h a its.toArray
 | .dK kvs => kvs.length ≤ sizeLine ∧ (a == sysModules) = false ∧ ∃ vs, KV kvs vs ∧ h.DictOf (mixKind P w) a vs
 | .dT kvs => kvs.length ≤ sizeLine ∧ (a == sysModules) = false ∧ ∃ xs : List (List Key × Addr × Value),
     Paired (fun (p : List Key × V) (q : List Key × Addr × Value) => p.1 = q.1 ∧ H q.2.1 = some (.tup (p.1.map kV)) ∧ RelV p.2 q.2.2) kvs xs ∧
     ∃ o es ep, h.get? a = some o ∧ o.ExactDict ∧ o.data = .dict es ep ∧ es.toList = xs.map (entryOfKey (tupleKind (mixKind P w))) ∧ (xs.map (·.1)).Nodup
 | .set S n => h.SetOf (intKind P w) a S n
 | .ins C dx fs => H dx = some (.own a) ∧ fs.length ≤ 1000 ∧ dx ≠ a ∧ h.get? a = some (W.instObj C dx) ∧
     ∃ mA, h.Ns1 dx mA ∧ (∀ f, RelO (fs.lookup f) (mA f)) ∧ PySem.Within mA (fs.map (·.1))
 | .own _ => ∃ o, h.get? a = some o
 | .xd fs => ∃ mA, h.Ns1 a mA ∧ ∀ f, RelO (fs.lookup f) (mA f)
 | .rng lo hi => ∃ t u v, h.get? a = some { cls := .type "range", data := .fields #[.int lo t, .int hi u, .int 1 v] }
 | .frz o u => h.get? a = some o ∧ ObjOk H h a u
 | .tbl ps => h.get? a = some { cls := .none, data := .fields ps }
 | .met f x => h.get? a = some (W.methodObj (.ref f) (.ref x))
 | .ext φ => φ h ∧ (∃ o, h.get? a = some o) ∧ ∀ h1 h2 : Heap, φ h1 → (∀ o, h1.get? a = some o → h2.get? a = some o) → φ h2
def HOk (H : Hp) (h : Heap) : Prop := ∀ a o, H a = some o → ObjOk P w H h a o
end
section
variable {P : Program} {w : World} {H H' : Hp} {h h' : Heap} {a : Addr} {o : HO}
theorem ObjOk.lt (x : ObjOk P w H h a o) : a < h.objs.size := by
 cases o with
 | lst xs => obtain ⟨_, _, _, _, e⟩ := x; exact Heap.lt_size e
 | tup xs => obtain ⟨_, _, _, p⟩ := x; exact p.lt
 | dK kvs => obtain ⟨_, _, _, _, o, _, _, e, _⟩ := x; exact Heap.lt_size e
 | dT kvs => obtain ⟨_, _, _, _, o, _, _, e, _⟩ := x; exact Heap.lt_size e
 | set S n => obtain ⟨o, _, _, _, e, _⟩ := x; exact Heap.lt_size e
 | ins C dx fs => obtain ⟨_, _, _, e, _⟩ := x; exact Heap.lt_size e
 | own y => obtain ⟨_, e⟩ := x; exact Heap.lt_size e
 | xd fs => obtain ⟨_, ⟨_, _, _, e, _⟩, _⟩ := x; exact Heap.lt_size e
 | rng lo hi => obtain ⟨_, _, _, e⟩ := x; exact Heap.lt_size e
 | frz ob u => obtain ⟨e, _⟩ := x; exact Heap.lt_size e
 | tbl ps => exact Heap.lt_size (show h.get? a = some _ from x)
 | met f y => exact Heap.lt_size (show h.get? a = some _ from x)
 | ext φ => obtain ⟨_, ⟨_, e⟩, _⟩ := x; exact Heap.lt_size e
theorem Paired.mapP {α β : Type} {F G : α → β → Prop} : ∀ {l₁ : List α} {l₂ : List β}, Paired F l₁ l₂ → (∀ a b, F a b → G a b) → Paired G l₁ l₂
 | _, _, .nil, _ => .nil
 | _, _, .cons r t, f => .cons (f _ _ r) (Paired.mapP t f)
theorem ObjOk.stay (x : ObjOk P w H h a o) (k : ∀ b u, (b = a ∨ H b = some (.own a)) → h.get? b = some u → h'.get? b = some u)
   (ho : ∀ b, H b = some (.own a) → H' b = some (.own a)) (ht : ∀ b xs, H b = some (.tup xs) → H' b = some (.tup xs)) : ObjOk P w H' h' a o := by
 induction o with
 | lst xs => obtain ⟨z, its, n, r, e⟩ := x; exact ⟨z, its, n, r, k _ _ (.inl rfl) e⟩
 | tup xs => obtain ⟨z, its, r, ob, e, c⟩ := x; exact ⟨z, its, r, ob, k _ _ (.inl rfl) e, c⟩
 | dK kvs => obtain ⟨z, y, vs, r, ob, es, ep, e, c⟩ := x; exact ⟨z, y, vs, r, ob, es, ep, k _ _ (.inl rfl) e, c⟩
 | dT kvs =>
   obtain ⟨z, y, xs, r, ob, es, ep, e, c⟩ := x
   exact ⟨z, y, xs, Paired.mapP r fun p q z => ⟨z.1, ht _ _ z.2.1, z.2.2⟩, ob, es, ep, k _ _ (.inl rfl) e, c⟩
 | set S n => obtain ⟨ob, es, ep, t, e, c⟩ := x; exact ⟨ob, es, ep, t, k _ _ (.inl rfl) e, c⟩
 | ins C dx fs =>
   obtain ⟨d, z, ne, e, mA, ⟨od, es, ep, e2, c⟩, r⟩ := x
   exact ⟨ho _ d, z, ne, k _ _ (.inl rfl) e, mA, ⟨od, es, ep, k _ _ (.inr d) e2, c⟩, r⟩
 | own y => obtain ⟨ob, e⟩ := x; exact ⟨ob, k _ _ (.inl rfl) e⟩
 | xd fs => obtain ⟨mA, ⟨od, es, ep, e, c⟩, r⟩ := x; exact ⟨mA, ⟨od, es, ep, k _ _ (.inl rfl) e, c⟩, r⟩
 | rng lo hi => obtain ⟨t, u, v, e⟩ := x; exact ⟨t, u, v, k _ _ (.inl rfl) e⟩
 | frz ob u ih => obtain ⟨e, q⟩ := x; exact ⟨k _ _ (.inl rfl) e, ih q⟩
 | tbl ps =>
   have e : h.get? a = some { cls := .none, data := .fields ps } := x
   show h'.get? a = some { cls := .none, data := .fields ps }
   exact k a _ (.inl rfl) e
 | met f y =>
   have e : h.get? a = some (W.methodObj (.ref f) (.ref y)) := x
   show h'.get? a = some (W.methodObj (.ref f) (.ref y))
   exact k a _ (.inl rfl) e
 | ext φ => obtain ⟨p, ⟨o, e⟩, st⟩ := x; exact ⟨st _ _ p fun o q => k _ _ (.inl rfl) q, ⟨o, k _ _ (.inl rfl) e⟩, st⟩
theorem HOk.lt (x : HOk P w H h) (e : H a = some o) : a < h.objs.size := (x a o e).lt
theorem HOk.fresh (x : HOk P w H h) (e : h.objs.size ≤ a) : H a = none := by
 cases q : H a with
 | none => rfl
 | some u => exact absurd (Nat.lt_of_lt_of_le (x.lt q) e) (Nat.lt_irrefl _)
theorem HOk.kept (x : HOk P w H h) (k : ∀ b u, h.get? b = some u → h'.get? b = some u) : HOk P w H h' := fun a o e =>
 (x a o e).stay (fun b u _ q => k b u q) (fun _ q => q) fun _ _ q => q
theorem HOk.laid (x : HOk P w H h) (k : ∀ b u, h.get? b = some u → h'.get? b = some u) (hp : h.objs.size ≤ a) (new : ObjOk P w (upd H a o) h' a o) : HOk P w (upd H a o) h' := fun b u e => by
 have hn := x.fresh hp
 by_cases hb : b = a
 · subst hb; rw [upd_same] at e; cases e; exact new
 · rw [upd_ne hb] at e
   exact (x b u e).stay (fun c v _ q => k c v q) (fun c q => by rw [upd_ne (ne_of_none q hn)]; exact q) fun c xs q => by rw [upd_ne (ne_of_none q hn)]; exact q
end
def Rd (H : Hp) (a : Addr) (u : HO) : Prop := H a = some u ∨ ∃ o, H a = some (.frz o u)
theorem Rd.ok {P : Program} {w : World} {H : Hp} {h : Heap} {a : Addr} {u : HO} (r : Rd H a u) (x : HOk P w H h) : ObjOk P w H h a u := by
 rcases r with r | ⟨o, r⟩
 · exact x a u r
 · obtain ⟨_, q⟩ := x a _ r
   exact q
def Mut : Option HO → Prop
 | some (.lst _) => True
 | some (.dK _) => True
 | some (.dT _) => True
 | some (.set _ _) => True
 | some (.ins _ _ _) => True
 | some (.ext _) => True
 | _ => False
section
variable {P : Program} {w : World} {H : Hp} {h h' : Heap} {x e : Addr} {o' : HO}
theorem HOk.write (ok : HOk P w H h) (mu : Mut (H x)) (he : e = x ∨ H e = some (.own x)) (k : ∀ b u, b ≠ e → h.get? b = some u → h'.get? b = some u) (heo : ∃ u, h'.get? e = some u)
   (new : ObjOk P w (upd H x o') h' x o') : HOk P w (upd H x o') h' := fun b u q => by
 have nown : ∀ c y, H c = some (.own y) → c ≠ x := fun c y r z => by subst z; rw [r] at mu; exact mu
 have ntup : ∀ c xs, H c = some (.tup xs) → c ≠ x := fun c xs r z => by subst z; rw [r] at mu; exact mu
 by_cases hb : b = x
 · subst hb; rw [upd_same] at q; cases q; exact new
 · rw [upd_ne hb] at q
   by_cases hbe : b = e
   · have q' : H b = some (.own x) := by
       rcases he with z | z
       · exact absurd (hbe.trans z) hb
       · rw [hbe]; exact z
     rw [q] at q'; cases q'
     obtain ⟨v, hv⟩ := heo
     exact ⟨v, by rw [hbe]; exact hv⟩
   · refine (ok b u q).stay (fun c v hc r => k c v ?_ r) (fun c r => by rw [upd_ne (nown c b r)]; exact r) fun c xs r => by rw [upd_ne (ntup c xs r)]; exact r
     rcases hc with rfl | hc
     · exact hbe
     · rintro rfl
       rcases he with z | z
       · exact nown c b hc z
       · rw [hc] at z; cases z; exact hb rfl
end
structure Un (fs ex : List Addr) (H H' : Hp) (h h' : Heap) : Prop where
 keep : ∀ b o, h.get? b = some o → H b = none → b ∉ fs → b ∉ ex → h'.get? b = some o
 slot : ∀ b o, h.get? b = some o → H b = none → b ∈ fs → b ∉ ex → ∃ sl, h'.get? b = some { o with slots := sl }
 free : ∀ b o, h.get? b = some o → H b = none → b ∉ ex → H' b = none
 there : ∀ b o, h.get? b = some o → b ∉ ex → ∃ o', h'.get? b = some o'
 tups : ∀ b xs, H b = some (.tup xs) → H' b = some (.tup xs)
 frzs : ∀ b o u, H b = some (.frz o u) → H' b = some (.frz o u)
 tbls : ∀ b ps, H b = some (.tbl ps) → ∃ more, H' b = some (.tbl (ps ++ more))
section
variable {fs fs' ex ex' : List Addr} {H H1 H2 : Hp} {h h1 h2 h' : Heap} {a x e : Addr} {o : HO}
theorem Un.any (u : Un fs ex H H1 h h1) {b : Addr} {ob : Obj} (q : h.get? b = some ob) (n : H b = none) (hx : b ∉ ex) : ∃ sl, h1.get? b = some { ob with slots := sl } := by
 by_cases hb : b ∈ fs
 · exact u.slot b ob q n hb hx
 · exact ⟨ob.slots, u.keep b ob q n hb hx⟩
theorem Un.kept (k : ∀ b u, h.get? b = some u → h'.get? b = some u) : Un fs ex H H h h' :=
 ⟨fun b ob q _ _ _ => k b ob q, fun b ob q _ _ _ => ⟨ob.slots, k b ob q⟩, fun _ _ _ n _ => n, fun b ob q _ => ⟨ob, k b ob q⟩, fun _ _ q => q, fun _ _ _ q => q, fun _ ps q => ⟨#[], by rw [q]; simp⟩⟩
theorem Un.refl : Un fs ex H H h h := Un.kept fun _ _ q => q
theorem Un.laid (k : ∀ b u, h.get? b = some u → h'.get? b = some u) (hp : h.objs.size ≤ a) (hn : H a = none) : Un fs ex H (upd H a o) h h' where
 keep := fun b u q _ _ _ => k b u q
 slot := fun b u q _ _ _ => ⟨u.slots, k b u q⟩
 free := fun b u q n _ => by rw [upd_ne (Nat.ne_of_lt (Nat.lt_of_lt_of_le (Heap.lt_size q) hp))]; exact n
 there := fun b u q _ => ⟨u, k b u q⟩
 tups := fun b xs q => by rw [upd_ne (ne_of_none q hn)]; exact q
 frzs := fun b u xs q => by rw [upd_ne (ne_of_none q hn)]; exact q
 tbls := fun b ps q => ⟨#[], by rw [upd_ne (ne_of_none q hn), q]; simp⟩
theorem Un.write (mu : Mut (H x)) (he : e = x ∨ H e = some (.own x)) (k : ∀ b u, b ≠ e → h.get? b = some u → h'.get? b = some u) (heo : ∃ u, h'.get? e = some u) : Un fs ex H (upd H x o) h h' := by
 have hx : ∀ b, H b = none → b ≠ x := fun b n z => by subst z; rw [n] at mu; exact mu
 have hb : ∀ b, H b = none → b ≠ e := fun b n z => by
   subst z
   rcases he with r | r
   · exact hx b n r
   · rw [n] at r; cases r
 have hm : ∀ b u, H b = some u → ¬ Mut (some u) → b ≠ x := fun b u q nm z => by subst z; rw [q] at mu; exact nm mu
 refine ⟨fun b u q n _ _ => k b u (hb b n) q, fun b u q n _ _ => ⟨u.slots, k b u (hb b n) q⟩, fun b u q n _ => by rw [upd_ne (hx b n)]; exact n, fun b u q _ => ?_,
   fun b xs q => by rw [upd_ne (hm b _ q fun z => z)]; exact q, fun b u xs q => by rw [upd_ne (hm b _ q fun z => z)]; exact q, fun b ps q => ⟨#[], by rw [upd_ne (hm b _ q fun z => z), q]; simp⟩⟩
 by_cases hbe : b = e
 · subst hbe; exact heo
 · exact ⟨u, k b u hbe q⟩
end
def trk (h : Heap) (H : Hp) : List Addr := (List.range h.objs.size).filter fun a => (H a).isSome
def hidT (h : Heap) (H : Hp) : Heap := W.hideAll h (trk h H)
theorem hidT_size (h : Heap) (H : Hp) : (hidT h H).objs.size = h.objs.size := W.hideAll_size _ _
theorem hidT_get {h : Heap} {H : Hp} {b : Addr} {o : Obj} (e : h.get? b = some o) (n : H b = none) : (hidT h H).get? b = some o :=
 W.hideAll_get _ e fun hm => by
   have q : (H b).isSome = true := (List.mem_filter.mp hm).2
   rw [n] at q; simp at q
theorem of_hidT {h : Heap} {H : Hp} {b : Addr} {o : Obj} (e : (hidT h H).get? b = some o) : h.get? b = some o ∧ H b = none := by
 have e' : h.get? b = some o := W.of_hideAll (trk h H) e
 refine ⟨e', ?_⟩
 cases q : H b with
 | none => rfl
 | some x =>
   have hm : b ∈ trk h H := List.mem_filter.mpr ⟨List.mem_range.mpr (Heap.lt_size e'), by simp [q]⟩
   have z : (hidT h H).get? b = none := W.hideAll_none (trk h H) hm
   rw [z] at e; cases e
end L2
namespace L2
open PySem PySem.Spec PyProof.Rows
structure Mod (K : W.Frag) (mg : Str → Option Value) (base : Heap) : Prop where
 kin : K.In base
 glob : base.Ns mainGlobals mg
 blt : ∃ mb, base.Ns builtinsNs mb ∧ ∀ x : Str, x ≠ "__name__" → mb x = bootBuiltins x
 nolimit : base.NoLimit
structure Cx where
 prog : Program
 w : World
 K : W.Frag
 mg : Str → Option Value
 base : Heap
 A : Around
 N : List Str
 s₀ : Shared
 H₀ : Hp
 env : Env
 outer : List Env
 stack : List Env
 ex : List Addr
 fn : Str → Bool
 calm : Bool
 pn : List (Addr × Obj)
 xe : Value → Shared → Prop
def frs (l : List Env) : List Addr := l.filterMap (·.frame)
abbrev Cx.fs (X : Cx) : List Addr := frs X.outer
def Vis (sc : Scope) (x : Str) : Prop := sc.names.lookup x = some .local ∨ sc.names.lookup x = some .cell ∨ sc.names.lookup x = some .free
def Loc (sc : Scope) (x : Str) : Prop := sc.names.lookup x = some .local ∨ sc.names.lookup x = some .cell
def Look (env : Env) (h : Heap) (m : Str → Option Value) (x : Str) (u : Value) : Prop :=
 (env.kindOf x = some .local ∧ m x = some u) ∨ ((env.kindOf x = some .cell ∨ env.kindOf x = some .free) ∧ ∃ c, env.cells.lookup x = some c ∧ h.IsCell c (some u))
structure Cx.Ok (X : Cx) : Prop where
 mod : Mod X.K X.mg X.base
 kind : X.env.scope.kind = .function
 glob : X.env.globals = mainGlobals
 blt : X.env.builtins = builtinsNs
 above : X.s₀.heap.objs.size ≤ X.env.locals
 inj : ∀ x y c, X.env.cells.lookup x = some c → X.env.cells.lookup y = some c → x = y
 has : ∀ x, (X.env.kindOf x = some .cell ∨ X.env.kindOf x = some .free) → ∃ c, X.env.cells.lookup x = some c
 cab : ∀ x c, X.fn x = true → X.env.cells.lookup x = some c → X.s₀.heap.objs.size ≤ c
 hd : X.calm = true → X.A.handled = none
 frames : X.A.frames = some X.stack
 stk : X.stack = X.outer ∨ (X.stack = X.env :: X.outer ∧ X.env.frame = some X.env.locals)
 exf : ∀ b ∈ X.ex, b ≠ X.env.locals ∧ ∀ x c, X.env.cells.lookup x = some c → c ≠ b
 bs : ∀ b o, X.base.get? b = some o → X.s₀.heap.get? b = some o ∧ X.H₀ b = none
 bsz : X.base.objs.size ≤ X.s₀.heap.objs.size
 noex : ∀ b o, X.base.get? b = some o → b ∉ X.ex
 exfs : ∀ b ∈ X.ex, b ∉ X.fs
 funs : X.s₀.heap.FunFrames X.base X.outer
 frf : ∀ b ∈ X.fs, X.H₀ b = none
structure Inv (X : Cx) (pins : List (Addr × Obj)) (σ : List (Option V)) (H : Hp) (s : Shared) : Prop where
 ok : X.Ok
 os : s.os = X.s₀.os
 bare : AllBare s.gens
 base : Un X.fs X.ex X.H₀ H X.s₀.heap s.heap
 loc : ∃ m, s.heap.Ns X.env.locals m ∧ ∀ (i : Nat) (x : Str) (v : V), X.N[i]? = some x → σ[i]? = some (some v) → Vis X.env.scope x → ∃ u, RelV v u ∧ Look X.env s.heap m x u
 cell : ∀ x c, X.env.cells.lookup x = some c → ∃ v, s.heap.IsCell c v
 free : H X.env.locals = none
 freeC : ∀ x c, X.env.cells.lookup x = some c → H c = none
 pin : ∀ p ∈ X.pn ++ pins, s.heap.get? p.1 = some p.2 ∧ H p.1 = none ∧ p.1 ≠ X.env.locals ∧ p.1 ∉ X.fs ∧ ∀ v, p.2.data ≠ .cell v
 hok : HOk X.prog X.w H s.heap
 len : σ.length = X.N.length
section
variable {X : Cx} {pins : List (Addr × Obj)} {σ : List (Option V)} {H H' : Hp} {s : Shared} {h' : Heap}
theorem Cx.Ok.nofr (ok : X.Ok) {b : Addr} {o : Obj} (e : X.base.get? b = some o) : b ∉ X.fs := fun hb => by
 have := (ok.funs.mem hb).1
 rw [e] at this; cases this
theorem Inv.bs (I : Inv X pins σ H s) : ∀ b o, X.base.get? b = some o → s.heap.get? b = some o ∧ H b = none := fun b o e =>
 ⟨I.base.keep b o (I.ok.bs b o e).1 (I.ok.bs b o e).2 (I.ok.nofr e) (I.ok.noex b o e), I.base.free b o (I.ok.bs b o e).1 (I.ok.bs b o e).2 (I.ok.noex b o e)⟩
theorem Inv.bk (I : Inv X pins σ H s) : ∀ b o, X.base.get? b = some o → s.heap.get? b = some o := fun b o e => (I.bs b o e).1
theorem Inv.mod (I : Inv X pins σ H s) : Mod X.K X.mg X.base := I.ok.mod
theorem Inv.kIn (I : Inv X pins σ H s) : X.K.In s.heap := I.ok.mod.kin.keeps I.bk
theorem Inv.lt (I : Inv X pins σ H s) : X.env.locals < s.heap.objs.size := let ⟨_, hn, _⟩ := I.loc; hn.lt
theorem Inv.sz (I : Inv X pins σ H s) : X.s₀.heap.objs.size ≤ s.heap.objs.size := Nat.le_trans I.ok.above (Nat.le_of_lt I.lt)
theorem Inv.nofs (I : Inv X pins σ H s) {a : Addr} (h : s.heap.objs.size ≤ a) : a ∉ X.fs := fun hb => by
 obtain ⟨_, o, ho, _⟩ := I.ok.funs.mem hb
 exact absurd (Nat.lt_of_lt_of_le (Heap.lt_size ho) (Nat.le_trans I.sz h)) (Nat.lt_irrefl _)
theorem Inv.cne (I : Inv X pins σ H s) : ∀ x c, X.env.cells.lookup x = some c → c ≠ X.env.locals := fun x c e z => by
 obtain ⟨v, o, ho, hd⟩ := I.cell x c e
 obtain ⟨m, ⟨o', es, ep, ho', hd', _⟩, _⟩ := I.loc
 rw [z, ho'] at ho; cases ho; rw [hd'] at hd; cases hd
theorem Inv.funs (I : Inv X pins σ H s) : s.heap.FunFrames X.base X.outer := by
 have all : ∀ (l : List Env), (∀ b ∈ frs l, b ∈ X.fs) → X.s₀.heap.FunFrames X.base l → s.heap.FunFrames X.base l := by
   intro l
   induction l with
   | nil => intro _ _; trivial
   | cons env r ih =>
     intro hs hl
     obtain ⟨hk, ⟨L, o, hf, hn, ho, hd⟩, hr⟩ := hl
     have hL : L ∈ X.fs := hs L (by unfold frs; rw [List.filterMap_cons, hf]; exact List.mem_cons_self)
     obtain ⟨sl, e⟩ := I.base.slot L o ho (I.ok.frf L hL) hL fun z => I.ok.exfs L z hL
     exact ⟨hk, ⟨L, _, hf, hn, e, hd⟩, ih (fun b hb => hs b (by unfold frs; rw [List.filterMap_cons, hf]; exact List.mem_cons_of_mem _ hb)) hr⟩
 exact all X.outer (fun _ hb => hb) I.ok.funs
theorem Inv.stack (I : Inv X pins σ H s) : s.heap.FunFrames X.base X.stack := by
 rcases I.ok.stk with e | ⟨e, hf⟩
 · rw [e]; exact I.funs
 · rw [e]
   obtain ⟨m, hn, _⟩ := I.loc
   refine .cons (by rw [I.ok.kind]; decide) hf hn ?_ I.funs
   exact Heap.get?_none_of_le (Nat.le_trans I.ok.bsz I.ok.above)
theorem Inv.stkSub (I : Inv X pins σ H s) : ∀ b ∈ frs X.stack, b ∈ X.env.locals :: X.fs := fun b hb => by
 rcases I.ok.stk with e | ⟨e, hf⟩
 · rw [e] at hb; exact List.mem_cons_of_mem _ hb
 · rw [e] at hb
   unfold frs at hb
   rw [List.filterMap_cons, hf] at hb
   exact hb
theorem Inv.stkFree (I : Inv X pins σ H s) : ∀ b ∈ frs X.stack, H b = none := fun b hb => by
 rcases List.mem_cons.mp (I.stkSub b hb) with e | hb
 · rw [e]; exact I.free
 · obtain ⟨_, o, ho, _⟩ := I.ok.funs.mem hb
   exact I.base.free b o ho (I.ok.frf b hb) fun z => I.ok.exfs b z hb
theorem Inv.step {g' : Array GenState} {t' : Nat} {d' : Drawn} {ch : List Addr} (I : Inv X pins σ H s)
   (hch : ∀ b ∈ ch, (b ∈ X.ex ∨ X.s₀.heap.objs.size ≤ b) ∧ b ≠ X.env.locals ∧ (∀ x c, X.env.cells.lookup x = some c → c ≠ b) ∧ ∀ p ∈ X.pn ++ pins, p.1 ≠ b)
   (keep : ∀ b o, b ≠ X.env.locals → b ∉ X.fs → b ∉ ch → s.heap.get? b = some o → H b = none → h'.get? b = some o)
   (slot : ∀ b o, b ≠ X.env.locals → b ∈ X.fs → b ∉ ch → s.heap.get? b = some o → H b = none → ∃ sl, h'.get? b = some { o with slots := sl }) (free : ∀ b o, b ∉ ch → s.heap.get? b = some o → H b = none → H' b = none)
   (there : ∀ b o, b ∉ ch → s.heap.get? b = some o → ∃ o', h'.get? b = some o')
   (tups : ∀ b xs, H b = some (.tup xs) → H' b = some (.tup xs)) (frzs : ∀ b o u, H b = some (.frz o u) → H' b = some (.frz o u)) (tbls : ∀ b ps, H b = some (.tbl ps) → ∃ more, H' b = some (.tbl (ps ++ more)))
   (ns : ∀ m, s.heap.Ns X.env.locals m → h'.Ns X.env.locals m) (hok : HOk X.prog X.w H' h') (hg : AllBare g') :
   Inv X pins σ H' { s with heap := h', gens := g', drawn := d', toks := t' } := by
 have neL : ∀ b o, X.s₀.heap.get? b = some o → b ≠ X.env.locals := fun b o e => Nat.ne_of_lt (Nat.lt_of_lt_of_le (Heap.lt_size e) I.ok.above)
 have neC : ∀ b o, X.s₀.heap.get? b = some o → b ∉ X.ex → b ∉ ch := fun b o e hx hb => by
   rcases (hch b hb).1 with z | z
   · exact hx z
   · exact absurd (Nat.lt_of_lt_of_le (Heap.lt_size e) z) (Nat.lt_irrefl _)
 have cellK : ∀ x c, X.env.cells.lookup x = some c → ∀ v, s.heap.IsCell c v → h'.IsCell c v := fun x c e v ⟨o, ho, hd⟩ => by
   have nch : c ∉ ch := fun z => (hch c z).2.2.1 x c e rfl
   by_cases hc : c ∈ X.fs
   · obtain ⟨sl, q⟩ := slot c o (I.cne x c e) hc nch ho (I.freeC x c e)
     exact ⟨_, q, hd⟩
   · exact ⟨o, keep c o (I.cne x c e) hc nch ho (I.freeC x c e), hd⟩
 refine ⟨I.ok, I.os, hg, ⟨fun b o e n hb hx => ?_, fun b o e n hb hx => ?_, fun b o e n hx => ?_, fun b o e hx => ?_, fun b xs e => tups b xs (I.base.tups b xs e), fun b o xs e => frzs b o xs (I.base.frzs b o xs e), fun b ps e => ?_⟩, ?_, fun x c e => ?_, ?_, fun x c e => ?_, fun p hp => ?_, hok, I.len⟩
 · exact keep b o (neL b o e) hb (neC b o e hx) (I.base.keep b o e n hb hx) (I.base.free b o e n hx)
 · obtain ⟨sl, e1⟩ := I.base.slot b o e n hb hx
   obtain ⟨sl', e2⟩ := slot b _ (neL b o e) hb (neC b o e hx) e1 (I.base.free b o e n hx)
   exact ⟨sl', e2⟩
 · obtain ⟨o', e1⟩ := I.base.there b o e hx
   exact free b o' (neC b o e hx) e1 (I.base.free b o e n hx)
 · obtain ⟨o', e1⟩ := I.base.there b o e hx
   exact there b o' (neC b o e hx) e1
 · obtain ⟨m1, e1⟩ := I.base.tbls b ps e
   obtain ⟨m2, e2⟩ := tbls b _ e1
   exact ⟨m1 ++ m2, by rw [e2, Array.append_assoc]⟩
 · obtain ⟨m, hn, hl⟩ := I.loc
   refine ⟨m, ns m hn, fun i x v e1 e2 e3 => ?_⟩
   obtain ⟨u, r, l⟩ := hl i x v e1 e2 e3
   refine ⟨u, r, ?_⟩
   rcases l with l | ⟨k, c, e, z⟩
   · exact .inl l
   · exact .inr ⟨k, c, e, cellK x c e _ z⟩
 · obtain ⟨v, z⟩ := I.cell x c e
   exact ⟨v, cellK x c e v z⟩
 · obtain ⟨m, ⟨o, _, _, ho, _⟩, _⟩ := I.loc
   exact free _ o (fun z => (hch _ z).2.1 rfl) ho I.free
 · obtain ⟨v, o, ho, hd⟩ := I.cell x c e
   exact free c o (fun z => (hch c z).2.2.1 x c e rfl) ho (I.freeC x c e)
 · obtain ⟨e, n, ne, nf, d⟩ := I.pin p hp
   have nch : p.1 ∉ ch := fun z => (hch p.1 z).2.2.2 p hp rfl
   exact ⟨keep p.1 p.2 ne nf nch e n, free p.1 p.2 nch e n, ne, nf, d⟩
theorem Inv.un {t' : Nat} (I : Inv X pins σ H s) (u : Un X.fs [] H H' s.heap h') (hok : HOk X.prog X.w H' h') : Inv X pins σ H' { s with heap := h', toks := t' } := by
 obtain ⟨m, ⟨o, es, ep, ho, r⟩, _⟩ := id I.loc
 obtain ⟨sl, hL⟩ := u.any ho I.free (by simp)
 exact I.step (g' := s.gens) (d' := s.drawn) (ch := []) (fun _ z => nomatch z) (fun b o _ hb _ e n => u.keep b o e n hb (by simp)) (fun b o _ hb _ e n => u.slot b o e n hb (by simp)) (fun b o _ e n => u.free b o e n (by simp)) (fun b o _ e => u.there b o e (by simp)) u.tups u.frzs u.tbls (fun m' hm => by
   obtain ⟨o', es', ep', ho', r'⟩ := hm
   rw [ho] at ho'; cases ho'
   exact ⟨_, es', ep', hL, r'⟩) hok I.bare
theorem Inv.call {g' : Array GenState} {t' : Nat} {d' : Drawn} {ch : List Addr} (I : Inv X pins σ H s) (u : Un (frs X.stack) ch H H' s.heap h') (hok : HOk X.prog X.w H' h') (hg : AllBare g')
   (hch : ∀ b ∈ ch, (b ∈ X.ex ∨ X.s₀.heap.objs.size ≤ b) ∧ b ≠ X.env.locals ∧ (∀ x c, X.env.cells.lookup x = some c → c ≠ b) ∧ ∀ p ∈ X.pn ++ pins, p.1 ≠ b) :
   Inv X pins σ H' { s with heap := h', gens := g', drawn := d', toks := t' } := by
 obtain ⟨m, ⟨o, es, ep, ho, r⟩, _⟩ := id I.loc
 obtain ⟨sl, hL⟩ := u.any ho I.free fun z => (hch _ z).2.1 rfl
 exact I.step (ch := ch) hch (fun b o hL hb hc e n => u.keep b o e n (fun z => (List.mem_cons.mp (I.stkSub b z)).elim hL hb) hc) (fun b o _ _ hc e n => u.any e n hc) (fun b o hc e n => u.free b o e n hc) (fun b o hc e => u.there b o e hc) u.tups u.frzs u.tbls (fun m' hm => by
   obtain ⟨o', es', ep', ho', r'⟩ := hm
   rw [ho] at ho'; cases ho'
   exact ⟨_, es', ep', hL, r'⟩) hok hg
theorem Inv.turned {t' : Nat} {it : Addr} (I : Inv X pins σ H s) (k : ∀ b o, b ≠ it → s.heap.get? b = some o → h'.get? b = some o) (hn : H it = none) (hL : it ≠ X.env.locals)
   (h1 : it ∈ X.ex ∨ X.s₀.heap.objs.size ≤ it) (h2 : ∀ x c, X.env.cells.lookup x = some c → c ≠ it) (h3 : ∀ p ∈ X.pn ++ pins, p.1 ≠ it) : Inv X pins σ H { s with heap := h', toks := t' } := by
 have nit : ∀ b u, H b = some u → b ≠ it := fun b u e z => by rw [z, hn] at e; cases e
 refine I.step (g' := s.gens) (d' := s.drawn) (ch := [it]) (fun b hb => ?_) (fun b o _ _ hc e _ => k b o (fun z => hc (by simp [z])) e) (fun b o _ _ hc e _ => ⟨o.slots, k b o (fun z => hc (by simp [z])) e⟩) (fun _ _ _ _ n => n)
   (fun b o hc e => ⟨o, k b o (fun z => hc (by simp [z])) e⟩) (fun _ _ e => e) (fun _ _ _ e => e) (fun b ps e => ⟨#[], by rw [e]; simp⟩) (fun m hm => ?_) (fun b u e => ?_) I.bare
 · have e : b = it := by simpa using hb
   subst e
   exact ⟨h1, hL, h2, h3⟩
 · obtain ⟨o, es, ep, ho, r⟩ := hm
   exact ⟨o, es, ep, k _ o (Ne.symm hL) ho, r⟩
 · refine (I.hok b u e).stay (fun c v hc q => k c v ?_ q) (fun _ q => q) fun _ _ q => q
   rcases hc with z | z
   · rw [z]; exact nit b u e
   · exact nit c _ z
theorem Inv.tok (I : Inv X pins σ H s) (t : Nat) : Inv X pins σ H { s with toks := t } := I.un (h' := s.heap) (t' := t) Un.refl I.hok
theorem Inv.kept {t' : Nat} (I : Inv X pins σ H s) (k : ∀ b u, s.heap.get? b = some u → h'.get? b = some u) : Inv X pins σ H { s with heap := h', toks := t' } := I.un (Un.kept k) (I.hok.kept k)
theorem Inv.laid {a : Addr} {o : HO} {t' : Nat} (I : Inv X pins σ H s) (k : ∀ b u, s.heap.get? b = some u → h'.get? b = some u) (hp : s.heap.objs.size ≤ a) (new : ObjOk X.prog X.w (upd H a o) h' a o) :
   Inv X pins σ (upd H a o) { s with heap := h', toks := t' } := I.un (Un.laid k hp (I.hok.fresh hp)) (I.hok.laid k hp new)
theorem Inv.write {x e : Addr} {o : HO} {t' : Nat} (I : Inv X pins σ H s) (mu : Mut (H x)) (he : e = x ∨ H e = some (.own x)) (k : ∀ b u, b ≠ e → s.heap.get? b = some u → h'.get? b = some u) (heo : ∃ u, h'.get? e = some u)
   (new : ObjOk X.prog X.w (upd H x o) h' x o) : Inv X pins σ (upd H x o) { s with heap := h', toks := t' } := I.un (Un.write mu he k heo) (I.hok.write mu he k heo new)
theorem Inv.pins_of {pins' : List (Addr × Obj)} (I : Inv X pins σ H s) (h : ∀ p ∈ pins', s.heap.get? p.1 = some p.2 ∧ H p.1 = none ∧ p.1 ≠ X.env.locals ∧ p.1 ∉ X.fs ∧ ∀ v, p.2.data ≠ .cell v) : Inv X pins' σ H s :=
 ⟨I.ok, I.os, I.bare, I.base, I.loc, I.cell, I.free, I.freeC, fun p hp => (List.mem_append.mp hp).elim (fun z => I.pin p (List.mem_append_left _ z)) (h p), I.hok, I.len⟩
theorem nodup_ix {N : List Str} (hN : N.Nodup) {i j : Nat} {x : Str} (a : N[i]? = some x) (b : N[j]? = some x) : i = j := by
 obtain ⟨h1, e1⟩ := List.getElem?_eq_some_iff.mp a
 obtain ⟨h2, e2⟩ := List.getElem?_eq_some_iff.mp b
 exact (List.getElem_inj hN).mp (e1.trans e2.symm)
theorem store_ok2 {M : Model} {A : Around} {E : Value → Shared → Prop} {i : Nat} {x : Str} {v : V} {u : Value} {Q : Unit → Shared → Prop} (I : Inv X pins σ H s) (hN : X.N.Nodup) (hi : X.N[i]? = some x) (hx : Loc X.env.scope x) (r : RelV v u)
   (h : ∀ s', Inv X pins (σ.set i (some v)) H s' → (∃ a, Heap.SameBut a s.heap s'.heap ∧ (a = X.env.locals ∨ X.env.cells.lookup x = some a)) → Q () s') (hf : X.fn x = true ∨ X.env.scope.names.lookup x = some .local := by first | exact .inl rfl | exact .inr rfl | assumption) : wpAny M A (storeName X.env x u) Q E s := by
 obtain ⟨m, hn, hl⟩ := id I.loc
 have hcls : (X.env.scope.kind == .class || (X.env.scope.kind == .module && X.env.locals != X.env.globals)) = false := by rw [I.ok.kind]; rfl
 have hiσ : i < σ.length := by rw [I.len]; exact (List.getElem?_eq_some_iff.mp hi).1
 have cne := I.cne
 have tracked : ∀ {a : Addr} {h' : Heap}, (∃ o, s.heap.get? a = some o ∧ H a = none) → Heap.SameBut a s.heap h' → HOk X.prog X.w H h' := fun {a h'} ha hs b ob e => by
   obtain ⟨_, _, hfree⟩ := ha
   refine (I.hok b ob e).stay (fun c w' hc q => (hs.2 c ?_).trans q) (fun _ q => q) fun _ _ q => q
   rintro rfl
   rcases hc with rfl | hc
   · rw [hfree] at e; cases e
   · rw [hfree] at hc; cases hc
 rcases hx with hk | hk
 · refine wpAny_storeName_local hk hn (fun h' hn' hs => ?_) hcls
   obtain ⟨oL, _, _, hoL, _⟩ := id hn
   refine h _ ⟨I.ok, I.os, I.bare, ⟨fun b o e n hb hx => ?_, fun b o e n hb hx => ?_, I.base.free, fun b o e hx => ?_, I.base.tups, I.base.frzs, I.base.tbls⟩, ⟨_, hn', fun j y v' e1 e2 e3 => ?_⟩, fun y c e => ?_, I.free, I.freeC, fun p hp => ?_, tracked ⟨oL, hoL, I.free⟩ hs, by simpa using I.len⟩ ⟨_, hs, .inl rfl⟩
   · exact (hs.2 b (Nat.ne_of_lt (Nat.lt_of_lt_of_le (Heap.lt_size e) I.ok.above))).trans (I.base.keep b o e n hb hx)
   · obtain ⟨sl, e1⟩ := I.base.slot b o e n hb hx
     exact ⟨sl, (hs.2 b (Nat.ne_of_lt (Nat.lt_of_lt_of_le (Heap.lt_size e) I.ok.above))).trans e1⟩
   · obtain ⟨o', e1⟩ := I.base.there b o e hx
     exact ⟨o', (hs.2 b (Nat.ne_of_lt (Nat.lt_of_lt_of_le (Heap.lt_size e) I.ok.above))).trans e1⟩
   · by_cases hj : j = i
     · subst hj
       rw [hi] at e1; cases e1
       rw [List.getElem?_set_self hiσ] at e2
       cases e2
       exact ⟨u, r, .inl ⟨hk, by simp⟩⟩
     · rw [List.getElem?_set_ne (Ne.symm hj)] at e2
       obtain ⟨u', r', q⟩ := hl j y v' e1 e2 e3
       refine ⟨u', r', ?_⟩
       rcases q with ⟨k, e⟩ | ⟨k, c, e, z⟩
       · refine .inl ⟨k, ?_⟩
         have : y ≠ x := fun e => hj (nodup_ix hN e1 (e ▸ hi))
         simp [this, e]
       · exact .inr ⟨k, c, e, z.sameBut hs (cne y c e)⟩
   · obtain ⟨w', z⟩ := I.cell y c e
     exact ⟨w', z.sameBut hs (cne y c e)⟩
   · obtain ⟨e, n, ne, nf, d⟩ := I.pin p hp
     exact ⟨(hs.2 p.1 ne).trans e, n, ne, nf, d⟩
 · have hfn : X.fn x = true := by
     rcases hf with z | z
     · exact z
     · rw [z] at hk; cases hk
   obtain ⟨c, hc⟩ := I.ok.has x (.inl hk)
   obtain ⟨w', z⟩ := I.cell x c hc
   refine wpAny_storeName_cell I.ok.kind hk hc z (fun h' hc' hs => ?_)
   obtain ⟨oc, hoc, hocd⟩ := id z
   refine h { s with heap := h' } ⟨I.ok, I.os, I.bare, ⟨fun b o e n hb hx => ?_, fun b o e n hb hx => ?_, I.base.free, fun b o e hx => ?_, I.base.tups, I.base.frzs, I.base.tbls⟩, ⟨m, hn.sameBut hs (Ne.symm (cne x c hc)), fun j y v' e1 e2 e3 => ?_⟩, fun y c' e => ?_, I.free, I.freeC, fun p hp => ?_, tracked ⟨oc, hoc, I.freeC x c hc⟩ hs, by simpa using I.len⟩ ⟨c, hs, .inr hc⟩
   · exact (hs.2 b (Nat.ne_of_lt (Nat.lt_of_lt_of_le (Heap.lt_size e) (I.ok.cab x c hfn hc)))).trans (I.base.keep b o e n hb hx)
   · obtain ⟨sl, e1⟩ := I.base.slot b o e n hb hx
     exact ⟨sl, (hs.2 b (Nat.ne_of_lt (Nat.lt_of_lt_of_le (Heap.lt_size e) (I.ok.cab x c hfn hc)))).trans e1⟩
   · obtain ⟨o', e1⟩ := I.base.there b o e hx
     exact ⟨o', (hs.2 b (Nat.ne_of_lt (Nat.lt_of_lt_of_le (Heap.lt_size e) (I.ok.cab x c hfn hc)))).trans e1⟩
   · by_cases hj : j = i
     · subst hj
       rw [hi] at e1; cases e1
       rw [List.getElem?_set_self hiσ] at e2
       cases e2
       exact ⟨u, r, .inr ⟨.inl hk, c, hc, hc'⟩⟩
     · rw [List.getElem?_set_ne (Ne.symm hj)] at e2
       obtain ⟨u', r', q⟩ := hl j y v' e1 e2 e3
       refine ⟨u', r', ?_⟩
       rcases q with q | ⟨k, c', e, z'⟩
       · exact .inl q
       · refine .inr ⟨k, c', e, z'.sameBut hs ?_⟩
         rintro rfl
         exact hj (nodup_ix hN e1 (I.ok.inj _ _ _ e hc ▸ hi))
   · by_cases hcc : c' = c
     · subst hcc; exact ⟨_, hc'⟩
     · obtain ⟨w2, z2⟩ := I.cell y c' e
       exact ⟨w2, z2.sameBut hs hcc⟩
   · obtain ⟨e, n, ne, nf, d⟩ := I.pin p hp
     refine ⟨(hs.2 p.1 ?_).trans e, n, ne, nf, d⟩
     intro q
     rw [q, hoc] at e
     have q' : oc = p.2 := Option.some.inj e
     exact d w' (by rw [← q']; exact hocd)
theorem store_ok {M : Model} {A : Around} {E : Value → Shared → Prop} {i : Nat} {x : Str} {v : V} {u : Value} {Q : Unit → Shared → Prop} (I : Inv X pins σ H s) (hN : X.N.Nodup) (hi : X.N[i]? = some x) (hx : Loc X.env.scope x) (r : RelV v u)
   (h : ∀ s', Inv X pins (σ.set i (some v)) H s' → Q () s') (hf : X.fn x = true ∨ X.env.scope.names.lookup x = some .local := by first | exact .inl rfl | exact .inr rfl | assumption) : wpAny M A (storeName X.env x u) Q E s :=
 store_ok2 I hN hi hx r (fun s' I' _ => h s' I') hf
theorem Inv.call' {s' : Shared} {ch : List Addr} (I : Inv X pins σ H s) (ho : s'.os = s.os) (u : Un (frs X.stack) ch H H' s.heap s'.heap) (hok : HOk X.prog X.w H' s'.heap) (hg : AllBare s'.gens)
   (hch : ∀ b ∈ ch, (b ∈ X.ex ∨ X.s₀.heap.objs.size ≤ b) ∧ b ≠ X.env.locals ∧ (∀ x c, X.env.cells.lookup x = some c → c ≠ b) ∧ ∀ p ∈ X.pn ++ pins, p.1 ≠ b) : Inv X pins σ H' s' := by
 obtain ⟨h', g', d', t', o'⟩ := s'
 have e : o' = s.os := ho
 subst e
 exact I.call (g' := g') (t' := t') (d' := d') u hok hg hch
end
abbrev XK := Value → Option Addr → Hp → Prop
abbrev St := List (Option V)
abbrev VK := V → Hp → Prop
abbrev TE := St → Hp → VK → Prop
abbrev TT := St → Hp → (Bool → Hp → Prop) → Prop
abbrev TA := St → Hp → (List V → Hp → Prop) → Prop
structure Ends where
 nx : St → Hp → Prop
 rt : VK
 bk : St → Hp → Prop := fun _ _ => False
 ct : St → Hp → Prop := fun _ _ => False
abbrev TS := Ends → St → Hp → Prop
def EP (X : Cx) (pins : List (Addr × Obj)) (σ : St) (Q : VK) (u : Value) (s' : Shared) : Prop := ∃ v H', Inv X pins σ H' s' ∧ RelV v u ∧ Q v H'
def TP (X : Cx) (pins : List (Addr × Obj)) (σ : St) (Q : Bool → Hp → Prop) (b : Bool) (s' : Shared) : Prop := ∃ H', Inv X pins σ H' s' ∧ Q b H'
def AP (X : Cx) (pins : List (Addr × Obj)) (σ : St) (Q : List V → Hp → Prop) (us : List Value) (s' : Shared) : Prop := ∃ vs H', Inv X pins σ H' s' ∧ Vals vs us ∧ Q vs H'
def SP (X : Cx) (pins : List (Addr × Obj)) (D : Ends) (f : Flow) (s' : Shared) : Prop :=
 match f with
 | .next => ∃ σ' H', Inv X pins σ' H' s' ∧ D.nx σ' H'
 | .brk => ∃ σ' H', Inv X pins σ' H' s' ∧ D.bk σ' H'
 | .cont => ∃ σ' H', Inv X pins σ' H' s' ∧ D.ct σ' H'
 | .ret u => ∃ v σ' H', Inv X pins σ' H' s' ∧ RelV v u ∧ D.rt v H'
def PE (X : Cx) (e : Expr) (t : TE) : Prop :=
 ∀ (pins : List (Addr × Obj)) (s : Shared) (σ : St) (H : Hp) (Q : VK), Inv X pins σ H s → t σ H Q → wpAny (model X.prog X.w) X.A (eval e X.env) (EP X pins σ Q) X.xe s
def PT (X : Cx) (e : Expr) (t : TT) : Prop :=
 ∀ (pins : List (Addr × Obj)) (s : Shared) (σ : St) (H : Hp) (Q : Bool → Hp → Prop), Inv X pins σ H s → t σ H Q → wpAny (model X.prog X.w) X.A (isTrue e X.env (eval e X.env)) (TP X pins σ Q) X.xe s
def PW (X : Cx) (e : Expr) (t : TT) : Prop :=
 ∀ (whole : Sem Value) (pins : List (Addr × Obj)) (s : Shared) (σ : St) (H : Hp) (Q : Bool → Hp → Prop), Inv X pins σ H s → t σ H Q → wpAny (model X.prog X.w) X.A (isTrue e X.env whole) (TP X pins σ Q) X.xe s
theorem PW.pt {X : Cx} {e : Expr} {t : TT} (h : PW X e t) : PT X e t := h _
def PA (X : Cx) (es : List Expr) (t : TA) : Prop :=
 ∀ (pos : Pos) (pins : List (Addr × Obj)) (s : Shared) (σ : St) (H : Hp) (Q : List V → Hp → Prop), Inv X pins σ H s → t σ H Q → wpAny (model X.prog X.w) X.A (spliced (backTo pos (starEach es X.env))) (AP X pins σ Q) X.xe s
def PS (X : Cx) (st : Stmt) (t : TS) : Prop :=
 ∀ (pins : List (Addr × Obj)) (s : Shared) (σ : St) (H : Hp) (D : Ends), Inv X pins σ H s → t D σ H → wpAny (model X.prog X.w) X.A (exec st X.env) (SP X pins D) X.xe s
def PSs (X : Cx) (st : List Stmt) (t : TS) : Prop :=
 ∀ (pins : List (Addr × Obj)) (s : Shared) (σ : St) (H : Hp) (D : Ends), Inv X pins σ H s → t D σ H → wpAny (model X.prog X.w) X.A (execs st X.env) (SP X pins D) X.xe s
theorem thn {α : Type} {t : Sem α} {Q Q' : α → Shared → Prop} {M : Model} {A : Around} {E : Value → Shared → Prop} {s : Shared} (h : wpAny M A t Q E s) (hQ : ∀ a s, Q a s → Q' a s) : wpAny M A t Q' E s := wpAny_mono h hQ fun _ _ x => x
end L2
namespace L2
open PySem PySem.Spec PyProof.Rows
section
variable {X : Cx}
def tVar (i : Nat) : TE := fun σ H Q => ∃ v, σ[i]? = some (some v) ∧ Q v H
def tC (v : V) : TE := fun _ H Q => Q v H
theorem pe_var {i : Nat} {x : Str} {pos : Pos} (hN : X.N[i]? = some x) (hv : Vis X.env.scope x) (hd : (x == ("__debug__" : Str)) = false := by decide) (hcd : (x == ("__classdict__" : Str)) = false := by decide) : PE X (.Name x pos) (tVar i) := by
 intro pins s σ H Q I h
 obtain ⟨v, e, h⟩ := h
 obtain ⟨m, hn, hl⟩ := I.loc
 obtain ⟨u, r, l⟩ := hl i x v hN e hv
 have fin : EP X pins σ Q u s := ⟨v, H, I, r, h⟩
 rcases l with ⟨hk, hm⟩ | ⟨hk, c, hc, hcell⟩
 · exact wpAny_Name (wpAny_loadName_local I.ok.kind hk hn hm fin) hd
 · rcases hk with hk | hk
   · exact wpAny_Name (wpAny_loadName_cell I.ok.kind hk hc hcell fin) hd
   · exact wpAny_Name (wpAny_loadName_free I.ok.kind hk hc hcell fin hcd) hd
theorem pe_int {i j pos} : PE X (.Constant (.int i) j pos) (tC (.int i)) := fun _ _ _ H _ I h => wpAny_Constant_int ⟨.int i, H, I.tok _, ⟨_, rfl⟩, h⟩
theorem pe_bl {b j pos} : PE X (.Constant (.bool b) j pos) (tC (.bl b)) := fun _ _ _ H _ I h => Constant_bool ⟨.bl b, H, I, rfl, h⟩
theorem pe_non {j pos} : PE X (.Constant .none j pos) (tC .non) := fun _ _ _ H _ I h => Constant_none ⟨.non, H, I, rfl, h⟩
theorem pe_str {x j pos} : PE X (.Constant (.str x) j pos) (tC (.str x)) := fun _ _ _ H _ I h => Calls.Constant_str ⟨.str x, H, I.tok _, ⟨_, rfl⟩, h⟩
def Gl (X : Cx) (x : Str) : Prop := X.env.kindOf x = some .globalImplicit
theorem ld_glob {E : Value → Shared → Prop} {pins : List (Addr × Obj)} {s : Shared} {σ : St} {H : Hp} {x : Str} {u : Value} {pos : Pos} {Q : Value → Shared → Prop} (I : Inv X pins σ H s) (hg : Gl X x) (hm : X.mg x = some u) (h : Q u s)
   (hd : (x == ("__debug__" : Str)) = false := by decide) : wpAny (model X.prog X.w) X.A (eval (.Name x pos) X.env) Q E s :=
 Calls.Name_function_global I.ok.kind hg (Calls.loadGlobal_global (by rw [I.ok.glob]; exact I.mod.glob.keeps I.bk) hm h) hd
theorem ld_blt {E : Value → Shared → Prop} {pins : List (Addr × Obj)} {s : Shared} {σ : St} {H : Hp} {x : Str} {u : Value} {pos : Pos} {Q : Value → Shared → Prop} (I : Inv X pins σ H s) (hg : Gl X x) (hm : X.mg x = none) (hv : bootBuiltins x = some u) (h : Q u s)
   (hn : x ≠ "__name__" := by decide) (hd : (x == ("__debug__" : Str)) = false := by decide) : wpAny (model X.prog X.w) X.A (eval (.Name x pos) X.env) Q E s := by
 obtain ⟨mb, h1, h2⟩ := I.mod.blt
 exact Calls.Name_function_global I.ok.kind hg (Calls.loadGlobal_builtin (by rw [I.ok.glob]; exact I.mod.glob.keeps I.bk) hm (by rw [I.ok.blt]; exact h1.keeps I.bk) ((h2 x hn).trans hv) h) hd
theorem pe_glob {x : Str} {v : V} {u : Value} {pos : Pos} (hg : Gl X x) (hm : X.mg x = some u) (r : RelV v u) (hd : (x == ("__debug__" : Str)) = false := by decide) : PE X (.Name x pos) (tC v) :=
 fun _ _ _ H _ I h => ld_glob I hg hm ⟨v, H, I, r, h⟩ hd
variable {a b : Expr} {ta tb : TE} {pos : Pos}
def PC (X : Cx) (op : CmpOp) (a b : Expr) (t : TE) : Prop :=
 ∀ (pins : List (Addr × Obj)) (s : Shared) (σ : St) (H : Hp) (Q : VK), Inv X pins σ H s → t σ H Q →
   wpAny (model X.prog X.w) X.A (eval a X.env) (fun v s₁ => wpAny (model X.prog X.w) X.A (eval b X.env) (fun u s₂ => wpAny (model X.prog X.w) X.A (compareOp op v u) (EP X pins σ Q) X.xe s₂) X.xe s₁) X.xe s
theorem nobehind (b : Expr) {op : CmpOp} (h : op ≠ .In) (h2 : op ≠ .NotIn) : behindInMarks op b = false := by
 have e1 : (op == CmpOp.In) = false := by cases op <;> first | rfl | exact absurd rfl h
 have e2 : (op == CmpOp.NotIn) = false := by cases op <;> first | rfl | exact absurd rfl h2
 cases b <;> simp [behindInMarks, e1, e2]
def tIsN (ta : TE) : TE := fun σ H Q => ta σ H fun x H1 => Q (.bl (decide (x = .non))) H1
def tNotN (ta : TE) : TE := fun σ H Q => ta σ H fun x H1 => Q (.bl (!decide (x = .non))) H1
theorem RelV.none_iff {x : V} {v : Value} (r : RelV x v) : (v == Value.none) = decide (x = .non) := by
 cases x with
 | non => cases r; rfl
 | bl _ => cases r; rfl
 | int _ => obtain ⟨t, rfl⟩ := r; rfl
 | str _ => obtain ⟨t, rfl⟩ := r; rfl
 | byt _ => obtain ⟨t, rfl⟩ := r; rfl
 | flt _ => obtain ⟨t, rfl⟩ := r; rfl
 | ref _ => cases r; rfl
 | ty _ => cases r; rfl
theorem pc_isN {j pos'} (ha : PE X a ta) : PC X .Is a (.Constant .none j pos') (tIsN ta) := by
 intro pins s σ H Q I h
 refine thn (ha pins s σ H _ I h) fun v s1 ⟨x, H1, I1, r1, q1⟩ => ?_
 exact Constant_none (is_none_gen ⟨.bl _, H1, I1, by rw [r1.none_iff]; rfl, q1⟩)
theorem pc_notN {j pos'} (ha : PE X a ta) : PC X .IsNot a (.Constant .none j pos') (tNotN ta) := by
 intro pins s σ H Q I h
 refine thn (ha pins s σ H _ I h) fun v s1 ⟨x, H1, I1, r1, q1⟩ => ?_
 exact Constant_none (isnot_none_gen ⟨.bl _, H1, I1, by rw [r1.none_iff]; rfl, q1⟩)
def tB (t : TE) : TT := fun σ H Q => t σ H fun x H1 => ∃ c, x = .bl c ∧ Q c H1
theorem pe_cmp {op : CmpOp} {t : TE} (h : PC X op a b t) (h1 : behindInMarks op b = false := by first | exact nobehind _ (by decide) (by decide) | rfl) : PE X (.Compare a [op] [b] pos) t := fun pins s σ H Q I hw => wpAny_Compare1 (h pins s σ H Q I hw) h1
theorem pt_cmp {op : CmpOp} {t : TE} (h : PC X op a b t) (h1 : behindInMarks op b = false := by first | exact nobehind _ (by decide) (by decide) | rfl) : PT X (.Compare a [op] [b] pos) (tB t) := by
 intro pins s σ H Q I hw
 refine wpAny_isTrue_Compare1 (thn (h pins s σ H _ I hw) fun v s1 h1 => thn h1 fun u s2 h2 => thn h2 fun c s3 ⟨x, H1, I1, r1, q1⟩ => ?_) h1
 obtain ⟨d, rfl, q⟩ := q1
 cases r1
 exact wpAny_truthy_bool ⟨H1, I1, q⟩
theorem pt_val {e : Expr} {t : TE} (h : PE X e t) (he : ∀ whole, isTrue e X.env whole = (do let v ← whole; standAt e.pos; holding [v] (truthy v)) := by intro _; rfl) : PT X e (tB t) := by
 intro pins s σ H Q I hw
 refine isTrue_plain (thn (h pins s σ H _ I hw) fun v s1 ⟨x, H1, I1, r1, q1⟩ => ?_) (he _)
 obtain ⟨d, rfl, q⟩ := q1
 cases r1
 exact wpAny_truthy_bool ⟨H1, I1, q⟩
variable {tA tB' : TT} {rest : List Expr}
def tAnd (t u : TT) : TT := fun σ H Q => t σ H fun c H1 => if c = true then u σ H1 Q else Q false H1
def tOr (t u : TT) : TT := fun σ H Q => t σ H fun c H1 => if c = true then Q true H1 else u σ H1 Q
def tNot (t : TT) : TT := fun σ H Q => t σ H fun c H1 => Q (!c) H1
theorem pw_and1 (ha : PT X a tA) : PW X (.BoolOp .And [a] pos) tA := by
 intro wh pins s σ H Q I h
 refine isTrue_and (thn (ha pins s σ H Q I h) fun c s1 e => ?_)
 cases c with
 | true => exact isTrue_and_nil e
 | false => exact e
theorem pw_or1 (ha : PT X a tA) : PW X (.BoolOp .Or [a] pos) tA := by
 intro wh pins s σ H Q I h
 refine isTrue_or (thn (ha pins s σ H Q I h) fun c s1 e => ?_)
 cases c with
 | false => exact isTrue_or_nil e
 | true => exact e
theorem pw_and (ha : PT X a tA) (hb : PW X (.BoolOp .And (b :: rest) pos) tB') : PW X (.BoolOp .And (a :: b :: rest) pos) (tAnd tA tB') := by
 intro wh pins s σ H Q I h
 refine isTrue_and (thn (ha pins s σ H _ I h) fun c s1 ⟨H1, I1, q1⟩ => ?_)
 cases c with
 | true => exact hb wh pins s1 σ H1 Q I1 q1
 | false => exact ⟨H1, I1, q1⟩
theorem pw_or (ha : PT X a tA) (hb : PW X (.BoolOp .Or (b :: rest) pos) tB') : PW X (.BoolOp .Or (a :: b :: rest) pos) (tOr tA tB') := by
 intro wh pins s σ H Q I h
 refine isTrue_or (thn (ha pins s σ H _ I h) fun c s1 ⟨H1, I1, q1⟩ => ?_)
 cases c with
 | true => exact ⟨H1, I1, q1⟩
 | false => exact hb wh pins s1 σ H1 Q I1 q1
theorem pt_not (ha : PT X a tA) : PT X (.UnaryOp .Not a pos) (tNot tA) := by
 intro pins s σ H Q I h
 exact isTrue_not (ha pins s σ H (fun c H1 => Q (!c) H1) I h)
def tAndV (ta tb : TE) : TE := fun σ H Q => ta σ H fun x H1 => ∃ c, x = .bl c ∧ if c = true then tb σ H1 Q else Q (.bl false) H1
def tOrV (ta tb : TE) : TE := fun σ H Q => ta σ H fun x H1 => ∃ c, x = .bl c ∧ if c = true then Q (.bl true) H1 else tb σ H1 Q
def tNotV (ta : TE) : TE := fun σ H Q => ta σ H fun x H1 => ∃ c, x = .bl c ∧ Q (.bl (!c)) H1
theorem pe_one {op} {t : TE} (h : PE X a t) : PE X (.BoolOp op [a] pos) t := fun pins s σ H Q I hw => BoolOp_one (h pins s σ H Q I hw)
theorem pe_and (ha : PE X a ta) (hb : PE X (.BoolOp .And (b :: rest) pos) tb) : PE X (.BoolOp .And (a :: b :: rest) pos) (tAndV ta tb) := by
 intro pins s σ H Q I h
 refine BoolOp_and (thn (ha pins s σ H _ I h) fun v s1 ⟨x, H1, I1, r1, q1⟩ => ?_)
 obtain ⟨c, rfl, q1⟩ := q1
 cases r1
 refine wpAny_truthy_bool ?_
 cases c with
 | true => exact hb pins s1 σ H1 Q I1 q1
 | false => exact ⟨.bl false, H1, I1, rfl, q1⟩
theorem pe_or (ha : PE X a ta) (hb : PE X (.BoolOp .Or (b :: rest) pos) tb) : PE X (.BoolOp .Or (a :: b :: rest) pos) (tOrV ta tb) := by
 intro pins s σ H Q I h
 refine BoolOp_or (thn (ha pins s σ H _ I h) fun v s1 ⟨x, H1, I1, r1, q1⟩ => ?_)
 obtain ⟨c, rfl, q1⟩ := q1
 cases r1
 refine wpAny_truthy_bool ?_
 cases c with
 | false => exact hb pins s1 σ H1 Q I1 q1
 | true => exact ⟨.bl true, H1, I1, rfl, q1⟩
theorem pe_not (ha : PE X a ta) : PE X (.UnaryOp .Not a pos) (tNotV ta) := by
 intro pins s σ H Q I h
 refine UnaryOp_ (thn (ha pins s σ H _ I h) fun v s1 ⟨x, H1, I1, r1, q1⟩ => ?_)
 obtain ⟨c, rfl, q1⟩ := q1
 cases r1
 exact not_of (wpAny_truthy_bool ⟨.bl (!c), H1, I1, rfl, q1⟩)
def tIf (t : TT) (ta tb : TE) : TE := fun σ H Q => t σ H fun c H1 => if c = true then ta σ H1 Q else tb σ H1 Q
theorem pe_ifExp {c : Expr} (hc : PT X c tA) (ha : PE X a ta) (hb : PE X b tb) : PE X (.IfExp c a b pos) (tIf tA ta tb) := by
 intro pins s σ H Q I h
 refine wpAny_IfExp (thn (hc pins s σ H _ I h) fun d s1 ⟨H1, I1, q1⟩ => ?_)
 cases d with
 | true => exact ha pins s1 σ H1 Q I1 q1
 | false => exact hb pins s1 σ H1 Q I1 q1
end
end L2
namespace L2
open PySem PySem.Spec PyProof.Rows
def SqL (K : W.Frag) (H : Hp) (a : Addr) (xs : List V) : Prop :=
 Rd H a (.lst xs) ∨
   ∃ (o : Obj) (its : Array Value) (n : Nat), K.lookup a = some o ∧ o.cls = .type "list" ∧ o.dict = none ∧ o.data = .seq its n ∧ its.size ≤ sizeLine ∧ Vals xs its.toList
def SqT (K : W.Frag) (H : Hp) (a : Addr) (xs : List V) : Prop :=
 Rd H a (.tup xs) ∨
   ∃ (o : Obj) (its : Array Value) (n : Nat), K.lookup a = some o ∧ o.cls = .type "tuple" ∧ o.data = .seq its n ∧ its.size ≤ sizeLine ∧ Vals xs its.toList
def absV : Value → Option V
 | .none => some .non
 | .bool b => some (.bl b)
 | .int i _ => some (.int i)
 | .str x _ => some (.str x)
 | .bytes b _ => some (.byt b)
 | .float b _ => some (.flt b)
 | .ref a => some (.ref a)
 | .type n => some (.ty n)
 | _ => none
theorem RelV.abs {x : V} {u : Value} (r : RelV x u) : absV u = some x := by
 cases x with
 | non => cases r; rfl
 | bl _ => cases r; rfl
 | int _ => obtain ⟨t, rfl⟩ := r; rfl
 | str _ => obtain ⟨t, rfl⟩ := r; rfl
 | byt _ => obtain ⟨t, rfl⟩ := r; rfl
 | flt _ => obtain ⟨t, rfl⟩ := r; rfl
 | ref _ => cases r; rfl
 | ty _ => cases r; rfl
theorem RelV.inj {x y : V} {u : Value} (r : RelV x u) (q : RelV y u) : x = y := Option.some.inj (r.abs.symm.trans q.abs)
theorem Vals.inj : ∀ {xs ys : List V} {us : List Value}, Vals xs us → Vals ys us → xs = ys
 | _, _, _, .nil, .nil => rfl
 | _, _, _, .cons r t, .cons r' t' => by rw [r.inj r', Vals.inj t t']
section
variable {X : Cx} {pins : List (Addr × Obj)} {σ : St} {H : Hp} {s : Shared} {a : Addr} {xs ys : List V}
theorem SqL.of {K : W.Frag} (h : H a = some (.lst xs)) : SqL K H a xs := .inl (.inl h)
theorem SqT.of {K : W.Frag} (h : H a = some (.tup xs)) : SqT K H a xs := .inl (.inl h)
theorem Inv.list (I : Inv X pins σ H s) (h : SqL X.K H a xs) : ∃ its : List Value, Vals xs its ∧ PlainL s.heap a its.toArray ∧ xs.length ≤ sizeLine := by
 rcases h with h | ⟨o, its, n, hk, hc, hd, hs, hz, r⟩
 · obtain ⟨z, its, n, r, e⟩ := h.ok I.hok
   exact ⟨its, r, ⟨_, n, e, rfl, rfl, rfl⟩, z⟩
 · refine ⟨its.toList, r, ⟨o, n, I.kIn a o hk, hc, hd, by simpa using hs⟩, ?_⟩
   have e := r.length
   simp only [Array.length_toList] at e
   omega
theorem Inv.tuple (I : Inv X pins σ H s) (h : SqT X.K H a xs) : ∃ its : List Value, Vals xs its ∧ IsTup s.heap a its.toArray ∧ xs.length ≤ sizeLine := by
 rcases h with h | ⟨o, its, n, hk, hc, hs, hz, r⟩
 · obtain ⟨z, its, r, p⟩ := h.ok I.hok
   exact ⟨its, r, p, z⟩
 · refine ⟨its.toList, r, ⟨o, I.kIn a o hk, hc, n, by simpa using hs⟩, ?_⟩
   have e := r.length
   simp only [Array.length_toList] at e
   omega
theorem Inv.list_inj (I : Inv X pins σ H s) (h : SqL X.K H a xs) (h' : SqL X.K H a ys) : xs = ys := by
 obtain ⟨its, r, ⟨o, n, e, _, _, d⟩, _⟩ := I.list h
 obtain ⟨its', r', ⟨o', n', e', _, _, d'⟩, _⟩ := I.list h'
 rw [e] at e'; cases e'
 rw [d] at d'
 injection d' with d1 _
 have : its = its' := by simpa using congrArg Array.toList d1
 subst this
 exact r.inj r'
theorem Inv.tuple_inj (I : Inv X pins σ H s) (h : SqT X.K H a xs) (h' : SqT X.K H a ys) : xs = ys := by
 obtain ⟨its, r, ⟨o, e, _, n, d⟩, _⟩ := I.tuple h
 obtain ⟨its', r', ⟨o', e', _, n', d'⟩, _⟩ := I.tuple h'
 rw [e] at e'; cases e'
 rw [d] at d'
 injection d' with d1 _
 have : its = its' := by simpa using congrArg Array.toList d1
 subst this
 exact r.inj r'
end
abbrev Cx.wish (X : Cx) (E : Value → Shared → Prop) : Cx := { X with xe := E }
abbrev Cx.nox (X : Cx) : Cx := X.wish fun _ _ => False
theorem Cx.Ok.wish {X : Cx} (ok : X.Ok) (E : Value → Shared → Prop) : (X.wish E).Ok :=
 ⟨ok.mod, ok.kind, ok.glob, ok.blt, ok.above, ok.inj, ok.has, ok.cab, ok.hd, ok.frames, ok.stk, ok.exf, ok.bs, ok.bsz, ok.noex, ok.exfs, ok.funs, ok.frf⟩
theorem Cx.Ok.unwish {X : Cx} {E : Value → Shared → Prop} (ok : (X.wish E).Ok) : X.Ok :=
 ⟨ok.mod, ok.kind, ok.glob, ok.blt, ok.above, ok.inj, ok.has, ok.cab, ok.hd, ok.frames, ok.stk, ok.exf, ok.bs, ok.bsz, ok.noex, ok.exfs, ok.funs, ok.frf⟩
section
variable {X : Cx} {pins : List (Addr × Obj)} {σ : St} {H : Hp} {s : Shared} {E : Value → Shared → Prop}
theorem Inv.wish (I : Inv X pins σ H s) (E : Value → Shared → Prop) : Inv (X.wish E) pins σ H s := ⟨I.ok.wish E, I.os, I.bare, I.base, I.loc, I.cell, I.free, I.freeC, I.pin, I.hok, I.len⟩
theorem Inv.unwish (I : Inv (X.wish E) pins σ H s) : Inv X pins σ H s := ⟨I.ok.unwish, I.os, I.bare, I.base, I.loc, I.cell, I.free, I.freeC, I.pin, I.hok, I.len⟩
theorem SP.unwish {D : Ends} {f : Flow} {s' : Shared} (h : SP (X.wish E) pins D f s') : SP X pins D f s' := by
 cases f with
 | next => obtain ⟨σ', H', I, q⟩ := h; exact ⟨σ', H', I.unwish, q⟩
 | brk => obtain ⟨σ', H', I, q⟩ := h; exact ⟨σ', H', I.unwish, q⟩
 | cont => obtain ⟨σ', H', I, q⟩ := h; exact ⟨σ', H', I.unwish, q⟩
 | ret u => obtain ⟨v, σ', H', I, r, q⟩ := h; exact ⟨v, σ', H', I.unwish, r, q⟩
theorem PSs.nox {st : List Stmt} {t : TS} (h : PSs X.nox st t) : PSs X st t := fun pins s σ H D I hw =>
 wpAny_mono (h pins s σ H D (I.wish _) hw) (fun _ _ q => q.unwish) fun _ _ z => False.elim z
end
section
variable {X : Cx} {st : Stmt} {rest : List Stmt} {t u : TS} {e : Expr} {te : TE} {pos : Pos}
def tNext : TS := fun D σ H => D.nx σ H
def tSeq (t u : TS) : TS := fun D σ H => t { D with nx := u D } σ H
theorem pss_nil : PSs X [] tNext := fun _ _ σ H _ I h => wpAny_execs_nil ⟨σ, H, I, h⟩
theorem pss_cons (h1 : PS X st t) (h2 : PSs X rest u) : PSs X (st :: rest) (tSeq t u) := by
 intro pins s σ H D I h
 refine wpAny_execs_cons (thn (h1 pins s σ H { D with nx := u D } I h) fun f s1 q => ?_)
 cases f with
 | next =>
   obtain ⟨σ', H', I', q⟩ := q
   exact h2 pins s1 σ' H' D I' q
 | ret v => exact q
 | brk => exact q
 | cont => exact q
theorem pss_one (h1 : PS X st t) : PSs X [st] t := by
 intro pins s σ H D I h
 refine wpAny_execs_cons (thn (h1 pins s σ H D I h) fun f s1 q => ?_)
 cases f with
 | next => exact wpAny_execs_nil q
 | ret v => exact q
 | brk => exact q
 | cont => exact q
theorem Inv.quiet {pins : List (Addr × Obj)} {σ : St} {H : Hp} {s : Shared} (I : Inv X pins σ H s) : interactive X.env = false := by simp [interactive, I.ok.kind]
def tDrop (te : TE) : TS := fun D σ H => te σ H fun _ H1 => D.nx σ H1
theorem ps_expr (he : PE X e te) (hs : swapsWith e none pos.line X.env = pure false := by rfl) : PS X (.Expr e pos) (tDrop te) := by
 intro pins s σ H D I h
 exact wpAny_Expr_any (thn (he pins s σ H _ I h) fun v s1 ⟨x, H1, I1, r1, q1⟩ => ⟨σ, H1, I1, q1⟩) I.quiet hs
def tRet (te : TE) : TS := fun D σ H => te σ H D.rt
theorem ps_ret (he : PE X e te) : PS X (.Return (some e) pos) (tRet te) := by
 intro pins s σ H D I h
 exact wpAny_Return_some (thn (he pins s σ H _ I h) fun v s1 ⟨x, H1, I1, r1, q1⟩ => ⟨x, σ, H1, I1, r1, q1⟩)
def tIfS (c : TT) (t u : TS) : TS := fun D σ H => c σ H fun b H1 => if b = true then t D σ H1 else u D σ H1
theorem ps_if {c : Expr} {a b : List Stmt} {tc : TT} (hc : PT X c tc) (ha : PSs X a t) (hb : PSs X b u) : PS X (.If c a b pos) (tIfS tc t u) := by
 intro pins s σ H D I h
 refine wpAny_If (thn (hc pins s σ H _ I h) fun d s1 ⟨H1, I1, q1⟩ => ?_)
 cases d with
 | true => exact ha pins s1 σ H1 D I1 q1
 | false => exact hb pins s1 σ H1 D I1 q1
def tNever : TS := fun _ _ _ => False
theorem pss_never {sts : List Stmt} : PSs X sts tNever := fun _ _ _ _ _ _ h => h.elim
end
abbrev TG := V → St → Hp → (St → Hp → Prop) → Prop
abbrev TGs := List V → St → Hp → (St → Hp → Prop) → Prop
def PG (X : Cx) (target : Expr) (t : TG) : Prop :=
 ∀ (pins : List (Addr × Obj)) (s : Shared) (σ : St) (H : Hp) (v : V) (u : Value) (Q : St → Hp → Prop), Inv X pins σ H s → RelV v u → t v σ H Q →
   wpAny (model X.prog X.w) X.A (assign target X.env u) (fun _ s' => ∃ σ' H', Inv X pins σ' H' s' ∧ Q σ' H') X.xe s
def PGs (X : Cx) (ts : List Expr) (t : TGs) : Prop :=
 ∀ (pins : List (Addr × Obj)) (s : Shared) (σ : St) (H : Hp) (vs : List V) (us : List Value) (Q : St → Hp → Prop), Inv X pins σ H s → Vals vs us → t vs σ H Q →
   wpAny (model X.prog X.w) X.A (assignInOrder ((assignEach ts X.env).map (·.2)) us) (fun _ s' => ∃ σ' H', Inv X pins σ' H' s' ∧ Q σ' H') X.xe s
abbrev TSet := V → V → V → Hp → (Hp → Prop) → Prop
def PSet (X : Cx) (t : TSet) : Prop :=
 ∀ (pins : List (Addr × Obj)) (s : Shared) (σ : St) (H : Hp) (o i v : V) (ov iv u : Value) (Q : Hp → Prop), Inv X pins σ H s → RelV o ov → RelV i iv → RelV v u → t o i v H Q →
   wpAny (model X.prog X.w) X.A (setItem ov iv u) (fun _ s' => ∃ H', Inv X pins σ H' s' ∧ Q H') X.xe s
section
variable {X : Cx} {pos : Pos}
def gName (i : Nat) : TG := fun v σ H Q => Q (σ.set i (some v)) H
theorem pg_name {i : Nat} {x : Str} (hN : X.N.Nodup) (hi : X.N[i]? = some x) (hx : Loc X.env.scope x) (hf : X.fn x = true ∨ X.env.scope.names.lookup x = some .local := by first | exact .inl rfl | exact .inr rfl | assumption) : PG X (.Name x pos) (gName i) := by
 intro pins s σ H v u Q I r h
 exact wpAny_assign_Name (store_ok I hN hi hx r (fun s' I' => ⟨_, H, I', h⟩) hf)
def gNil : TGs := fun vs σ H Q => vs = [] ∧ Q σ H
def gCons (t : TG) (u : TGs) : TGs := fun vs σ H Q => ∃ v r, vs = v :: r ∧ t v σ H fun σ' H' => u r σ' H' Q
theorem pgs_nil : PGs X [] gNil := by
 intro pins s σ H vs us Q I r h
 obtain ⟨e, h⟩ := h
 subst e
 cases r
 exact assignInOrder_nil ⟨σ, H, I, h⟩
theorem pgs_cons {e : Expr} {es : List Expr} {t : TG} {u : TGs} (h1 : PG X e t) (h2 : PGs X es u)
   (hs : (assignEach (e :: es) X.env).map (·.2) = assign e X.env :: (assignEach es X.env).map (·.2) := by rfl) : PGs X (e :: es) (gCons t u) := by
 intro pins s σ H vs us Q I r h
 obtain ⟨v, vr, e1, h⟩ := h
 subst e1
 cases r with
 | cons r rr =>
   rw [hs]
   refine assignInOrder_cons (thn (h1 pins s σ H _ _ _ I r h) fun _ s1 ⟨σ1, H1, I1, q1⟩ => ?_)
   exact h2 pins s1 σ1 H1 _ _ Q I1 rr q1
def gTup (K : W.Frag) (n : Nat) (t : TGs) : TG := fun v σ H Q => ∃ a xs, v = .ref a ∧ SqT K H a xs ∧ xs.length = n ∧ t xs σ H Q
theorem pg_tup {es : List Expr} {k : Nat} {t : TGs} {n : Nat} (hc : X.calm = true) (h : PGs X es t)
   (hn : (assignEach es X.env).length = n := by rfl) (hst : (assignEach es X.env).findIdx? (·.1) = none := by rfl) : PG X (.Tuple es k pos) (gTup X.K n t) := by
 intro pins s σ H v u Q I r hw
 obtain ⟨a, xs, e1, hq, hl, hw⟩ := hw
 subst e1
 cases r
 obtain ⟨its, rv, ht, hz⟩ := I.tuple hq
 refine assign_Tuple_tuple (I.ok.hd hc) ht (by simp [hn, ← hl, rv.length]) hst fun h' hx => ?_
 have I1 : Inv X pins σ H { s with heap := h' } := I.kept (t' := s.toks) fun b o e => hx b o (Nat.ne_of_lt (Heap.lt_size e)) e
 exact h pins _ σ H xs _ Q I1 (by simpa using rv) hw
def gSub (to ti : TE) (t : TSet) : TG := fun v σ H Q => to σ H fun o H1 => ti σ H1 fun i H2 => t o i v H2 fun H3 => Q σ H3
theorem pg_sub {o i : Expr} {to ti : TE} {t : TSet} (ho : PE X o to) (hi : PE X i ti) (hs : PSet X t)
   (ha : ∀ v, assign (.Subscript o i pos) X.env v = (do
     let ov ← holding [v] (eval o X.env)
     let iv ← holding [v, ov] (eval i X.env)
     standAt pos
     holding [v, ov, iv] (setItem ov iv v)
     release [v, ov, iv] []) := by intro _; rfl) : PG X (.Subscript o i pos) (gSub to ti t) := by
 intro pins s σ H v u Q I r h
 rw [ha]
 refine wpAny_bind (wpAny_holding (thn (ho pins s σ H _ I h) fun ov s1 ⟨x, H1, I1, r1, q1⟩ => ?_))
 refine wpAny_bind (wpAny_holding (thn (hi pins s1 σ H1 _ I1 q1) fun iv s2 ⟨y, H2, I2, r2, q2⟩ => ?_))
 refine wpAny_bind (wpAny_standAt (wpAny_bind (wpAny_holding (thn (hs pins s2 σ H2 x y v ov iv u _ I2 r1 r2 r q2) fun _ s3 ⟨H3, I3, q3⟩ => ?_))))
 exact wpAny_release ⟨σ, H3, I3, q3⟩
def tAsg (te : TE) (g : TG) : TS := fun D σ H => te σ H fun x H1 => g x σ H1 D.nx
theorem ps_asg {tg e : Expr} {te : TE} {g : TG} (he : PE X e te) (hg : PG X tg g) (hs : swapsWithSole [tg] e pos.line X.env = pure false := by rfl) (hw : swappedStores [tg] e X.env = pure none := by rfl)
   (h1 : (assignEach [tg] X.env).map (·.2) = [assign tg X.env] := by rfl) : PS X (.Assign [tg] e pos) (tAsg te g) := by
 intro pins s σ H D I h
 refine wpAny_Assign_stores (thn (he pins s σ H _ I h) fun v s1 ⟨x, H1, I1, r1, q1⟩ => ?_) hs hw
 rw [h1]
 exact thn (hg pins s1 σ H1 x v _ I1 r1 q1) fun _ s2 q => q
theorem ps_set {i : Nat} {x : Str} {e : Expr} {te : TE} {pos' : Pos} (hN : X.N.Nodup) (hi : X.N[i]? = some x) (hx : Loc X.env.scope x) (he : PE X e te) (hs : swapsWith e (some (.Name x pos')) pos.line X.env = pure false := by rfl) (hf : X.fn x = true ∨ X.env.scope.names.lookup x = some .local := by first | exact .inl rfl | exact .inr rfl | assumption) :
   PS X (.Assign [.Name x pos'] e pos) (tAsg te (gName i)) := by
 intro pins s σ H D I h
 refine wpAny_Assign_Name (thn (he pins s σ H _ I h) fun v s1 ⟨y, H1, I1, r1, q1⟩ => ?_) hs
 exact store_ok I1 hN hi hx r1 (fun s2 I2 => ⟨_, H1, I2, q1⟩) hf
end
structure It where
 go : Nat → Hp → Prop
 yld : Nat → Hp → V → Hp → Prop
 stop : Nat → Hp → Prop
def FpOk (X : Cx) (pins : List (Addr × Obj)) (H : Hp) (b : Addr) : Prop :=
 H b = none ∧ b ≠ X.env.locals ∧ b ∉ X.fs ∧ (b ∈ X.ex ∨ X.s₀.heap.objs.size ≤ b) ∧ (∀ x c, X.env.cells.lookup x = some c → c ≠ b) ∧ ∀ p ∈ X.pn ++ pins, p.1 ≠ b
theorem Inv.fpOk {X : Cx} {pins : List (Addr × Obj)} {σ : St} {H H' : Hp} {s : Shared} {b : Addr} (I : Inv X pins σ H s) (hb : s.heap.objs.size ≤ b) (hn : H' b = none) : FpOk X pins H' b := by
 refine ⟨hn, Nat.ne_of_gt (Nat.lt_of_lt_of_le I.lt hb), I.nofs hb, .inr (Nat.le_trans I.sz hb), fun x c e z => ?_, fun p hp z => ?_⟩
 · obtain ⟨v, q⟩ := I.cell x c e
   exact absurd (Nat.lt_of_lt_of_le q.lt (by rw [z]; exact hb)) (Nat.lt_irrefl _)
 · exact absurd (Nat.lt_of_lt_of_le (Heap.lt_size (I.pin p hp).1) (by rw [z]; exact hb)) (Nat.lt_irrefl _)
structure Turn (P : Program) (w : World) (K : W.Frag) (tg : Expr) (J : It) (fp : List Addr) (it : Addr) (tn : Nat → Heap → Prop) : Prop where
 mem : it ∈ fp
 obj : ∀ i h, tn i h → ∀ b ∈ fp, ∃ o, h.get? b = some o ∧ ∀ v, o.data ≠ .cell v
 keep : ∀ i h h', tn i h → (∀ b ∈ fp, ∀ o, h.get? b = some o → h'.get? b = some o) → tn i h'
 item : ∀ (X : Cx), X.prog = P → X.w = w → X.K = K → X.calm = true → ∀ (i : Nat) (pins : List (Addr × Obj)) (s : Shared) (σ : St) (H : Hp) (E : Value → Shared → Prop), Inv X pins σ H s → (∀ b ∈ fp, FpOk X pins H b) → tn i s.heap → J.go i H →
   wpAny (model P w) X.A (pyNext (.ref it)) (fun r s1 => ∃ u, r = some u ∧
     wpAny (model P w) X.A (letOwnedTupleGo tg (.ref it) u) (fun _ s2 => ∃ x H', Inv X pins σ H' s2 ∧ RelV x u ∧ J.yld i H x H' ∧ tn (i + 1) s2.heap ∧ ∀ b ∈ fp, H' b = none) E s1) E s
 done : ∀ (X : Cx), X.prog = P → X.w = w → X.K = K → X.calm = true → ∀ (i : Nat) (pins : List (Addr × Obj)) (s : Shared) (σ : St) (H : Hp) (E : Value → Shared → Prop), Inv X pins σ H s → (∀ b ∈ fp, FpOk X pins H b) → tn i s.heap → J.stop i H →
   wpAny (model P w) X.A (pyNext (.ref it)) (fun r s1 => r = none ∧ Inv X pins σ H s1) E s
 self : ∀ (A : Around) (i : Nat) (s : Shared) (Q : Value → Shared → Prop) (E : Value → Shared → Prop), tn i s.heap → Q (.ref it) s → wpAny (model P w) A (pyIter (.ref it)) Q E s
abbrev TI := St → Hp → (It → Hp → Prop) → Prop
def PIE (X : Cx) (pins : List (Addr × Obj)) (σ : St) (tg : Expr) (R : It → Hp → Prop) (itv : Value) (s2 : Shared) : Prop :=
 ∃ (it : Addr) (fp : List Addr) (tn : Nat → Heap → Prop) (J : It) (H' : Hp), itv = .ref it ∧ Inv X pins σ H' s2 ∧ Turn X.prog X.w X.K tg J fp it tn ∧ tn 0 s2.heap ∧ (∀ b ∈ fp, FpOk X pins H' b) ∧ R J H'
def PI (X : Cx) (tg iter : Expr) (wi : TI) : Prop :=
 ∀ (pins : List (Addr × Obj)) (s : Shared) (σ : St) (H : Hp) (R : It → Hp → Prop), Inv X pins σ H s → wi σ H R →
   wpAny (model X.prog X.w) X.A (eval iter X.env) (fun v s1 => wpAny (model X.prog X.w) X.A (pyIter v) (PIE X pins σ tg R) X.xe s1) X.xe s
theorem go_of {M : Model} {A : Around} {E : Value → Shared → Prop} {s : Shared} {tg : Expr} {it : Addr} {u : Value} {o : Obj} {n : String} {vs : Array Value} {Q : Unit → Shared → Prop} (ho : s.heap.get? it = some o) (hc : o.cls = .type n) (hd : o.data = .fields vs)
   (hn : ["enumerate", "zip", "dict_itemiterator", "dict_reverseitemiterator", "odict_iterator", "itertools.zip_longest", "itertools.pairwise"].contains n = false) (hQ : Q () s) : wpAny M A (letOwnedTupleGo tg (.ref it) u) Q E s := by
 unfold letOwnedTupleGo
 cases tg <;> first
   | exact wpAny_pure hQ
   | (cases u <;> first
       | exact wpAny_pure hQ
       | (refine wpAny_bind (wpAny_load ho ?_)
          rw [hc, hd]
          show wpAny M A (if (["enumerate", "zip", "dict_itemiterator", "dict_reverseitemiterator", "odict_iterator", "itertools.zip_longest", "itertools.pairwise"].contains n && vs[0]? == some (rawInt _)) = true then _ else _) Q E s
          rw [if_neg (by intro h; rw [hn, Bool.false_and] at h; cases h)]
          exact wpAny_pure hQ))
def Itl (K : W.Frag) (a : Addr) : It :=
 ⟨fun i H => ∃ xs x, SqL K H a xs ∧ xs[i]? = some x, fun i H x H' => H' = H ∧ ∀ xs, SqL K H a xs → xs[i]? = some x, fun i H => ∃ xs, SqL K H a xs ∧ xs.length ≤ i⟩
def Itt (K : W.Frag) (a : Addr) : It :=
 ⟨fun i H => ∃ xs x, SqT K H a xs ∧ xs[i]? = some x, fun i H x H' => H' = H ∧ ∀ xs, SqT K H a xs → xs[i]? = some x, fun i H => ∃ xs, SqT K H a xs ∧ xs.length ≤ i⟩
def Itr (lo : Int) (n : Nat) : It := ⟨fun i _ => i < n, fun i H x H' => H' = H ∧ x = .int (lo + i), fun i _ => n ≤ i⟩
theorem turn_list {P : Program} {w : World} {K : W.Frag} {tg : Expr} (a it : Addr) : Turn P w K tg (Itl K a) [it] it (fun i h => h.IsListIter it a i) where
 mem := by simp
 obj := fun i h st b hb => by
   have e : b = it := by simpa using hb
   subst e
   obtain ⟨o, e, c, d⟩ := st
   exact ⟨o, e, fun v z => by rw [d] at z; cases z⟩
 keep := fun i h h' st k => st.at fun o e => k it (by simp) o e
 item := by
   intro X hP hw hK hc i pins s σ H E I hf st hg
   subst hP hw hK
   obtain ⟨xs, x, hq, hx⟩ := hg
   obtain ⟨its, rv, p, hz⟩ := I.list hq
   obtain ⟨u, hu, ru⟩ := rv.get hx
   obtain ⟨f0, f1, f2, f3, f4, f5⟩ := hf it (by simp)
   refine wpAny_pyNext_list_item st p.isList (x := u) (by simpa using hu) fun h' st' sb => ?_
   have I1 : Inv X pins σ H { s with heap := h' } := I.turned (t' := s.toks) (fun b o hb e => (sb.2 b hb).trans e) f0 f1 f3 f4 f5
   obtain ⟨o, e, c, d⟩ := id st'
   exact ⟨u, rfl, go_of (s := { s with heap := h' }) e c d (by decide) ⟨x, H, I1, ru, ⟨rfl, fun ys hy => by rw [I.list_inj hy hq]; exact hx⟩, st', fun b hb => (hf b hb).1⟩⟩
 done := by
   intro X hP hw hK hc i pins s σ H E I hf st hg
   subst hP hw hK
   obtain ⟨xs, hq, hx⟩ := hg
   obtain ⟨its, rv, p, hz⟩ := I.list hq
   obtain ⟨f0, f1, f2, f3, f4, f5⟩ := hf it (by simp)
   have hl := rv.length
   exact wpAny_pyNext_list_end (I.ok.hd hc) st p.isList (by simp; omega) fun h' eb => ⟨rfl, I.turned (t' := s.toks) (fun b o hb e => eb b o hb e) f0 f1 f3 f4 f5⟩
 self := fun _ _ _ _ _ st h => wpAny_pyIter_listiter st h
theorem turn_tuple {P : Program} {w : World} {K : W.Frag} {tg : Expr} (a it : Addr) : Turn P w K tg (Itt K a) [it] it (fun i h => h.IsTupleIter it a i) where
 mem := by simp
 obj := fun i h st b hb => by
   have e : b = it := by simpa using hb
   subst e
   obtain ⟨o, e, c, d⟩ := st
   exact ⟨o, e, fun v z => by rw [d] at z; cases z⟩
 keep := fun i h h' st k => st.at fun o e => k it (by simp) o e
 item := by
   intro X hP hw hK hc i pins s σ H E I hf st hg
   subst hP hw hK
   obtain ⟨xs, x, hq, hx⟩ := hg
   obtain ⟨its, rv, p, hz⟩ := I.tuple hq
   obtain ⟨u, hu, ru⟩ := rv.get hx
   obtain ⟨f0, f1, f2, f3, f4, f5⟩ := hf it (by simp)
   refine wpAny_pyNext_tuple_item st (show s.heap.IsTuple a its.toArray from p) (x := u) (by simpa using hu) fun h' st' sb => ?_
   have I1 : Inv X pins σ H { s with heap := h' } := I.turned (t' := s.toks) (fun b o hb e => (sb.2 b hb).trans e) f0 f1 f3 f4 f5
   obtain ⟨o, e, c, d⟩ := id st'
   exact ⟨u, rfl, go_of (s := { s with heap := h' }) e c d (by decide) ⟨x, H, I1, ru, ⟨rfl, fun ys hy => by rw [I.tuple_inj hy hq]; exact hx⟩, st', fun b hb => (hf b hb).1⟩⟩
 done := by
   intro X hP hw hK hc i pins s σ H E I hf st hg
   subst hP hw hK
   obtain ⟨xs, hq, hx⟩ := hg
   obtain ⟨its, rv, p, hz⟩ := I.tuple hq
   obtain ⟨f0, f1, f2, f3, f4, f5⟩ := hf it (by simp)
   have hl := rv.length
   exact wpAny_pyNext_tuple_end (I.ok.hd hc) st (show s.heap.IsTuple a its.toArray from p) (by simp; omega) fun h' eb => ⟨rfl, I.turned (t' := s.toks) (fun b o hb e => eb b o hb e) f0 f1 f3 f4 f5⟩
 self := fun _ _ _ _ _ st h => wpAny_pyIter_tupleiter st h
theorem turn_range {P : Program} {w : World} {K : W.Frag} {tg : Expr} (it : Addr) (lo : Int) (n : Nat) : Turn P w K tg (Itr lo n) [it] it (fun i h => IsRangeIter h it (lo + (i : Nat) * 1) ((n : Int) - (i : Nat)) 1) where
 mem := by simp
 obj := fun i h st b hb => by
   have e : b = it := by simpa using hb
   subst e
   exact ⟨_, st, fun v z => by
     have z' : Data.fields _ = Data.cell v := z
     cases z'⟩
 keep := fun i h h' st k => k it (by simp) _ st
 item := by
   intro X hP hw hK hc i pins s σ H E I hf st hg
   subst hP hw hK
   obtain ⟨f0, f1, f2, f3, f4, f5⟩ := hf it (by simp)
   have W := Walks.range (prog := X.prog) (w := X.w) (I.ok.hd hc) it lo 1 n
   refine W.item i s _ _ hg st fun v h' tk hv st' kk => ?_
   obtain ⟨t, rfl⟩ := hv
   have I1 : Inv X pins σ H { s with heap := h', toks := tk } := I.turned (fun b o hb e => kk b o (by simpa using hb) e) f0 f1 f3 f4 f5
   refine ⟨_, rfl, go_of (s := { s with heap := h', toks := tk }) (n := "range_iterator") st' rfl rfl (by decide) ⟨.int (lo + i), H, I1, ⟨t, ?_⟩, ⟨rfl, rfl⟩, st', fun b hb => (hf b hb).1⟩⟩
   rw [Int.mul_one]
 done := by
   intro X hP hw hK hc i pins s σ H E I hf st hg
   subst hP hw hK
   obtain ⟨f0, f1, f2, f3, f4, f5⟩ := hf it (by simp)
   exact wpAny_pyNext_range_end (I.ok.hd hc) st (by have : n ≤ i := hg; omega) fun h' eb => ⟨rfl, I.turned (t' := s.toks) (fun b o hb e => eb b o hb e) f0 f1 f3 f4 f5⟩
 self := fun _ _ _ _ _ st h => wpAny_pyIter_rangeiter st h
end L2
namespace L2
open PySem PySem.Spec PyProof.Rows
section
variable {X : Cx} {tg : Expr}
def iList (K : W.Frag) (tl : TE) : TI := fun σ H R => tl σ H fun x H1 => ∃ a, x = .ref a ∧ (∃ xs, SqL K H1 a xs) ∧ R (Itl K a) H1
def iTup (K : W.Frag) (tl : TE) : TI := fun σ H R => tl σ H fun x H1 => ∃ a, x = .ref a ∧ (∃ xs, SqT K H1 a xs) ∧ R (Itt K a) H1
theorem pi_list {l : Expr} {tl : TE} (hl : PE X l tl) : PI X tg l (iList X.K tl) := by
 intro pins s σ H R I h
 refine thn (hl pins s σ H _ I h) fun v s1 ⟨x, H1, I1, r1, q1⟩ => ?_
 obtain ⟨a, e, ⟨xs, hq⟩, q⟩ := q1
 subst e
 cases r1
 obtain ⟨its, rv, p, hz⟩ := I1.list hq
 refine wpAny_pyIter_list p.isList ?_
 refine ⟨s1.heap.objs.size, [s1.heap.objs.size], _, _, H1, rfl, I1.kept (t' := s1.toks) fun b o e => Heap.get?_push_of_some _ e, turn_list a _, ⟨_, Heap.get?_push_size _ rfl, rfl, rfl⟩, fun b hb => ?_, q⟩
 have e : b = s1.heap.objs.size := by simpa using hb
 subst e
 exact I1.fpOk (Nat.le_refl _) (I1.hok.fresh (Nat.le_refl _))
theorem pi_tup {l : Expr} {tl : TE} (hl : PE X l tl) : PI X tg l (iTup X.K tl) := by
 intro pins s σ H R I h
 refine thn (hl pins s σ H _ I h) fun v s1 ⟨x, H1, I1, r1, q1⟩ => ?_
 obtain ⟨a, e, ⟨xs, hq⟩, q⟩ := q1
 subst e
 cases r1
 obtain ⟨its, rv, p, hz⟩ := I1.tuple hq
 refine wpAny_pyIter_tuple (show s1.heap.IsTuple a its.toArray from p) ?_
 refine ⟨s1.heap.objs.size, [s1.heap.objs.size], _, _, H1, rfl, I1.kept (t' := s1.toks) fun b o e => Heap.get?_push_of_some _ e, turn_tuple a _, ⟨_, Heap.get?_push_size _ rfl, rfl, rfl⟩, fun b hb => ?_, q⟩
 have e : b = s1.heap.objs.size := by simpa using hb
 subst e
 exact I1.fpOk (Nat.le_refl _) (I1.hok.fresh (Nat.le_refl _))
theorem range_it {pins : List (Addr × Obj)} {σ : St} {H : Hp} {s : Shared} {R : It → Hp → Prop} {E : Value → Shared → Prop} {lo hi : Int} {t u v : Tok} {tk : Nat} (I : Inv X pins σ H s) (h1 : -(2 ^ 62) ≤ lo) (h2 : lo < 2 ^ 62) (h3 : -(2 ^ 62) ≤ hi) (h4 : hi < 2 ^ 62)
   (q : R (Itr lo (hi - lo).toNat) H) : wpAny (model X.prog X.w) X.A (pyIter (.ref s.heap.objs.size)) (PIE X pins σ tg R) E { s with heap := s.heap.push { cls := .type "range", data := .fields #[.int lo t, .int hi u, .int 1 v] }, toks := tk } := by
 refine wpAny_pyIter_range (IsRange.new ..) (small_one h1 h2 h3 h4) ?_
 have I1 : Inv X pins σ H { s with heap := s.heap.push { cls := .type "range", data := .fields #[.int lo t, .int hi u, .int 1 v] }, toks := tk } := I.kept fun b o e => Heap.get?_push_of_some _ e
 refine ⟨(s.heap.push { cls := .type "range", data := .fields #[.int lo t, .int hi u, .int 1 v] }).objs.size, [(s.heap.push { cls := .type "range", data := .fields #[.int lo t, .int hi u, .int 1 v] }).objs.size], _, _, H, rfl,
   I1.kept (t' := tk) fun b o e => Heap.get?_push_of_some _ e, turn_range _ lo (hi - lo).toNat, ?_, fun b hb => ?_, q⟩
 · have e1 : lo + ((0 : Nat) : Int) * 1 = lo := by simp
   have e2 : (((hi - lo).toNat : Nat) : Int) - ((0 : Nat) : Int) = Builtin.Range.rangeSize lo hi 1 := by rw [rangeSize_one]; split <;> omega
   show IsRangeIter _ _ (lo + ((0 : Nat) : Int) * 1) ((((hi - lo).toNat : Nat) : Int) - ((0 : Nat) : Int)) 1
   rw [e1, e2]
   exact Heap.get?_push_size _ rfl
 · have e : b = (s.heap.push { cls := .type "range", data := .fields #[.int lo t, .int hi u, .int 1 v] }).objs.size := by simpa using hb
   subst e
   exact I1.fpOk (Nat.le_refl _) (I1.hok.fresh (Nat.le_refl _))
def iRng1 (ta : TA) : TI := fun σ H R => ta σ H fun vs H1 => ∃ j : Int, vs = [.int j] ∧ -(2 ^ 62) ≤ j ∧ j < 2 ^ 62 ∧ R (Itr 0 j.toNat) H1
def iRng2 (ta : TA) : TI := fun σ H R => ta σ H fun vs H1 => ∃ i j : Int, vs = [.int i, .int j] ∧ (-(2 ^ 62) ≤ i ∧ i < 2 ^ 62 ∧ -(2 ^ 62) ≤ j ∧ j < 2 ^ 62) ∧ R (Itr i (j - i).toNat) H1
theorem pi_range1 {a : Expr} {ta : TA} {p pos : Pos} (hg : Gl X "range") (hm : X.mg "range" = none) (ha : PA X [a] ta) (hs : starEach [a] X.env = [(false, eval a X.env)] := by rfl) : PI X tg (.Call (.Name "range" p) [a] [] pos) (iRng1 ta) := by
 intro pins s σ H R I h
 refine Call_ (ld_blt I hg hm boot_range (PyProof.Rows.callWith_type1 (thn (ha pos pins s σ H _ I h) fun us s1 ⟨vs, H1, I1, r1, q1⟩ => ?_) hs rfl))
 obtain ⟨j, e, q1, q2, q⟩ := q1
 subst e
 cases r1 with
 | cons r rr =>
   cases rr
   obtain ⟨t, rfl⟩ := r
   exact call_range_1 (range_it I1 (by omega) (by omega) q1 q2 (by simpa using q))
theorem pi_range2 {a b : Expr} {ta : TA} {p pos : Pos} (hg : Gl X "range") (hm : X.mg "range" = none) (ha : PA X [a, b] ta) (hs : starEach [a, b] X.env = [(false, eval a X.env), (false, eval b X.env)] := by rfl) (hs2 : starEach [b] X.env = [(false, eval b X.env)] := by rfl) :
   PI X tg (.Call (.Name "range" p) [a, b] [] pos) (iRng2 ta) := by
 intro pins s σ H R I h
 refine Call_ (ld_blt I hg hm boot_range (PyProof.Rows.callWith_type1 (thn (ha pos pins s σ H _ I h) fun us s1 ⟨vs, H1, I1, r1, q1⟩ => ?_) (by rw [hs, hs2]) (by rw [hs2]; rfl)))
 obtain ⟨i, j, e, ⟨q1, q2, q3, q4⟩, q⟩ := q1
 subst e
 cases r1 with
 | cons r rr =>
   cases rr with
   | cons r' rr =>
     cases rr
     obtain ⟨t, rfl⟩ := r
     obtain ⟨t', rfl⟩ := r'
     exact call_range_2 (range_it I1 q1 q2 q3 q4 q)
def tFor (wi : TI) (g : TG) (tb : TS) : TS := fun D σ H => wi σ H fun J H1 => ∃ W : Nat → Nat → St → Hp → Prop, (∃ m, W 0 m σ H1) ∧ ∀ i m σ H, W i m σ H →
 (J.stop i H ∧ D.nx σ H) ∨ (J.go i H ∧ ∃ N : St → Hp → Prop, (∀ σ' H', N σ' H' → ∃ m', m' < m ∧ W (i + 1) m' σ' H') ∧ ∀ x H', J.yld i H x H' → g x σ H' fun σ2 H2 => tb { D with nx := N, ct := N, bk := D.nx } σ2 H2)
def pinsAt (fp : List Addr) (h : Heap) : List (Addr × Obj) := fp.filterMap fun b => (h.get? b).map fun o => (b, o)
theorem mem_pinsAt {fp : List Addr} {h : Heap} {b : Addr} {o : Obj} (hb : b ∈ fp) (e : h.get? b = some o) : (b, o) ∈ pinsAt fp h := List.mem_filterMap.mpr ⟨b, hb, by rw [e]; rfl⟩
theorem of_pinsAt {fp : List Addr} {h : Heap} {p : Addr × Obj} (hp : p ∈ pinsAt fp h) : p.1 ∈ fp ∧ h.get? p.1 = some p.2 := by
 obtain ⟨b, hb, e⟩ := List.mem_filterMap.mp hp
 cases q : h.get? b with
 | none => rw [q] at e; cases e
 | some o =>
   rw [q] at e
   have e' : (b, o) = p := Option.some.inj e
   subst e'
   exact ⟨hb, q⟩
theorem Inv.pinned {pins : List (Addr × Obj)} {σ : St} {H : Hp} {s : Shared} {fp : List Addr} (I : Inv X pins σ H s) (hf : ∀ b ∈ fp, FpOk X pins H b) (ho : ∀ b ∈ fp, ∃ o, s.heap.get? b = some o ∧ ∀ v, o.data ≠ .cell v) : Inv X (pins ++ pinsAt fp s.heap) σ H s :=
 I.pins_of fun p hp => (List.mem_append.mp hp).elim (fun z => I.pin p (List.mem_append_right _ z)) fun z => by
   obtain ⟨hb, e⟩ := of_pinsAt z
   obtain ⟨f0, f1, f2, _⟩ := hf p.1 hb
   obtain ⟨o, e', d⟩ := ho p.1 hb
   rw [e] at e'; cases e'
   exact ⟨e, f0, f1, f2, d⟩
theorem Inv.unpinned {pins pl : List (Addr × Obj)} {σ : St} {H : Hp} {s : Shared} (I : Inv X (pins ++ pl) σ H s) : Inv X pins σ H s := I.pins_of fun p hp => I.pin p (List.mem_append_right _ (List.mem_append_left _ hp))
theorem ps_for {iter : Expr} {body : List Stmt} {wi : TI} {g : TG} {tb : TS} {pos : Pos} (hp : PassesOwn (model X.prog X.w) X.A X.env X.xe) (hc : X.calm = true) (hi : PI X tg iter wi) (hg : PG X tg g) (hb : PSs X body tb)
   (hs : ∀ x, foldedSetIterable iter X.env x = pure x := by intro _; rfl) : PS X (.For tg iter body [] pos) (tFor wi g tb) := by
 intro pins s σ H D I h
 refine wpAny_For (thn (hi pins s σ H _ I h) fun v s1 h1 => thn h1 fun itv s2 h2 => ?_) hs
 obtain ⟨it, fp, tn, J, H2, e, I2, T, st2, f2, W, ⟨m0, w0⟩, turn⟩ := h2
 subst e
 -- what stays true of the iterator's objects through the loop
 have stat : ∀ {H' : Hp}, (∀ b ∈ fp, H' b = none) → ∀ b ∈ fp, FpOk X pins H' b := fun hn b hb => ⟨hn b hb, (f2 b hb).2⟩
 refine codeAny_forLoop_any (fun n s' => ∃ i σ' H', Inv X pins σ' H' s' ∧ tn i s'.heap ∧ (∀ b ∈ fp, H' b = none) ∧ W i n σ' H') ?_ m0 ⟨0, σ, H2, I2, st2, fun b hb => (f2 b hb).1, w0⟩
 rintro n s3 ⟨i, σ3, H3, I3, st3, fr3, w3⟩
 rcases turn i n σ3 H3 w3 with ⟨stop, qn⟩ | ⟨go, N, hN, step⟩
 · refine wpAny_passesOwn hp (thn (T.done X rfl rfl rfl hc i pins s3 σ3 H3 X.xe I3 (stat fr3) st3 stop) fun r s4 ⟨hr, I4⟩ => ?_)
   subst hr
   exact wpAny_execs_nil ⟨σ3, H3, I4, qn⟩
 · refine wpAny_passesOwn hp (thn (T.item X rfl rfl rfl hc i pins s3 σ3 H3 X.xe I3 (stat fr3) st3 go) fun r s4 ⟨u, hr, h4⟩ => ?_)
   subst hr
   refine wpAny_passesOwn hp (thn h4 fun _ s5 ⟨x, H5, I5, r5, y5, st5, fr5⟩ => ?_)
   have I5' := I5.pinned (stat fr5) (T.obj _ _ st5)
   refine wpAny_passesOwn hp (thn (hg _ s5 σ3 H5 x u _ I5' r5 (step x H5 y5)) fun _ s6 ⟨σ6, H6, I6, q6⟩ => ?_)
   refine wpAny_passesOwn hp (thn (hb _ s6 σ6 H6 _ I6 q6) fun f s7 q7 => ?_)
   have again : ∀ {σ7 : St} {H7 : Hp}, Inv X (pins ++ pinsAt fp s5.heap) σ7 H7 s7 → N σ7 H7 → ∃ m, m < n ∧ ∃ i σ' H', Inv X pins σ' H' s7 ∧ tn i s7.heap ∧ (∀ b ∈ fp, H' b = none) ∧ W i m σ' H' := fun {σ7 H7} I7 n7 => by
     obtain ⟨m', hm, w7⟩ := hN σ7 H7 n7
     refine ⟨m', hm, i + 1, σ7, H7, I7.unpinned, T.keep _ _ _ st5 fun b hb o e => (I7.pin (b, o) (List.mem_append_right _ (List.mem_append_right _ (mem_pinsAt hb e)))).1, fun b hb => ?_, w7⟩
     obtain ⟨o, e, d⟩ := T.obj _ _ st5 b hb
     exact (I7.pin (b, o) (List.mem_append_right _ (List.mem_append_right _ (mem_pinsAt hb e)))).2.1
   cases f with
   | next => obtain ⟨σ7, H7, I7, n7⟩ := q7; exact again I7 n7
   | cont => obtain ⟨σ7, H7, I7, n7⟩ := q7; exact again I7 n7
   | brk => obtain ⟨σ7, H7, I7, q7⟩ := q7; exact ⟨σ7, H7, I7.unpinned, q7⟩
   | ret v => obtain ⟨x7, σ7, H7, I7, r7, q7⟩ := q7; exact ⟨x7, σ7, H7, I7.unpinned, r7, q7⟩
end
theorem for_list {K : W.Frag} {a : Addr} {xs : List V} {g : TG} {tb : TS} {D : Ends} {σ : St} {H : Hp} (Pv : Nat → St → Hp → Prop) (h0 : Pv 0 σ H) (hl : ∀ i σ H, i ≤ xs.length → Pv i σ H → SqL K H a xs)
   (hs : ∀ i x σ H, xs[i]? = some x → Pv i σ H → g x σ H fun σ2 H2 => tb { D with nx := Pv (i + 1), ct := Pv (i + 1), bk := D.nx } σ2 H2) (hd : ∀ σ H, Pv xs.length σ H → D.nx σ H) :
   ∃ W : Nat → Nat → St → Hp → Prop, (∃ m, W 0 m σ H) ∧ ∀ i m σ H, W i m σ H →
     ((Itl K a).stop i H ∧ D.nx σ H) ∨ ((Itl K a).go i H ∧ ∃ N : St → Hp → Prop, (∀ σ' H', N σ' H' → ∃ m', m' < m ∧ W (i + 1) m' σ' H') ∧ ∀ x H', (Itl K a).yld i H x H' → g x σ H' fun σ2 H2 => tb { D with nx := N, ct := N, bk := D.nx } σ2 H2) := by
 refine ⟨fun i m σ H => m = xs.length - i ∧ i ≤ xs.length ∧ Pv i σ H, ⟨xs.length, by simp, Nat.zero_le _, h0⟩, ?_⟩
 rintro i m σ H ⟨rfl, hi, p⟩
 have q := hl i σ H hi p
 by_cases hlt : i < xs.length
 · refine .inr ⟨⟨xs, xs[i], q, by simp [hlt]⟩, Pv (i + 1), fun σ' H' p' => ⟨xs.length - (i + 1), by omega, rfl, hlt, p'⟩, fun x H' y => ?_⟩
   obtain ⟨e, y⟩ := y
   subst e
   exact hs i x σ _ (y xs q) p
 · have e : i = xs.length := by omega
   subst e
   exact .inl ⟨⟨xs, q, Nat.le_refl _⟩, hd σ H p⟩
theorem for_tup {K : W.Frag} {a : Addr} {xs : List V} {g : TG} {tb : TS} {D : Ends} {σ : St} {H : Hp} (Pv : Nat → St → Hp → Prop) (h0 : Pv 0 σ H) (hl : ∀ i σ H, i ≤ xs.length → Pv i σ H → SqT K H a xs)
   (hs : ∀ i x σ H, xs[i]? = some x → Pv i σ H → g x σ H fun σ2 H2 => tb { D with nx := Pv (i + 1), ct := Pv (i + 1), bk := D.nx } σ2 H2) (hd : ∀ σ H, Pv xs.length σ H → D.nx σ H) :
   ∃ W : Nat → Nat → St → Hp → Prop, (∃ m, W 0 m σ H) ∧ ∀ i m σ H, W i m σ H →
     ((Itt K a).stop i H ∧ D.nx σ H) ∨ ((Itt K a).go i H ∧ ∃ N : St → Hp → Prop, (∀ σ' H', N σ' H' → ∃ m', m' < m ∧ W (i + 1) m' σ' H') ∧ ∀ x H', (Itt K a).yld i H x H' → g x σ H' fun σ2 H2 => tb { D with nx := N, ct := N, bk := D.nx } σ2 H2) := by
 refine ⟨fun i m σ H => m = xs.length - i ∧ i ≤ xs.length ∧ Pv i σ H, ⟨xs.length, by simp, Nat.zero_le _, h0⟩, ?_⟩
 rintro i m σ H ⟨rfl, hi, p⟩
 have q := hl i σ H hi p
 by_cases hlt : i < xs.length
 · refine .inr ⟨⟨xs, xs[i], q, by simp [hlt]⟩, Pv (i + 1), fun σ' H' p' => ⟨xs.length - (i + 1), by omega, rfl, hlt, p'⟩, fun x H' y => ?_⟩
   obtain ⟨e, y⟩ := y
   subst e
   exact hs i x σ _ (y xs q) p
 · have e : i = xs.length := by omega
   subst e
   exact .inl ⟨⟨xs, q, Nat.le_refl _⟩, hd σ H p⟩
theorem for_range {lo : Int} {n : Nat} {g : TG} {tb : TS} {D : Ends} {σ : St} {H : Hp} (Pv : Nat → St → Hp → Prop) (h0 : Pv 0 σ H)
   (hs : ∀ i σ H, i < n → Pv i σ H → g (.int (lo + i)) σ H fun σ2 H2 => tb { D with nx := Pv (i + 1), ct := Pv (i + 1), bk := D.nx } σ2 H2) (hd : ∀ σ H, Pv n σ H → D.nx σ H) :
   ∃ W : Nat → Nat → St → Hp → Prop, (∃ m, W 0 m σ H) ∧ ∀ i m σ H, W i m σ H →
     ((Itr lo n).stop i H ∧ D.nx σ H) ∨ ((Itr lo n).go i H ∧ ∃ N : St → Hp → Prop, (∀ σ' H', N σ' H' → ∃ m', m' < m ∧ W (i + 1) m' σ' H') ∧ ∀ x H', (Itr lo n).yld i H x H' → g x σ H' fun σ2 H2 => tb { D with nx := N, ct := N, bk := D.nx } σ2 H2) := by
 refine ⟨fun i m σ H => m = n - i ∧ i ≤ n ∧ Pv i σ H, ⟨n, by simp, Nat.zero_le _, h0⟩, ?_⟩
 rintro i m σ H ⟨rfl, hi, p⟩
 by_cases hlt : i < n
 · refine .inr ⟨hlt, Pv (i + 1), fun σ' H' p' => ⟨n - (i + 1), by omega, rfl, hlt, p'⟩, fun x H' y => ?_⟩
   obtain ⟨e, y⟩ := y
   subst e y
   exact hs i σ _ hlt p
 · have e : i = n := by omega
   subst e
   exact .inl ⟨Nat.le_refl _, hd σ H p⟩
end L2
namespace L2
open PySem PySem.Spec PyProof.Rows
abbrev R2 := V → V → Hp → VK → Prop
def OpR (X : Cx) (f : Value → Value → Sem Value) (r : R2) : Prop :=
 ∀ (pins : List (Addr × Obj)) (s : Shared) (σ : St) (H : Hp) (x y : V) (v u : Value) (Q : VK), Inv X pins σ H s → RelV x v → RelV y u → r x y H Q →
   wpAny (model X.prog X.w) X.A (f v u) (EP X pins σ Q) X.xe s
def UnR (X : Cx) (f : Value → Sem Value) (r : V → Hp → VK → Prop) : Prop :=
 ∀ (pins : List (Addr × Obj)) (s : Shared) (σ : St) (H : Hp) (x : V) (v : Value) (Q : VK), Inv X pins σ H s → RelV x v → r x H Q →
   wpAny (model X.prog X.w) X.A (f v) (EP X pins σ Q) X.xe s
def CallR (X : Cx) (f : Value) (r : List V → Hp → VK → Prop) : Prop :=
 ∀ (pins : List (Addr × Obj)) (s : Shared) (σ : St) (H : Hp) (xs : List V) (us : List Value) (Q : VK), Inv X pins σ H s → Vals xs us → r xs H Q →
   wpAny (model X.prog X.w) X.A (call f us) (EP X pins σ Q) X.xe s
def tOp (r : R2) (ta tb : TE) : TE := fun σ H Q => ta σ H fun x H1 => tb σ H1 fun y H2 => r x y H2 Q
def tUn (r : V → Hp → VK → Prop) (ta : TE) : TE := fun σ H Q => ta σ H fun x H1 => r x H1 Q
def rI (C : Int → Int → Prop) (g : Int → Int → V) : R2 := fun x y H Q => ∃ i j, x = .int i ∧ y = .int j ∧ C i j ∧ Q (g i j) H
def rI0 (g : Int → Int → V) : R2 := fun x y H Q => ∃ i j, x = .int i ∧ y = .int j ∧ Q (g i j) H
def rU (g : Int → V) : V → Hp → VK → Prop := fun x H Q => ∃ i, x = .int i ∧ Q (g i) H
section
variable {X : Cx} {a b c : Expr} {ta tb tc : TE} {pos : Pos}
theorem binT (ha : PE X a ta) (hb : PE X b tb) {pins : List (Addr × Obj)} {s : Shared} {σ : St} {H : Hp} {R : V → V → Hp → Prop} (I : Inv X pins σ H s)
   (h : ta σ H fun x H1 => tb σ H1 fun y H2 => R x y H2) {Q : Value → Shared → Prop} {f : Value → Value → Sem Value}
   (hf : ∀ v u s2 x y H2, Inv X pins σ H2 s2 → RelV x v → RelV y u → R x y H2 → wpAny (model X.prog X.w) X.A (f v u) Q X.xe s2) :
   wpAny (model X.prog X.w) X.A (eval a X.env) (fun v s₁ => wpAny (model X.prog X.w) X.A (eval b X.env) (fun u s₂ => wpAny (model X.prog X.w) X.A (f v u) Q X.xe s₂) X.xe s₁) X.xe s := by
 refine thn (ha pins s σ H _ I h) fun v s1 ⟨x, H1, I1, r1, q1⟩ => ?_
 refine thn (hb pins s1 σ H1 _ I1 q1) fun u s2 ⟨y, H2, I2, r2, q2⟩ => ?_
 exact hf v u s2 x y H2 I2 r1 r2 q2
theorem pe_op {op : Operator} {r : R2} (ho : OpR X (binaryOp op) r) (ha : PE X a ta) (hb : PE X b tb) : PE X (.BinOp a op b pos) (tOp r ta tb) := by
 intro pins s σ H Q I h
 exact wpAny_BinOp (binT ha hb I h fun v u s2 x y H2 I2 rx ry q => ho pins s2 σ H2 x y v u Q I2 rx ry q)
theorem pe_un {op : UnaryOp} {r : V → Hp → VK → Prop} (ho : UnR X (unaryOp op) r) (ha : PE X a ta) : PE X (.UnaryOp op a pos) (tUn r ta) := by
 intro pins s σ H Q I h
 exact UnaryOp_ (thn (ha pins s σ H _ I h) fun v s1 ⟨x, H1, I1, r1, q1⟩ => ho pins s1 σ H1 x v Q I1 r1 q1)
theorem opI {f : Value → Value → Sem Value} {C : Int → Int → Prop} {g : Int → Int → Int}
   (rule : ∀ (i j : Int) (t u : Tok) (s : Shared) (Q : Value → Shared → Prop) (E : Value → Shared → Prop), C i j → Q (.int (g i j) s.toks) { s with toks := s.toks + 1 } → wpAny (model X.prog X.w) X.A (f (.int i t) (.int j u)) Q E s) :
   OpR X f (rI C fun i j => .int (g i j)) := by
 intro pins s σ H x y v u Q I rx ry h
 obtain ⟨i, j, rfl, rfl, hc, q⟩ := h
 obtain ⟨t, rfl⟩ := rx
 obtain ⟨t', rfl⟩ := ry
 exact rule i j t t' s _ _ hc ⟨.int (g i j), H, I.tok _, ⟨_, rfl⟩, q⟩
theorem opI0 {f : Value → Value → Sem Value} {g : Int → Int → Int}
   (rule : ∀ (i j : Int) (t u : Tok) (s : Shared) (Q : Value → Shared → Prop) (E : Value → Shared → Prop), Q (.int (g i j) s.toks) { s with toks := s.toks + 1 } → wpAny (model X.prog X.w) X.A (f (.int i t) (.int j u)) Q E s) :
   OpR X f (rI0 fun i j => .int (g i j)) := by
 intro pins s σ H x y v u Q I rx ry h
 obtain ⟨i, j, rfl, rfl, q⟩ := h
 obtain ⟨t, rfl⟩ := rx
 obtain ⟨t', rfl⟩ := ry
 exact rule i j t t' s _ _ ⟨.int (g i j), H, I.tok _, ⟨_, rfl⟩, q⟩
theorem opB0 {f : Value → Value → Sem Value} {g : Int → Int → Bool}
   (rule : ∀ (i j : Int) (t u : Tok) (s : Shared) (Q : Value → Shared → Prop) (E : Value → Shared → Prop), Q (.bool (g i j)) s → wpAny (model X.prog X.w) X.A (f (.int i t) (.int j u)) Q E s) :
   OpR X f (rI0 fun i j => .bl (g i j)) := by
 intro pins s σ H x y v u Q I rx ry h
 obtain ⟨i, j, rfl, rfl, q⟩ := h
 obtain ⟨t, rfl⟩ := rx
 obtain ⟨t', rfl⟩ := ry
 exact rule i j t t' s _ _ ⟨.bl (g i j), H, I, rfl, q⟩
def CDiv (i j : Int) : Prop := 0 < j ∧ j < 1073741824
def CPow (i j : Int) : Prop := 0 ≤ j ∧ j ≤ 1000000 ∧ i.natAbs < 2 ^ 64
def CMul (i j : Int) : Prop := (-(2 ^ 64) < i ∧ i < 2 ^ 64) ∨ (-(2 ^ 64) < j ∧ j < 2 ^ 64)
theorem CMul.ok {i j : Int} (h : CMul i j) : IntMulOk i j := by
 rcases h with ⟨h1, h2⟩ | ⟨h1, h2⟩
 · exact .of_left (intBits_le_64 h1 h2)
 · exact .of_right (intBits_le_64 h1 h2)
theorem two_pow_nn (k : Nat) : (0 : Int) ≤ 2 ^ k := by
 rw [two_pow_cast]
 exact Int.natCast_nonneg _
theorem op_add : OpR X (binaryOp .Add) (rI0 fun i j => .int (i + j)) := opI0 fun _ _ _ _ _ _ _ q => add_int q
theorem op_sub : OpR X (binaryOp .Sub) (rI0 fun i j => .int (i - j)) := opI0 fun _ _ _ _ _ _ _ q => sub_int q
theorem op_mul : OpR X (binaryOp .Mult) (rI CMul fun i j => .int (i * j)) := opI fun _ _ _ _ _ _ _ hc q => mul_int q hc.ok
theorem op_fdiv : OpR X (binaryOp .FloorDiv) (rI CDiv fun i j => .int (i / j)) := opI fun i j _ _ _ _ _ hc q => by
 have h1 : (0 : Int) < j := hc.1
 have h2 : j < 1073741824 := hc.2
 exact floordiv_int (by omega) (by rw [Int.fdiv_eq_ediv_of_nonneg i (by omega)]; exact q) (.inl (PyProof.noPylong_small (by omega)))
theorem op_mod : OpR X (binaryOp .Mod) (rI (fun _ j => 0 < j) fun i j => .int (i % j)) := opI fun i j _ _ _ _ _ hc q => by
 have h1 : (0 : Int) < j := hc
 exact mod_int' (by omega) (by rw [Int.fmod_eq_emod_of_nonneg i (by omega)]; exact q)
theorem op_shl : OpR X (binaryOp .LShift) (rI CPow fun i j => .int (i * 2 ^ j.toNat)) := opI fun _ _ _ _ _ _ _ hc q => lshift_int_small hc.1 hc.2.1 hc.2.2 q
theorem op_shr : OpR X (binaryOp .RShift) (rI (fun _ j => 0 ≤ j) fun i j => .int (i / 2 ^ j.toNat)) := opI fun i j _ _ _ _ _ hc q =>
 rshift_int hc (by rw [Int.fdiv_eq_ediv_of_nonneg i (two_pow_nn _)]; exact q)
theorem op_and : OpR X (binaryOp .BitAnd) (rI0 fun i j => .int (Builtin.bitAnd i j)) := opI0 fun _ _ _ _ _ _ _ q => and_int q
theorem unI {f : Value → Sem Value} {g : Int → Int}
   (rule : ∀ (i : Int) (t : Tok) (s : Shared) (Q : Value → Shared → Prop) (E : Value → Shared → Prop), Q (.int (g i) s.toks) { s with toks := s.toks + 1 } → wpAny (model X.prog X.w) X.A (f (.int i t)) Q E s) :
   UnR X f (rU fun i => .int (g i)) := by
 intro pins s σ H x v Q I rx h
 obtain ⟨i, rfl, q⟩ := h
 obtain ⟨t, rfl⟩ := rx
 exact rule i t s _ _ ⟨.int (g i), H, I.tok _, ⟨_, rfl⟩, q⟩
theorem un_neg : UnR X (unaryOp .USub) (rU fun i => .int (-i)) := unI fun _ _ _ _ _ q => neg_int q
end
def scal : V → V → Bool
 | .non, .non => true | .non, .int _ => true | .int _, .non => true | .non, .bl _ => true | .bl _, .non => true | .non, .str _ => true | .str _, .non => true
 | .int _, .int _ => true | .bl _, .bl _ => true | .str _, .str _ => true | .byt _, .byt _ => true
 | .int _, .str _ => true | .str _, .int _ => true | .bl _, .str _ => true | .str _, .bl _ => true
 | _, _ => false
def rEq : R2 := fun x y H Q => scal x y = true ∧ Q (.bl (decide (x = y))) H
def rNe : R2 := fun x y H Q => scal x y = true ∧ Q (.bl (!decide (x = y))) H
theorem dec_int {i j : Int} : decide (V.int i = V.int j) = (i == j) := by
 rw [Bool.eq_iff_iff]
 simp
theorem dec_bl {i j : Bool} : decide (V.bl i = V.bl j) = (i == j) := by
 rw [Bool.eq_iff_iff]
 simp
theorem dec_str {i j : Str} : decide (V.str i = V.str j) = (i == j) := by
 rw [Bool.eq_iff_iff]
 simp
theorem dec_byt {i j : Array UInt8} : decide (V.byt i = V.byt j) = (i.toList == j.toList) := by
 rw [Bool.eq_iff_iff]
 cases i
 cases j
 simp
section
variable {X : Cx} {a b c : Expr} {ta tb tc : TE} {pos : Pos}
theorem fin_bl {pins : List (Addr × Obj)} {σ : St} {H : Hp} {s : Shared} {Q : VK} {k k' : Bool} (I : Inv X pins σ H s) (q : Q (.bl k) H) (e : k = k') : EP X pins σ Q (.bool k') s := by
 subst e
 exact ⟨.bl k, H, I, rfl, q⟩
theorem op_eq : OpR X (compareOp .Eq) rEq := by
 intro pins s σ H x y v u Q I rx ry h
 obtain ⟨hs, q⟩ := h
 cases x with
 | non =>
   cases rx
   cases y with
   | non => cases ry; exact PySem.EqNone.eq_none_none (fin_bl I q (by simp))
   | bl j => cases ry; exact PySem.EqNone.eq_none_bool (fin_bl I q (by simp))
   | int j => obtain ⟨t', rfl⟩ := ry; exact PySem.EqNone.eq_none_int (fin_bl I q (by simp))
   | str j => obtain ⟨t', rfl⟩ := ry; exact PySem.EqNone.eq_none_str (fin_bl I q (by simp))
   | _ => exact absurd (show false = true from hs) Bool.false_ne_true
 | bl i =>
   cases rx
   cases y with
   | non => cases ry; exact PySem.EqNone.eq_bool_none (fin_bl I q (by simp))
   | bl j => cases ry; exact eq_bool (fin_bl I q dec_bl)
   | str j => obtain ⟨t', rfl⟩ := ry; exact PySem.EqMixed.eq_bool_str (fin_bl I q (by simp))
   | _ => exact absurd (show false = true from hs) Bool.false_ne_true
 | int i =>
   obtain ⟨t, rfl⟩ := rx
   cases y with
   | non => cases ry; exact PySem.EqNone.eq_int_none (fin_bl I q (by simp))
   | int j => obtain ⟨t', rfl⟩ := ry; exact eq_int (fin_bl I q dec_int)
   | str j => obtain ⟨t', rfl⟩ := ry; exact PySem.EqMixed.eq_int_str (fin_bl I q (by simp))
   | _ => exact absurd (show false = true from hs) Bool.false_ne_true
 | str i =>
   obtain ⟨t, rfl⟩ := rx
   cases y with
   | non => cases ry; exact PySem.EqNone.eq_str_none (fin_bl I q (by simp))
   | bl j => cases ry; exact PySem.EqMixed.eq_str_bool (fin_bl I q (by simp))
   | int j => obtain ⟨t', rfl⟩ := ry; exact PySem.EqMixed.eq_str_int (fin_bl I q (by simp))
   | str j => obtain ⟨t', rfl⟩ := ry; exact eq_str (fin_bl I q dec_str)
   | _ => exact absurd (show false = true from hs) Bool.false_ne_true
 | byt i =>
   obtain ⟨t, rfl⟩ := rx
   cases y with
   | byt j => obtain ⟨t', rfl⟩ := ry; exact W.eq_bytes (fin_bl I q dec_byt)
   | _ => exact absurd (show false = true from hs) Bool.false_ne_true
 | _ => cases y <;> exact absurd (show false = true from hs) Bool.false_ne_true
theorem op_ne : OpR X (compareOp .NotEq) rNe := by
 intro pins s σ H x y v u Q I rx ry h
 obtain ⟨hs, q⟩ := h
 cases x with
 | non =>
   cases rx
   cases y with
   | non => cases ry; exact PySem.EqNone.ne_none_none (fin_bl I q (by simp))
   | bl j => cases ry; exact PySem.EqNone.ne_none_bool (fin_bl I q (by simp))
   | int j => obtain ⟨t', rfl⟩ := ry; exact PySem.EqNone.ne_none_int (fin_bl I q (by simp))
   | str j => obtain ⟨t', rfl⟩ := ry; exact PySem.EqNone.ne_none_str (fin_bl I q (by simp))
   | _ => exact absurd (show false = true from hs) Bool.false_ne_true
 | bl i =>
   cases rx
   cases y with
   | non => cases ry; exact PySem.EqNone.ne_bool_none (fin_bl I q (by simp))
   | bl j => cases ry; exact ne_bool (fin_bl I q (congrArg not dec_bl))
   | str j => obtain ⟨t', rfl⟩ := ry; exact PySem.EqMixed.ne_bool_str (fin_bl I q (by simp))
   | _ => exact absurd (show false = true from hs) Bool.false_ne_true
 | int i =>
   obtain ⟨t, rfl⟩ := rx
   cases y with
   | non => cases ry; exact PySem.EqNone.ne_int_none (fin_bl I q (by simp))
   | int j => obtain ⟨t', rfl⟩ := ry; exact ne_int (fin_bl I q (congrArg not dec_int))
   | str j => obtain ⟨t', rfl⟩ := ry; exact PySem.EqMixed.ne_int_str (fin_bl I q (by simp))
   | _ => exact absurd (show false = true from hs) Bool.false_ne_true
 | str i =>
   obtain ⟨t, rfl⟩ := rx
   cases y with
   | non => cases ry; exact PySem.EqNone.ne_str_none (fin_bl I q (by simp))
   | bl j => cases ry; exact PySem.EqMixed.ne_str_bool (fin_bl I q (by simp))
   | int j => obtain ⟨t', rfl⟩ := ry; exact PySem.EqMixed.ne_str_int (fin_bl I q (by simp))
   | str j => obtain ⟨t', rfl⟩ := ry; exact ne_str (fin_bl I q (congrArg not dec_str))
   | _ => exact absurd (show false = true from hs) Bool.false_ne_true
 | byt i =>
   obtain ⟨t, rfl⟩ := rx
   cases y with
   | byt j => obtain ⟨t', rfl⟩ := ry; exact W.ne_bytes (fin_bl I q (congrArg not dec_byt))
   | _ => exact absurd (show false = true from hs) Bool.false_ne_true
 | _ => cases y <;> exact absurd (show false = true from hs) Bool.false_ne_true
theorem op_lt : OpR X (compareOp .Lt) (rI0 fun i j => .bl (decide (i < j))) := opB0 fun _ _ _ _ _ _ _ q => lt_int q
theorem op_le : OpR X (compareOp .LtE) (rI0 fun i j => .bl (decide (i ≤ j))) := opB0 fun _ _ _ _ _ _ _ q => le_int q
theorem op_gt : OpR X (compareOp .Gt) (rI0 fun i j => .bl (decide (j < i))) := opB0 fun _ _ _ _ _ _ _ q => gt_int q
theorem op_in_str : OpR X (compareOp .In) (fun x y H Q => ∃ i j, x = .str i ∧ y = .str j ∧ Q (.bl (!(Builtin.Str.occurrences j i 0 j.length 1).isEmpty)) H) := by
 intro pins s σ H x y v u Q I rx ry h
 obtain ⟨i, j, rfl, rfl, q⟩ := h
 obtain ⟨t, rfl⟩ := rx
 obtain ⟨t', rfl⟩ := ry
 exact in_str (fin_bl I q rfl)
theorem nomark (b : Expr) {op : CmpOp} (h : op ≠ .In := by decide) (h2 : op ≠ .NotIn := by decide) : behindInMarks op b = false := by
 have e1 : (op == CmpOp.In) = false := by cases op <;> first | rfl | exact absurd rfl h
 have e2 : (op == CmpOp.NotIn) = false := by cases op <;> first | rfl | exact absurd rfl h2
 cases b <;> simp [behindInMarks, e1, e2]
theorem pe_cmpR {op : CmpOp} {r : R2} (ho : OpR X (compareOp op) r) (ha : PE X a ta) (hb : PE X b tb) (hm : behindInMarks op b = false) : PE X (.Compare a [op] [b] pos) (tOp r ta tb) := by
 intro pins s σ H Q I h
 exact wpAny_Compare1 (binT ha hb I h fun v u s2 x y H2 I2 rx ry q => ho pins s2 σ H2 x y v u Q I2 rx ry q) hm
def tTest (t : TE) : TT := fun σ H Q => t σ H fun x H' => ∃ k, x = .bl k ∧ Q k H'
theorem pt_cmpR {op : CmpOp} {r : R2} (ho : OpR X (compareOp op) r) (ha : PE X a ta) (hb : PE X b tb) (hm : behindInMarks op b = false) : PT X (.Compare a [op] [b] pos) (tTest (tOp r ta tb)) := by
 intro pins s σ H Q I h
 refine wpAny_isTrue_Compare1 (thn (ha pins s σ H _ I h) fun v s1 ⟨x, H1, I1, r1, q1⟩ => thn (hb pins s1 σ H1 _ I1 q1) fun u s2 ⟨y, H2, I2, r2, q2⟩ =>
   thn (ho pins s2 σ H2 x y v u _ I2 r1 r2 q2) fun c s3 ⟨z, H3, I3, r3, k, e, q3⟩ => ?_) hm
 subst e
 cases r3
 exact wpAny_truthy_bool ⟨H3, I3, q3⟩
def tChain (r r' : R2) (ta tb tc : TE) : TE := fun σ H Q => ta σ H fun x H1 => tb σ H1 fun y H2 => r x y H2 fun z H3 => ∃ k, z = .bl k ∧
 (if k = true then tc σ H3 fun w' H4 => r' y w' H4 Q else Q (.bl false) H3)
theorem pt_chain {op op' : CmpOp} {r r' : R2} (ho : OpR X (compareOp op) r) (ho' : OpR X (compareOp op') r') (ha : PE X a ta) (hb : PE X b tb) (hc : PE X c tc)
   (hm : lastMarks [op, op'] [b, c] = false := by with_unfolding_all rfl) : PT X (.Compare a [op, op'] [b, c] pos) (tTest (tChain r r' ta tb tc)) := by
 intro pins s σ H Q I h
 refine isTrue_chain (thn (ha pins s σ H _ I h) fun v s1 ⟨x, H1, I1, r1, q1⟩ => test_link (thn (hb pins s1 σ H1 _ I1 q1) fun u s2 ⟨y, H2, I2, r2, q2⟩ =>
   thn (ho pins s2 σ H2 x y v u _ I2 r1 r2 q2) fun d s3 ⟨z, H3, I3, r3, k, e, q3⟩ => ?_)) hm
 subst e
 cases r3
 refine wpAny_truthy_bool ?_
 cases k with
 | false =>
   obtain ⟨k', e', q'⟩ := q3
   cases e'
   exact ite_ff ⟨H3, I3, q'⟩
 | true =>
   refine ite_tt (test_last (thn (hc pins s3 σ H3 _ I3 q3) fun w' s4 ⟨z', H4, I4, r4, q4⟩ => thn (ho' pins s4 σ H4 y z' u w' _ I4 r2 r4 q4) fun d' s5 ⟨z2, H5, I5, r5, k2, e2, q5⟩ => ?_))
   subst e2
   cases r5
   exact wpAny_truthy_bool ⟨H5, I5, q5⟩
theorem line63 : (sizeLine : Nat) < 2 ^ 63 := by rw [sizeLine_eq]; decide
theorem op_add_str : OpR X (binaryOp .Add) (fun x y H Q => ∃ i j, x = .str i ∧ y = .str j ∧ i.length + j.length ≤ sizeLine ∧ Q (.str (i ++ j)) H) := by
 intro pins s σ H x y v u Q I rx ry h
 obtain ⟨i, j, rfl, rfl, hz, q⟩ := h
 obtain ⟨t, rfl⟩ := rx
 obtain ⟨t', rfl⟩ := ry
 exact add_str (fun t' tk => ⟨.str (i ++ j), H, I.tok _, ⟨_, rfl⟩, q⟩) hz
theorem vals1 {x : V} {us : List Value} (r : Vals [x] us) : ∃ u, us = [u] ∧ RelV x u := by
 cases r with
 | cons r1 r2 => cases r2; exact ⟨_, rfl, r1⟩
theorem vals2 {x y : V} {us : List Value} (r : Vals [x, y] us) : ∃ u w', us = [u, w'] ∧ RelV x u ∧ RelV y w' := by
 cases r with
 | cons r1 r2 =>
   cases r2 with
   | cons r3 r4 => cases r4; exact ⟨_, _, rfl, r1, r3⟩
theorem call_min2 (hc : X.calm = true) : CallR X (.builtin "min") (fun xs H Q => ∃ i j, xs = [.int i, .int j] ∧ Q (.int (if j < i then j else i)) H) := by
 intro pins s σ H xs us Q I r h
 obtain ⟨i, j, rfl, q⟩ := h
 obtain ⟨u, w', rfl, ⟨t, rfl⟩, ⟨t', rfl⟩⟩ := vals2 r
 refine min_two_ints (I.ok.hd hc) fun h' tk k => ⟨_, H, I.kept k, ?_, q⟩
 by_cases hj : j < i
 · rw [if_pos hj, if_pos hj]; exact ⟨_, rfl⟩
 · rw [if_neg hj, if_neg hj]; exact ⟨_, rfl⟩
theorem call_str_int : CallR X (.type "str") (fun xs H Q => ∃ i, xs = [.int i] ∧ i.natAbs.log2 < 1920 ∧ Q (.str (toString i)) H) := by
 intro pins s σ H xs us Q I r h
 obtain ⟨i, rfl, hz, q⟩ := h
 obtain ⟨u, rfl, t, rfl⟩ := vals1 r
 exact PySem.P.str_of_int hz ⟨.str _, H, I.tok _, ⟨_, rfl⟩, q⟩
end
end L2
namespace L2
open PySem PySem.Spec PyProof.Rows
structure ObjM (h : Heap) (x dx C : Addr) (mA : Str → Option Value) : Prop where
 obj : h.get? x = some (W.instObj C dx)
 ns : h.Ns1 dx mA
 ne : dx ≠ x
theorem lookIn_ns {h : Heap} {dx : Addr} {mA : Str → Option Value} (n : h.Ns1 dx mA) : ∃ od, h.get? dx = some od ∧ ∀ name, W.lookIn name od = some (mA name) := by
 obtain ⟨o, es, ep, ho, hd, hk, _, hm⟩ := n
 refine ⟨o, ho, fun name => ?_⟩
 have e := hm name
 unfold nsFind findBy at e
 rw [← Array.find?_toList] at e
 unfold W.lookIn
 rw [hd]
 dsimp only
 split
 · rename_i y q
   rw [q] at e
   exact congrArg some e
 · rename_i q
   rw [q] at e
   have a : es.toList.any (·.refKey) = false := by
     rw [List.any_eq_false]
     intro y hy
     obtain ⟨z, t, hkey⟩ := hk y (Array.mem_toList_iff.mp hy)
     simp [DictEntry.refKey, hkey]
   have a' : ¬ es.toList.any (·.refKey) = true := by rw [a]; exact Bool.false_ne_true
   rw [if_neg a']
   exact congrArg some e
theorem ObjM.look {h : Heap} {x dx C : Addr} {mA : Str → Option Value} (I : ObjM h x dx C mA) : ∃ od, W.InstAt h x (W.instObj C dx) C (some od) ∧ ∀ name, W.lookIn name od = some (mA name) :=
 let ⟨od, ho, hl⟩ := lookIn_ns I.ns
 ⟨od, ⟨I.obj, rfl, rfl, ho⟩, hl⟩
section
variable {prog : Program} {w : World} {A : Around} {E : Value → Shared → Prop} {s : Shared} {K : W.Frag} {x dx C f : Addr} {mA : Str → Option Value} {name : Str} {v : Value}
theorem get_meth {pl : Sem Bool} {Q : Value × List Value → Shared → Prop} (X : K.In s.heap) (I : ObjM s.heap x dx C mA) (hg : W.plainGet K C name = true)
   (hf : W.findIn K (.ref C) name = some (some (.ref f))) (ht : W.isFn K (.ref f) = true) (hv : mA name = none) (h : Q (.ref f, [.ref x]) s) :
   wpAny (model prog w) A (getMethod (.ref x) name pl) Q E s := by
 obtain ⟨od, J, hl⟩ := I.look
 exact W.method_fn X J (W.plainGet_of hg).1 (W.plainGet_of hg).2 hf (beq_iff_eq.mp ht) (by show (W.lookIn name od).map (·.isSome) = some false; rw [hl, hv]; rfl) h
theorem make_map0 {R : Result → Shared → Prop} (X : K.In s.heap) (hm : W.makesIn K C = true)
   (hi : W.findIn K (.ref C) "__init__" = some (some (.builtin "object.__init__")))
   (hb : ∀ self, W.Looks (model prog w) s.heap (bindSpecial (.builtin "object.__init__") self) (.builtin "object.__init__", [self]))
   (h : codeAny (model prog w) (A.under (.builtin "type.__call__" ⟨[.ref C], []⟩)) (.call (.builtin "object.__init__") ⟨[.ref (s.heap.objs.size + 1)], []⟩) (W.InitBack (s.heap.objs.size + 1) R)
     { s with heap := (s.heap.push W.emptyDict).push (W.instObj C s.heap.objs.size) }) :
   codeAny (model prog w) A (.call (.ref C) ⟨[], []⟩) R s := by
 obtain ⟨hh, g, d, t, os⟩ := s
 exact W.make_core (W.makes_of X hm) (W.looks_findIn X hi) hb (.inr ⟨rfl, rfl⟩) h
end
theorem RelO.none_of {o : Option Value} (r : RelO none o) : o = none := by
 cases o with
 | none => rfl
 | some u => exact (show False from r).elim
section
variable {P : Program} {w : World} {H H' : Hp} {h h' : Heap} {a C dx : Addr} {fs fs' : List (Str × V)}
theorem ins_get (hok : HOk P w H h) (e : H a = some (.ins C dx fs)) : ∃ mA, ObjM h a dx C mA ∧ (∀ f, RelO (fs.lookup f) (mA f)) ∧ PySem.Within mA (fs.map (·.1)) ∧ fs.length ≤ 1000 ∧ H dx = some (.own a) := by
 obtain ⟨d, z, ne, ob, mA, n, r, q⟩ := (show ObjOk P w H h a (.ins C dx fs) from hok a _ e)
 exact ⟨mA, ⟨ob, n, ne⟩, r, q, z, d⟩
end
structure Cls (K : W.Frag) (C : Addr) : Prop where
 pg : W.plainGet K C Str.empty = true
 hd : W.hasDictIn K C = true
 po : W.plainOver K C = true
 sa : W.findIn K (.ref C) "__setattr__" = some (some (.builtin "object.__setattr__"))
theorem Cls.get {K : W.Frag} {C : Addr} (c : Cls K C) (f : Str) : W.plainGet K C f = true := c.pg
structure Con (K : W.Frag) (C : Addr) (f : Str) (v : V) (u : Value) : Prop where
 at_ : W.findIn K (.ref C) f = some (some u)
 rel : RelV v u
 get : W.specialIn K u "__get__" = some none
 cp : W.copiedNames.contains f = false
structure Meth (K : W.Frag) (C : Addr) (m : Str) (f : Addr) : Prop where
 at_ : W.findIn K (.ref C) m = some (some (.ref f))
 fn : W.isFn K (.ref f) = true
 kp : W.keepIn K (.ref f) = true
section
variable {X : Cx} {pins : List (Addr × Obj)} {σ : St} {H : Hp} {s : Shared} {a C dx : Addr} {fs : List (Str × V)} {f : Str} {v : V} {A : Around} {E : Value → Shared → Prop}
theorem getmeth_ok {m : Str} {g : Addr} {pl : Sem Bool} {Q : Value × List Value → Shared → Prop} (I : Inv X pins σ H s) (e : H a = some (.ins C dx fs)) (c : Cls X.K C) (k : Meth X.K C m g) (l : fs.lookup m = none)
   (h : Q (.ref g, [.ref a]) s) : wpAny (model X.prog X.w) A (getMethod (.ref a) m pl) Q E s := by
 obtain ⟨mA, O, r, _, _, _⟩ := ins_get I.hok e
 have hn : mA m = none := RelO.none_of (by rw [← l]; exact r m)
 exact get_meth I.kIn O (c.get m) k.at_ k.fn hn h
theorem Inv.made (I : Inv X pins σ H s) : Inv X pins σ (upd (upd H s.heap.objs.size (.own (s.heap.objs.size + 1))) (s.heap.objs.size + 1) (.ins C s.heap.objs.size []))
   { s with heap := (s.heap.push W.emptyDict).push (W.instObj C s.heap.objs.size) } := by
 have e1 : (s.heap.push W.emptyDict).get? s.heap.objs.size = some W.emptyDict := Heap.get?_push_size s.heap rfl
 have e2 : ((s.heap.push W.emptyDict).push (W.instObj C s.heap.objs.size)).get? (s.heap.objs.size + 1) = some (W.instObj C s.heap.objs.size) := by
   have := Heap.get?_push_size (s.heap.push W.emptyDict) (o := W.instObj C s.heap.objs.size) rfl
   rwa [Heap.size_push] at this
 have e3 : (s.heap.push W.emptyDict).Ns s.heap.objs.size (fun _ => none) := ⟨W.emptyDict, #[], _, e1, rfl, (fun e he => absurd he (by simp)), fun _ => rfl⟩
 have I1 := I.laid (a := s.heap.objs.size) (o := .own (s.heap.objs.size + 1)) (h' := s.heap.push W.emptyDict) (t' := s.toks) (fun b u q => Heap.get?_push_of_some _ q) (Nat.le_refl _) ⟨_, e1⟩
 refine I1.laid (a := s.heap.objs.size + 1) (o := .ins C s.heap.objs.size []) (t' := s.toks) (fun b u q => Heap.get?_push_of_some _ q) (Nat.le_of_eq (Heap.size_push _ _)) ?_
 have ne : s.heap.objs.size ≠ s.heap.objs.size + 1 := Nat.ne_of_lt (Nat.lt_succ_self _)
 refine ⟨by rw [upd_ne ne, upd_same], Nat.zero_le _, ne, e2, fun _ => none, (Heap.Ns1.of_empty e3).at fun o q => Heap.get?_push_of_some _ q, fun _ => True.intro, fun y hy => absurd rfl hy⟩
end
section
variable {X : Cx} {pins : List (Addr × Obj)} {σ : St} {H : Hp} {s : Shared} {A : Around} {E : Value → Shared → Prop} {Q : Value → Shared → Prop} {c : Value} {b : Bool}
inductive TyOf (K : W.Frag) (H : Hp) : V → Value → Prop where
 | non : TyOf K H .non (.type "NoneType")
 | bl (x : Bool) : TyOf K H (.bl x) (.type "bool")
 | int (i : Int) : TyOf K H (.int i) (.type "int")
 | str (x : Str) : TyOf K H (.str x) (.type "str")
 | flt (x : UInt64) : TyOf K H (.flt x) (.type "float")
 | lst {a : Addr} {xs : List V} (e : H a = some (.lst xs)) : TyOf K H (.ref a) (.type "list")
 | frz {a : Addr} {o : Obj} {xs : List V} (e : H a = some (.frz o (.lst xs))) : TyOf K H (.ref a) (.type "list")
 | tup {a : Addr} {xs : List V} (e : H a = some (.tup xs)) : TyOf K H (.ref a) (.type "tuple")
 | dK {a : Addr} {kvs : List (Key × V)} (e : H a = some (.dK kvs)) : TyOf K H (.ref a) (.type "dict")
 | dT {a : Addr} {kvs : List (List Key × V)} (e : H a = some (.dT kvs)) : TyOf K H (.ref a) (.type "dict")
 | ins {a C dx : Addr} {fs : List (Str × V)} (e : H a = some (.ins C dx fs)) (cl : Cls K C) (ha : W.findIn K (.ref C) "__class__" = some (some (.builtin "object.__class__")))
     (hn : W.specialIn K (.builtin "object.__class__") "__get__" = some (some (.builtin "getset_descriptor.__get__"))) (htk : W.takesIn K (.builtin "object.__class__") = some true)
     (hm : W.mroIn K C (.type "object") = some true) : TyOf K H (.ref a) (.ref C)
end
end L2
namespace L2
open PySem PySem.Spec PyProof.Rows
structure Room (k : Nat) (A : Around) : Prop where
 hd : A.handled = none
 dp : A.depth + 3 * k + 5 < recursionLimit
 un : A.units + 16 * k + 200 < cLine
theorem Room.mono {j k : Nat} {A : Around} (r : Room k A) (h : j ≤ k) : Room j A := ⟨r.hd, by have := r.dp; omega, by have := r.un; omega⟩
theorem Room.deeper {k : Nat} {A : Around} (r : Room (k + 1) A) (env : Env) : Room k (A.deeper env) :=
 ⟨r.hd, by have := r.dp; show A.depth + 1 + 3 * k + 5 < _; omega, by have := r.un; show A.units + 3 + 16 * k + 200 < _; omega⟩
theorem Room.depth {k : Nat} {A : Around} (r : Room k A) : A.depth < recursionLimit := by have := r.dp; omega
theorem Room.units {k : Nat} {A : Around} (r : Room k A) : A.units + 64 < cLine := by have := r.un; omega
def tNil : TA := fun _ H Q => Q [] H
def tCons (ta : TE) (tr : TA) : TA := fun σ H Q => ta σ H fun x H1 => tr σ H1 fun xs H2 => Q (x :: xs) H2
section
variable {X : Cx} {e : Expr} {es : List Expr} {te : TE} {t : TA} {pos : Pos}
theorem pa_nil : PA X [] tNil := fun _ _ _ _ H Q I h => Calls.spliced_nil ⟨[], H, I, .nil, h⟩
theorem pa_cons (ha : PE X e te) (hr : PA X es t) (hs : starEach (e :: es) X.env = (false, eval e X.env) :: starEach es X.env := by rfl) : PA X (e :: es) (tCons te t) := by
 intro pos pins s σ H Q I h
 rw [hs]
 show wpAny _ _ (spliced ((false, eval e X.env) :: backTo pos (starEach es X.env))) _ _ s
 refine Calls.spliced_cons (thn (ha pins s σ H _ I h) fun u s1 ⟨x, H1, I1, r1, q1⟩ => ?_)
 exact thn (hr pos pins s1 σ H1 _ I1 q1) fun us s2 ⟨xs, H2, I2, r2, q2⟩ => ⟨x :: xs, H2, I2, .cons r1 r2, q2⟩
def tTup (t : TA) : TE := fun σ H Q => t σ H fun xs H1 => xs.length ≤ sizeLine ∧ ∀ p, H1 p = none → Q (.ref p) (upd H1 p (.tup xs))
def tLst (t : TA) : TE := fun σ H Q => t σ H fun xs H1 => xs.length ≤ sizeLine ∧ ∀ p, H1 p = none → Q (.ref p) (upd H1 p (.lst xs))
theorem pe_tup {x1} (h : PA X es t) : PE X (.Tuple es x1 pos) (tTup t) := by
 intro pins s σ H Q I hq
 refine wpAny_Tuple_spliced (thn (h pos pins s σ H _ I hq) fun us s1 ⟨xs, H1, I1, r, z, q⟩ => ⟨by rw [← r.length]; exact z, ?_⟩)
 have hf : H1 s1.heap.objs.size = none := I1.hok.fresh (Nat.le_refl _)
 refine ⟨.ref s1.heap.objs.size, upd H1 s1.heap.objs.size (.tup xs), I1.laid (t' := s1.toks) (fun b u e => Heap.get?_push_of_some _ e) (Nat.le_refl _) ?_, rfl, q _ hf⟩
 exact ⟨z, us, r, ⟨_, Heap.get?_push_size _ rfl, rfl, _, rfl⟩⟩
theorem pe_lst (h : PA X es t) : PE X (.List es pos) (tLst t) := by
 intro pins s σ H Q I hq
 refine wpAny_List_spliced (thn (h pos pins s σ H _ I hq) fun us s1 ⟨xs, H1, I1, r, z, q⟩ => ⟨by rw [← r.length]; exact z, ?_⟩)
 have hf : H1 s1.heap.objs.size = none := I1.hok.fresh (Nat.le_refl _)
 refine ⟨.ref s1.heap.objs.size, upd H1 s1.heap.objs.size (.lst xs), I1.laid (t' := s1.toks) (fun b u e => Heap.get?_push_of_some _ e) (Nat.le_refl _) ?_, rfl, q _ hf⟩
 exact ⟨z, us, 0, r, Heap.get?_push_size _ rfl⟩
end
abbrev Sp := List V → Hp → VK → XK → Prop
abbrev CXT := List Env → Hp → Shared → XK → Value → Shared → Prop
structure Env0 (P : Program) (w : World) (K : W.Frag) (mg : Str → Option Value) (base : Heap) (A : Around) (outer : List Env) (s : Shared) (H : Hp) : Prop where
 frames : A.frames = some outer
 mod : Mod K mg base
 bs : ∀ b o, base.get? b = some o → s.heap.get? b = some o ∧ H b = none
 bsz : base.objs.size ≤ s.heap.objs.size
 funs : s.heap.FunFrames base outer
 frf : ∀ b ∈ frs outer, H b = none
 hok : HOk P w H s.heap
 bare : AllBare s.gens
def CE (outer : List Env) (P : Program) (w : World) (H : Hp) (s : Shared) (Q : VK) (u : Value) (s' : Shared) : Prop :=
 ∃ v H', s'.os = s.os ∧ AllBare s'.gens ∧ Un (frs outer) [] H H' s.heap s'.heap ∧ HOk P w H' s'.heap ∧ RelV v u ∧ Q v H'
def CR (CX : CXT) (outer : List Env) (P : Program) (w : World) (H : Hp) (s : Shared) (Q : VK) (E : XK) (r : Result) (s' : Shared) : Prop :=
 match r with
 | .ok (.ret u) => CE outer P w H s Q u s'
 | .ok _ => False
 | .error e => CX outer H s E e s'
structure FnOk (P : Program) (w : World) (K : W.Frag) (mg : Str → Option Value) (base : Heap) (CX : CXT) (k : Nat) (f : Addr) (fd : FuncData) (ps : List Str) (sp : Sp) : Prop where
 len : ∀ vs H Q E, sp vs H Q E → vs.length = ps.length
 run : ∀ (A : Around) (outer : List Env) (s : Shared) (H : Hp) (args : Args) (us : List Value) (vs : List V) (Q : VK) (E : XK), Room k A → Env0 P w K mg base A outer s H → BindsTo s fd args (ps.zip us) → Vals vs us → sp vs H Q E →
   codeAny (model P w) A (.call (.ref f) args) (CR CX outer P w H s Q E) s
theorem FnOk.mono {P : Program} {w : World} {K : W.Frag} {mg : Str → Option Value} {base : Heap} {CX : CXT} {j k : Nat} {f : Addr} {fd : FuncData} {ps : List Str} {sp : Sp} (F : FnOk P w K mg base CX j f fd ps sp) (h : j ≤ k) :
   FnOk P w K mg base CX k f fd ps sp := ⟨F.len, fun A outer s H args us vs Q E hr => F.run A outer s H args us vs Q E (hr.mono h)⟩
section
variable {X : Cx} {pins : List (Addr × Obj)} {σ : St} {H : Hp} {s s' : Shared}
theorem Inv.env0 (I : Inv X pins σ H s) : Env0 X.prog X.w X.K X.mg X.base X.A X.stack s H :=
 ⟨I.ok.frames, I.ok.mod, I.bs, Nat.le_trans I.ok.bsz I.sz, I.stack, I.stkFree, I.hok, I.bare⟩
theorem Inv.after {Q : VK} {u : Value} (I : Inv X pins σ H s) (h : CE X.stack X.prog X.w H s Q u s') : EP X pins σ Q u s' := by
 obtain ⟨v, H', os, bare, un, hok, r, q⟩ := h
 obtain ⟨hh, g, d, t, os'⟩ := s'
 obtain rfl : os' = s.os := os
 exact ⟨v, H', I.call (h' := hh) (g' := g) (d' := d) (t' := t) (ch := []) un hok bare (fun b z => absurd z (by simp)), r, q⟩
end
def tCall (sp : Sp) (dvs : List V) (E : XK) (t : TA) : TE := fun σ H Q => t σ H fun vs H1 => sp (vs ++ dvs) H1 Q E
def Binds (K : W.Frag) (fd : FuncData) (ps : List Str) (ds : List Value) : Prop :=
 ∀ (s : Shared) (us : List Value), K.In s.heap → (us ++ ds).length = ps.length → BindsTo s fd ⟨us, []⟩ (ps.zip (us ++ ds))
theorem Binds.all {K : W.Frag} {fd : FuncData} {ps : List Str} (h : ∀ us : List Value, us.length = ps.length → bindArgs fd ⟨us, []⟩ = pure (ps.zip us)) : Binds K fd ps [] := fun s us _ hl => by
 rw [List.append_nil] at hl ⊢
 exact .of_eq (h us hl)
def Passes (CX : CXT) (X : Cx) (E : XK) : Prop := ∀ (pins : List (Addr × Obj)) (σ : St) (H : Hp) (s : Shared) (e : Value) (s' : Shared), Inv X pins σ H s → CX X.stack H s E e s' → X.xe e s'
section
variable {X : Cx} {CX : CXT} {k : Nat} {f C : Addr} {fd : FuncData} {ps : List Str} {sp : Sp} {dvs : List V} {ds : List Value} {E : XK} {x m : Str} {p pos apos : Pos} {e o : Expr} {es : List Expr} {ta : TE} {t : TA}
theorem run_fn {pins : List (Addr × Obj)} {σ : St} {H : Hp} {s : Shared} {Q : VK} {us : List Value} {vs : List V} (F : FnOk X.prog X.w X.K X.mg X.base CX k f fd ps sp) (hr : Room k X.A) (hb : Binds X.K fd ps ds) (hd : Vals dvs ds) (hx : Passes CX X E)
   (I : Inv X pins σ H s) (r : Vals vs us) (h : sp (vs ++ dvs) H Q E) : wpAny (model X.prog X.w) X.A (call (.ref f) us) (EP X pins σ Q) X.xe s := by
 have r2 : Vals (vs ++ dvs) (us ++ ds) := r.append hd
 have hl : (us ++ ds).length = ps.length := by rw [← r2.length]; exact F.len _ _ _ _ h
 refine wpAny_call (codeAny_mono (F.run X.A X.stack s H ⟨us, []⟩ (us ++ ds) (vs ++ dvs) Q E hr I.env0 (hb s us I.kIn hl) r2 h) fun r s' hq => ?_)
 cases r with
 | error e => exact hx pins σ H s e s' I hq
 | ok fl =>
   cases fl with
   | ret u => exact I.after hq
   | next => exact False.elim hq
   | brk => exact False.elim hq
   | cont => exact False.elim hq
theorem pe_call (F : FnOk X.prog X.w X.K X.mg X.base CX k f fd ps sp) (hr : Room k X.A) (hg : Gl X x) (hm : X.mg x = some (.ref f)) (hk : W.keepIn X.K (.ref f) = true) (hb : Binds X.K fd ps ds) (hd : Vals dvs ds) (hx : Passes CX X E)
   (ha : PA X (e :: es) t) (hdb : (x == ("__debug__" : Str)) = false := by decide) (he : starEach (e :: es) X.env = (false, eval e X.env) :: starEach es X.env := by rfl) (hpl : (backTo pos (starEach es X.env)).any (·.1) = false := by rfl) :
   PE X (.Call (.Name x p) (e :: es) [] pos) (tCall sp dvs E t) := by
 intro pins s σ H Q I h
 refine wpAny_Call_Name_kw (ld_glob I hg hm ?_ hdb)
 refine W.callWith_K (h₀ := X.base) I.ok.mod.kin hk (thn (ha pos pins s σ H _ I h) fun us s1 ⟨vs, H1, I1, r, q⟩ => ⟨I1.kIn, ?_⟩) he hpl
 exact run_fn F hr hb hd hx I1 r q
theorem pe_call0 (F : FnOk X.prog X.w X.K X.mg X.base CX k f fd ps sp) (hr : Room k X.A) (hg : Gl X x) (hm : X.mg x = some (.ref f)) (hk : W.keepIn X.K (.ref f) = true) (hb : Binds X.K fd ps ds) (hd : Vals dvs ds) (hx : Passes CX X E)
   (hdb : (x == ("__debug__" : Str)) = false := by decide) : PE X (.Call (.Name x p) [] [] pos) (tCall sp dvs E tNil) := by
 intro pins s σ H Q I h
 refine wpAny_Call_Name_kw (ld_glob I hg hm ?_ hdb)
 exact W.callWith_K0 I.kIn hk (run_fn (us := []) F hr hb hd hx I .nil h)
structure Mk (K : W.Frag) (C f : Addr) : Prop where
 makes : W.makesIn K C = true
 init : W.findIn K (.ref C) "__init__" = some (some (.ref f))
 fn : W.isFn K (.ref f) = true
 kp : W.keepIn K (.ref C) = true
end
section
variable {X : Cx} {CX : CXT} {k : Nat} {f C : Addr} {fd : FuncData} {ps ks : List Str} {sp : Sp} {E : XK} {x m : Str} {p pos apos kpos : Pos} {e o : Expr} {es : List Expr} {kws : List Keyword} {te ta : TE} {t tk : TA} {nm : Option Str}
structure KBinds (K : W.Frag) (fd : FuncData) (ps ks : List Str) (g : List Value → List Value → List Value) (gV : List V → List V → List V) : Prop where
 to : ∀ (s : Shared) (us ws : List Value), K.In s.heap → (g us ws).length = ps.length → BindsTo s fd ⟨us, ks.zip ws⟩ (ps.zip (g us ws))
 rel : ∀ {vs : List V} {us : List Value} {zs : List V} {ws : List Value}, Vals vs us → Vals zs ws → Vals (gV vs zs) (g us ws)
variable {g : List Value → List Value → List Value} {gV : List V → List V → List V}
end
structure FnScope (N P : List Str) (sc : Scope) : Prop where
 kind : sc.kind = .function
 co : sc.isCoroutine = false
 gen : sc.isGenerator = false
 nd : N.Nodup
 pre : N.take P.length = P
 par : ∀ x ∈ P, sc.names.lookup x = some .local ∨ sc.names.lookup x = some .cell
 nofree : ∀ y ∈ sc.names, y.2 ≠ .free
theorem FnScope.of {N P : List Str} {sc : Scope} (h : sc.kind = .function ∧ sc.isCoroutine = false ∧ sc.isGenerator = false ∧ N.Nodup ∧ N.take P.length = P ∧ (∀ x ∈ P, sc.names.lookup x = some .local ∨ sc.names.lookup x = some .cell) ∧ ∀ y ∈ sc.names, y.2 ≠ .free) : FnScope N P sc := ⟨h.1, h.2.1, h.2.2.1, h.2.2.2.1, h.2.2.2.2.1, h.2.2.2.2.2.1, h.2.2.2.2.2.2⟩
theorem bindL_out {kindOf : Str → Option NameKind} {x : Str} : ∀ {binds : List (Str × Value)} {m : Str → Option Value}, (∀ v, (x, v) ∉ binds) → bindL kindOf binds m x = m x
 | [], _, _ => rfl
 | (n, v) :: r, m, h => by
   unfold bindL
   rw [bindL_out fun w hw => h w (List.mem_cons_of_mem _ hw)]
   split
   · have : x ≠ n := by rintro rfl; exact h v List.mem_cons_self
     simp [this]
   · rfl
theorem bindC_out {kindOf : Str → Option NameKind} {x : Str} : ∀ {binds : List (Str × Value)} {m : Str → Option Value}, (∀ v, (x, v) ∉ binds) → bindC kindOf binds m x = m x
 | [], _, _ => rfl
 | (n, v) :: r, m, h => by
   unfold bindC
   rw [bindC_out fun w hw => h w (List.mem_cons_of_mem _ hw)]
   split
   · rfl
   · have : x ≠ n := by rintro rfl; exact h v List.mem_cons_self
     simp [this]
theorem bindL_get {kindOf : Str → Option NameKind} {x : Str} {v : Value} : ∀ {P : List Str} {vs : List Value} {i : Nat} {m : Str → Option Value}, P.Nodup → P[i]? = some x → vs[i]? = some v → kindOf x = some .local →
   bindL kindOf (P.zip vs) m x = some v
 | [], _, _, _, _, h, _, _ => by simp at h
 | _ :: _, [], _, _, _, _, h, _ => by simp at h
 | p :: P, w :: vs, 0, m, nd, h1, h2, hk => by
   simp at h1 h2; subst h1; subst h2
   show bindL kindOf ((p, w) :: P.zip vs) m p = _
   unfold bindL
   rw [bindL_out fun v hv => (List.nodup_cons.mp nd).1 (List.of_mem_zip hv).1, if_pos hk]
   simp
 | p :: P, w :: vs, i + 1, m, nd, h1, h2, hk => by
   show bindL kindOf ((p, w) :: P.zip vs) m x = _
   unfold bindL
   exact bindL_get (i := i) (List.nodup_cons.mp nd).2 (by simpa using h1) (by simpa using h2) hk
theorem bindC_get {kindOf : Str → Option NameKind} {x : Str} {v : Value} : ∀ {P : List Str} {vs : List Value} {i : Nat} {m : Str → Option Value}, P.Nodup → P[i]? = some x → vs[i]? = some v → kindOf x ≠ some .local →
   bindC kindOf (P.zip vs) m x = some v
 | [], _, _, _, _, h, _, _ => by simp at h
 | _ :: _, [], _, _, _, _, h, _ => by simp at h
 | p :: P, w :: vs, 0, m, nd, h1, h2, hk => by
   simp at h1 h2; subst h1; subst h2
   show bindC kindOf ((p, w) :: P.zip vs) m p = _
   unfold bindC
   rw [bindC_out fun v hv => (List.nodup_cons.mp nd).1 (List.of_mem_zip hv).1, if_neg hk]
   simp
 | p :: P, w :: vs, i + 1, m, nd, h1, h2, hk => by
   show bindC kindOf ((p, w) :: P.zip vs) m x = _
   unfold bindC
   exact bindC_get (i := i) (List.nodup_cons.mp nd).2 (by simpa using h1) (by simpa using h2) hk
def start (N : List Str) (vs : List V) : St := vs.map some ++ List.replicate (N.length - vs.length) none
def cxOf (CX : CXT) (P : Program) (w : World) (K : W.Frag) (mg : Str → Option Value) (base : Heap) (N : List Str) (qual : Str) (scope : Scope) (f : Addr) (cd : Value) (A : Around) (outer : List Env) (s : Shared) (H : Hp) (E : XK) : Cx where
 prog := P
 w := w
 K := K
 mg := mg
 base := base
 A := A.deeper (envOfC qual scope s.heap.objs.size f cd)
 N := N
 s₀ := s
 H₀ := H
 env := envOfC qual scope s.heap.objs.size f cd
 outer := outer
 stack := envOfC qual scope s.heap.objs.size f cd :: outer
 ex := []
 calm := true
 fn := fun _ => true
 pn := []
 xe := fun e s' => wpAny (model P w) (A.deeper (envOfC qual scope s.heap.objs.size f cd)) (leaving (envOfC qual scope s.heap.objs.size f cd) e) (fun _ s'' => CX outer H s E e s'') (fun e' s'' => CX outer H s E e' s'') s'
theorem cell_has {sc : Scope} {n : Nat} {x : Str} (h : sc.names.lookup x = some .cell) : ∃ c, (cellsFrom n sc.names []).lookup x = some c := by
 have q := W.cellsFrom_some sc.names n [] (.inl h)
 exact Option.isSome_iff_exists.mp q
theorem inv_start {CX : CXT} {P : Program} {w : World} {K : W.Frag} {mg : Str → Option Value} {base : Heap} {N ps : List Str} {qual : Str} {scope : Scope} {f : Addr} {cd : Value} {A : Around} {outer : List Env} {s s1 : Shared} {H : Hp} {E : XK} {us : List Value} {vs : List V}
   (S : FnScope N ps scope) (hd : A.handled = none) (e0 : Env0 P w K mg base A outer s H) (hl : vs.length = ps.length) (r : Vals vs us)
   (x : InCallC s s.heap.objs.size (bindL (envOfC qual scope s.heap.objs.size f cd).kindOf (ps.zip us) fun _ => none) (cellsFrom (s.heap.objs.size + 1) scope.names []) (bindC (envOfC qual scope s.heap.objs.size f cd).kindOf (ps.zip us) fun _ => none) s1) :
   Inv (cxOf CX P w K mg base N qual scope f cd A outer s H E) [] (start N vs) H s1 := by
 have hpl : ps.length ≤ N.length := by have := congrArg List.length S.pre; rw [List.length_take] at this; omega
 obtain ⟨h1, tk, rfl, hk⟩ := x.done
 have noA : ∀ b : Addr, b ∉ (cxOf CX P w K mg base N qual scope f cd A outer s H E).ex := fun b z => absurd (show b ∈ ([] : List Addr) from z) (by simp)
 refine ⟨⟨e0.mod, S.kind, rfl, rfl, Nat.le_refl _, fun y z c h1 h2 => ?_, fun y hy => ?_, fun y c _ h => ?_, fun _ => hd, Around.frames_deeper e0.frames, .inr ⟨rfl, rfl⟩, fun b z => absurd z (noA b), e0.bs, e0.bsz, fun b _ _ => noA b, fun b z => absurd z (noA b), e0.funs, e0.frf⟩,
   rfl, e0.bare, Un.kept hk, ⟨_, x.toInCall.ns, fun i y v h1 h2 h3 => ?_⟩, fun y c h => ⟨_, x.cell y c h⟩, e0.hok.fresh (Nat.le_refl _), fun y c h => ?_, fun p hp => absurd (show p ∈ ([] : List (Addr × Obj)) from hp) (by simp), e0.hok.kept hk, ?_⟩
 · exact name_of_addr x.apart (PySem.mem_of_lookup h1) (PySem.mem_of_lookup h2)
 · have hy : scope.names.lookup y = some .cell ∨ scope.names.lookup y = some .free := hy
   rcases hy with hy | hy
   · exact cell_has hy
   · exact absurd rfl (S.nofree _ (PySem.mem_of_lookup hy))
 · exact Nat.le_of_lt (x.above y c (PySem.mem_of_lookup h))
 · have hi : i < vs.length := by
     unfold start at h2
     by_cases hi : i < vs.length
     · exact hi
     · rw [List.getElem?_append_right (by simpa using hi)] at h2
       rw [List.getElem?_replicate] at h2
       split at h2 <;> cases h2
   have ha : vs[i]? = some v := by
     unfold start at h2
     rw [List.getElem?_append_left (by simpa using hi), List.getElem?_map] at h2
     cases e : vs[i]? with
     | none => rw [e] at h2; cases h2
     | some a => rw [e] at h2; cases h2; rfl
   obtain ⟨u, hu, rv⟩ := r.get ha
   have hp : ps[i]? = some y := by
     rw [← S.pre, List.getElem?_take_of_lt (by omega)]; exact h1
   have ndP : ps.Nodup := by rw [← S.pre]; exact S.nd.sublist (List.take_sublist _ _)
   refine ⟨u, rv, ?_⟩
   rcases S.par y (List.mem_of_getElem? hp) with k | k
   · exact .inl ⟨k, bindL_get ndP hp hu k⟩
   · obtain ⟨c, e⟩ := cell_has (n := s.heap.objs.size + 1) k
     refine .inr ⟨.inl k, c, e, ?_⟩
     have q := x.cell y c e
     rw [bindC_get ndP hp hu (by show scope.names.lookup y ≠ _; rw [k]; decide)] at q
     exact q
 · exact e0.hok.fresh (Nat.le_of_lt (x.above y c (PySem.mem_of_lookup h)))
 · unfold start
   show _ = N.length
   rw [List.length_append, List.length_map, List.length_replicate]
   omega
theorem fn_of {CX : CXT} {P : Program} {w : World} {K : W.Frag} {mg : Str → Option Value} {base : Heap} {k : Nat} {f : Addr} {name qual : Str} {params : Arguments} {body : List Stmt} {scope : Scope} {dV kV doc pm cdv ct oc : Value} {an od : Option Addr}
   {osl : Array (Option Value)} {N ps : List Str} {sp : Sp} (lk : K.lookup f = some ⟨oc, od, .func (W.fnOf name qual params body scope dV kV doc pm an cdv ct), osl⟩) (hcd : W.codeIn K cdv qual = true) (S : FnScope N ps scope)
   (len : ∀ vs H Q E, sp vs H Q E → vs.length = ps.length)
   (hbody : ∀ (A : Around) (outer : List Env) (s : Shared) (H : Hp) (vs : List V) (Q : VK) (E : XK), Room k (A.deeper (envOfC qual scope s.heap.objs.size f cdv)) → sp vs H Q E →
     ∃ t, PSs (cxOf CX P w K mg base N qual scope f cdv A outer s H E) body t ∧ t { nx := fun _ H' => Q .non H', rt := Q } (start N vs) H) :
   FnOk P w K mg base CX (k + 1) f (W.fnOf name qual params body scope dV kV doc pm an cdv ct) ps sp := by
 refine ⟨len, fun A outer s H args us vs Q E hr e0 hb r hsp => ?_⟩
 have hl := len _ _ _ _ hsp
 have KX : K.In s.heap := e0.mod.kin.keeps fun b o e => (e0.bs b o e).1
 have lim : s.heap.NoLimit := e0.mod.nolimit.keeps fun b o e => (e0.bs b o e).1
 have hkind : ∀ y ∈ ps.zip us, scope.names.lookup y.1 = some .local ∨ (scope.names.lookup y.1 = some .cell ∧ ((cellsFrom (s.heap.objs.size + 1) scope.names []).lookup y.1).isSome = true) := fun ⟨n, v⟩ hy => by
   rcases S.par n (List.of_mem_zip hy).1 with q | q
   · exact .inl q
   · exact .inr ⟨q, W.cellsFrom_some _ _ _ (.inl q)⟩
 refine codeAny_call_function hr.depth (KX _ _ lk) rfl S.co S.gen rfl (W.codeRec_of KX hcd) (hb _ _ _ _ ?_)
 refine wpAny_newFunctionEnv_cells S.kind hkind fun env he s1 x => ?_
 subst he
 refine ⟨lim.keeps x.toInCall.keep, codeAny_func ?_⟩
 obtain ⟨t, ht, hq⟩ := hbody A outer s H vs Q E (hr.deeper _) hsp
 have I : Inv (cxOf CX P w K mg base N qual scope f cdv A outer s H E) [] (start N vs) H s1 := inv_start S hr.hd e0 hl r x
 refine wpAny_mono (ht [] s1 (start N vs) H _ I hq) (fun fl s' hs => ?_) fun e s' hs => hs
 have fin : ∀ {σ' : St} {H' : Hp} {v : V} {u : Value}, Inv (cxOf CX P w K mg base N qual scope f cdv A outer s H E) [] σ' H' s' → RelV v u → Q v H' → CE outer P w H s Q u s' :=
   fun {σ' H' v u} J rv q => ⟨v, H', J.os, J.bare, J.base, J.hok, rv, q⟩
 cases fl with
 | ret u =>
   obtain ⟨v, σ', H', J, rv, q⟩ := hs
   exact fin J rv q
 | next =>
   obtain ⟨σ', H', J, q⟩ := hs
   exact fin (v := V.non) (u := Value.none) J rfl q
 | brk =>
   obtain ⟨_, _, _, q⟩ := hs
   exact False.elim q
 | cont =>
   obtain ⟨_, _, _, q⟩ := hs
   exact False.elim q
end L2
namespace L2
open PySem PySem.Spec PyProof.Rows
section
variable {X : Cx} {x : Str} {p pos : Pos} {e : Expr} {es : List Expr} {t : TA} {id T : String} {r : List V → Hp → VK → Prop}
def tCB (r : List V → Hp → VK → Prop) (t : TA) : TE := fun σ H Q => t σ H fun vs H1 => r vs H1 Q
theorem pe_callB (hc : CallR X (.builtin id) r) (hg : Gl X x) (hm : X.mg x = none) (hv : bootBuiltins x = some (.builtin id)) (ha : PA X (e :: es) t) (hn : x ≠ "__name__" := by decide) (hdb : (x == ("__debug__" : Str)) = false := by decide)
   (he : starEach (e :: es) X.env = (false, eval e X.env) :: starEach es X.env := by rfl) (hpl : (backTo pos (starEach es X.env)).any (·.1) = false := by rfl) : PE X (.Call (.Name x p) (e :: es) [] pos) (tCB r t) := by
 intro pins s σ H Q I h
 refine wpAny_Call_Name_kw (ld_blt I hg hm hv ?_ hn hdb)
 exact PyProof.Rows.callWith_builtin1 (thn (ha pos pins s σ H _ I h) fun us s1 ⟨vs, H1, I1, r1, q1⟩ => hc pins s1 σ H1 vs us Q I1 r1 q1) he hpl
theorem pe_callTy (hc : CallR X (.type T) r) (hg : Gl X x) (hm : X.mg x = none) (hv : bootBuiltins x = some (.type T)) (ha : PA X (e :: es) t) (hn : x ≠ "__name__" := by decide) (hdb : (x == ("__debug__" : Str)) = false := by decide)
   (he : starEach (e :: es) X.env = (false, eval e X.env) :: starEach es X.env := by rfl) (hpl : (backTo pos (starEach es X.env)).any (·.1) = false := by rfl) : PE X (.Call (.Name x p) (e :: es) [] pos) (tCB r t) := by
 intro pins s σ H Q I h
 refine wpAny_Call_Name_kw (ld_blt I hg hm hv ?_ hn hdb)
 exact PyProof.Rows.callWith_type1 (thn (ha pos pins s σ H _ I h) fun us s1 ⟨vs, H1, I1, r1, q1⟩ => hc pins s1 σ H1 vs us Q I1 r1 q1) he hpl
end
end L2
namespace HT
open PySem PyProof.Rows
def lexLt : List Int → List Int → Bool
 | [], [] => false
 | [], _ :: _ => true
 | _ :: _, [] => false
 | x :: xs, y :: ys => if x = y then lexLt xs ys else decide (x < y)
theorem lexLt_cons (x y : Int) (xs ys : List Int) : lexLt (x :: xs) (y :: ys) = if x = y then lexLt xs ys else decide (x < y) := rfl
theorem lexLt_nil_nil : lexLt [] [] = false := rfl
theorem lexLt_nil_cons (y : Int) (ys : List Int) : lexLt [] (y :: ys) = true := rfl
theorem lexLt_cons_nil (x : Int) (xs : List Int) : lexLt (x :: xs) [] = false := rfl
theorem eqAt_int (A : Around) (s : Shared) (a : Int) (t : Tok) (c : Int) (u : Tok) : ∃ e, SeqAt.EqAt A s (.int a t) (.int c u) e ∧ (e = true ↔ a = c) :=
 ⟨(a == c), SeqAt.EqAt.int_int a t c u, by simp⟩
theorem rcLt_int (A : Around) (s : Shared) (a : Int) (t : Tok) (c : Int) (u : Tok) (prog : Program) (w : World) (E : Value → Shared → Prop) (Q : Value → Shared → Prop) (h : Q (.bool (decide (a < c))) s) :
   wpAny (model prog w) A (richCompare .Lt (.int a t) (.int c u)) Q E s :=
 (PyProof.Rows.lt_int h : wpAny (model prog w) A (compareOp .Lt (.int a t) (.int c u)) Q E s)
section
open PySem.SeqAt
open PySem.AutoSeq1 (wpAny_loadPart')
open PySem.MeetsSeq PySem.MeetsSeq2 PySem.MeetsSeq3
theorem tuple_lt_ints (l b : Addr) (items items2 : Array Value) (n n2 : Nat) (dd dd2 : Option Addr) (sl sl2 : Array (Option Value)) (ns ms : List Int) (hi : IntsAre items.toList ns) (hj : IntsAre items2.toList ms) :
   Meets (Builtin.«tuple.__lt__» ⟨[.ref l, .ref b], []⟩)
     (fun _ R s => s.heap.get? l = some { cls := .type "tuple", dict := dd, data := .seq items n, slots := sl } ∧ s.heap.get? b = some { cls := .type "tuple", dict := dd2, data := .seq items2 n2, slots := sl2 } ∧
       R (.ok (.ret (.bool (lexLt ns ms)))) s) :=
 .of_wp fun prog w A R s h => by
   obtain ⟨hp, g, d, tk, os⟩ := s; obtain ⟨hl, hb, h⟩ := h
   have f2 := AutoSeq1.sub_tuple_tuple
   have z1 : items.size = ns.length := by rw [← hi.length]; simp
   have z2 : items2.size = ms.length := by rw [← hj.length]; simp
   wp_walk using wpAny_loadPart' hl, wpAny_loadPart' hb, wpAny_forIn_list _ (fun rest b s' => b.1 = none ∧ s' = ⟨hp, g, d, tk, os⟩ ∧ ∃ (vs ws : List Value) (ns' ms' : List Int), rest = vs.zip ws ∧
     IntsAre vs ns' ∧ IntsAre ws ms' ∧ ns'.length + items2.size = ms'.length + items.size ∧ R (.ok (.ret (.bool (lexLt ns' ms')))) ⟨hp, g, d, tk, os⟩) _
   case turn =>
     rintro ⟨y, x⟩ rest b s' ⟨hb', rfl, vs, ws, ns', ms', hz, hvi, hwi, hlen, hR⟩
     cases hvi with
     | nil => rw [List.zip_nil_left] at hz; cases hz
     | cons a t hvi' =>
       cases hwi with
       | nil => rw [List.zip_nil_right] at hz; cases hz
       | cons c u hwi' =>
         rw [List.zip_cons_cons] at hz
         injection hz with hyx hrest
         injection hyx with hy hx
         subst hy hx
         rw [lexLt_cons] at hR
         simp only [List.length_cons] at hlen
         obtain ⟨e, he, hiff⟩ := eqAt_int A.in1 ⟨hp, g, d, tk, os⟩ a t c u
         refine wpAny_bind (he prog w _ _ ?_)
         cases e with
         | true =>
           rw [if_pos (hiff.mp rfl)] at hR
           wp_walk
           exact ⟨rfl, rfl, _, _, _, _, hrest, hvi', hwi', by omega, hR⟩
         | false =>
           rw [if_neg (fun q => absurd (hiff.mpr q) Bool.false_ne_true)] at hR
           have hri := rcLt_int A.in1 ⟨hp, g, d, tk, os⟩ a t c u prog w
           wp_walk using hri
           exact ⟨_, rfl, by simpa using hR⟩
   case fin =>
     rintro ⟨b1, b2⟩ s' ⟨hb', rfl, vs, ws, ns', ms', hz, hvi, hwi, hlen, hR⟩
     simp only at hb'
     subst hb'
     have hv : lexLt ns' ms' = decide (items.size < items2.size) := by
       cases hvi with
       | nil =>
         cases hwi with
         | nil =>
           simp only [List.length_nil] at hlen
           rw [lexLt_nil_nil]
           exact (decide_eq_false (by omega)).symm
         | cons c u hw =>
           simp only [List.length_nil, List.length_cons] at hlen
           rw [lexLt_nil_cons]
           exact (decide_eq_true (by omega)).symm
       | cons a t hv =>
         cases hwi with
         | nil =>
           simp only [List.length_nil, List.length_cons] at hlen
           rw [lexLt_cons_nil]
           exact (decide_eq_false (by omega)).symm
         | cons c u hw =>
           rw [List.zip_cons_cons] at hz
           cases hz
     rw [hv] at hR
     wp_walk
     exact ⟨_, rfl, by simpa [Builtin.Tuple.tupleCompareSizes] using hR⟩
   case h =>
     exact ⟨rfl, rfl, items.toList, items2.toList, ns, ms, rfl, hi, hj, by omega, h⟩
end
section
variable {prog : Program} {w : World} {A : Around} {E : Value → Shared → Prop} {s : Shared}
theorem lt_tupInts {l b : Addr} {items items2 : Array Value} {ns ms : List Int} {Q : Value → Shared → Prop} (hl : IsTup s.heap l items) (hb : IsTup s.heap b items2) (hi : IntsAre items.toList ns) (hj : IntsAre items2.toList ms)
   (hu : A.units < cLine) (h : Q (.bool (lexLt ns ms)) s) : wpAny (model prog w) A (compareOp .Lt (.ref l) (.ref b)) Q E s := by
 obtain ⟨⟨cls, dd, data, sl⟩, ho, hc, n, hd⟩ := id hl
 obtain ⟨⟨cls2, dd2, data2, sl2⟩, ho2, hc2, n2, hd2⟩ := id hb
 simp only at hc hd hc2 hd2
 subst hc hd hc2 hd2
 exact richCompare_meets_room (op := .Lt) ⟨_, ho, rfl⟩ ⟨_, ho2, rfl⟩ PySem.F.slot_tuple_lt PySem.F.entry_tuple_lt (PySem.F.args_tuple_lt_2 _ _) (tuple_lt_ints l b items items2 n n2 dd dd2 sl sl2 ns ms hi hj)
   ⟨ho, ho2, show Value.bool (lexLt ns ms) ≠ Value.notImplemented ∧ Q (.bool (lexLt ns ms)) s from ⟨(fun x => nomatch x), h⟩⟩ hu
theorem cat_tup {t b : Addr} {vs ws : List Value} {Q : Value → Shared → Prop} (ht : IsTup s.heap t vs.toArray) (hb : IsTup s.heap b ws.toArray) (hv : vs ≠ [])
   (h1 : ws = [] → Q (.ref t) s) (h2 : ws ≠ [] → Q (.ref s.heap.objs.size) { s with heap := s.heap.push { cls := .type "tuple", data := .seq (vs ++ ws).toArray } })
   (hsz : vs.length + ws.length ≤ sizeLine) : wpAny (model prog w) A (binaryOp .Add (.ref t) (.ref b)) Q E s := by
 obtain ⟨⟨cls, dd, data, sl⟩, ho, hc, n, hd⟩ := id ht
 obtain ⟨⟨cls2, dd2, data2, sl2⟩, ho2, hc2, n2, hd2⟩ := id hb
 simp only at hc hd hc2 hd2
 subst hc hd hc2 hd2
 have e : vs.toArray ++ ws.toArray = (vs ++ ws).toArray := by simp
 by_cases hw : ws = []
 · exact concat_meets ⟨_, ho, rfl⟩ ⟨_, ho2, rfl⟩ noFill_tuple_add seq_tuple_add PySem.F.slot_tuple_add PySem.F.entry_tuple_add (PySem.F.args_tuple_add_2 _ _)
     (tuple_addW1 t b vs.toArray ws.toArray n n2 dd dd2 sl sl2 (by simpa using hv) (by simp [hw])) ⟨ho, ho2, h1 hw⟩
 · refine concat_meets ⟨_, ho, rfl⟩ ⟨_, ho2, rfl⟩ noFill_tuple_add seq_tuple_add PySem.F.slot_tuple_add PySem.F.entry_tuple_add (PySem.F.args_tuple_add_2 _ _)
     (tuple_addW2 t b vs.toArray ws.toArray n n2 dd dd2 sl sl2 (by simpa using hv) (by simpa using hw) (by rw [List.size_toArray, List.size_toArray]; exact hsz)) ⟨ho, ho2, ?_⟩
   rw [e]
   exact h2 hw
def sIx (n d : Nat) : Option Int → Nat
 | none => d
 | some v => if v < 0 then (v + (n : Int)).toNat else min v.toNat n
theorem sIx_none (n d : Nat) : sIx n d none = d := rfl
theorem sIx_nat (n d k : Nat) : sIx n d (some (k : Int)) = min k n := by
 show (if (k : Int) < 0 then ((k : Int) + (n : Int)).toNat else min (k : Int).toNat n) = min k n
 rw [if_neg (by omega), Int.toNat_natCast]
end
end HT
namespace L2
open PySem PySem.Spec PyProof.Rows
abbrev TO := St → Hp → (Option Int → Hp → Prop) → Prop
def PO (X : Cx) (e : Option Expr) (t : TO) : Prop :=
 ∀ (pins : List (Addr × Obj)) (s : Shared) (σ : St) (H : Hp) (Q : Option Int → Hp → Prop), Inv X pins σ H s → t σ H Q →
   wpAny (model X.prog X.w) X.A (evalPart e X.env) (fun u s' => ∃ o H', Inv X pins σ H' s' ∧ IsPart u o ∧ Q o H') X.xe s
def tNoPart : TO := fun _ H Q => Q none H
def tPart (t : TE) : TO := fun σ H Q => t σ H fun x H1 => ∃ i, x = .int i ∧ Q (some i) H1
theorem intsAre_of {ns : List Int} : ∀ {us : List Value}, Vals (ns.map V.int) us → IntsAre us ns := by
 induction ns with
 | nil => intro us r; rw [List.map_nil] at r; cases r; exact .nil
 | cons n ns ih =>
   intro us r
   rw [List.map_cons] at r
   cases r with
   | cons r1 r2 =>
     obtain ⟨t, e⟩ := r1
     subst e
     exact .cons n t (ih r2)
section
variable {X : Cx} {e : Expr} {te : TE} {lo hi : Option Expr} {tl th : TO} {pos p2 : Pos}
theorem po_none : PO X none tNoPart := by
 intro pins s σ H Q I h
 rw [evalPart_none]
 exact wpAny_pure ⟨none, H, I, .none, h⟩
theorem po_some (h : PE X e te) : PO X (some e) (tPart te) := by
 intro pins s σ H Q I hw
 rw [evalPart_some]
 refine thn (h pins s σ H _ I hw) fun u s1 ⟨x, H1, I1, r1, q1⟩ => ?_
 obtain ⟨i, rfl, q⟩ := q1
 obtain ⟨t, rfl⟩ := r1
 exact ⟨some i, H1, I1, .int i t, q⟩
def SlR (X : Cx) (r : V → Option Int → Option Int → Hp → VK → Prop) : Prop :=
 ∀ (pins : List (Addr × Obj)) (s : Shared) (σ : St) (H : Hp) (x : V) (v vl vu : Value) (lo hi : Option Int) (sl : Addr) (Q : VK), Inv X pins σ H s → RelV x v → s.heap.IsSliceOf sl vl vu .none → IsPart vl lo → IsPart vu hi → r x lo hi H Q →
   ∃ T id, typeLookup (.type T) "__getitem__" = pure (some (.builtin id)) ∧ s.TypeIs v T ∧ wpAny (model X.prog X.w) X.A (getItem v (.ref sl)) (EP X pins σ Q) X.xe s
def tSl (r : V → Option Int → Option Int → Hp → VK → Prop) (te : TE) (tl th : TO) : TE := fun σ H Q => te σ H fun x H1 => tl σ H1 fun l H2 => th σ H2 fun u H3 => r x l u H3 Q
theorem pe_slice {r : V → Option Int → Option Int → Hp → VK → Prop} (hr : SlR X r) (he : PE X e te) (hl : PO X lo tl) (hu : PO X hi th) : PE X (.Subscript e (.Slice lo hi none p2) pos) (tSl r te tl th) := by
 intro pins s σ H Q I h
 refine Subscript_ (thn (he pins s σ H _ I h) fun v s1 ⟨x, H1, I1, r1, q1⟩ => ?_)
 refine wpAny_Slice (thn (hl pins s1 σ H1 _ I1 q1) fun vl s2 ⟨l, H2, I2, pl, q2⟩ => thn (hu pins s2 σ H2 _ I2 q2) fun vu s3 ⟨u, H3, I3, pu, q3⟩ => ?_)
 rw [evalPart_none]
 refine wpAny_pure ?_
 have I4 : Inv X pins σ H3 { s3 with heap := s3.heap.push { cls := .type "slice", data := .fields #[vl, vu, .none] } } := I3.kept (t' := s3.toks) fun b ob q => Heap.get?_push_of_some _ q
 obtain ⟨T, id, hT, ht, hg⟩ := hr pins { s3 with heap := s3.heap.push { cls := .type "slice", data := .fields #[vl, vu, .none] } } σ H3 x v vl vu l u s3.heap.objs.size Q I4 r1 (Heap.IsSliceOf.new ..) pl pu q3
 show wpAny (model X.prog X.w) X.A (subscriptTail e (.Slice lo hi none p2) v (.ref s3.heap.objs.size)) (EP X pins σ Q) X.xe { s3 with heap := s3.heap.push { cls := .type "slice", data := .fields #[vl, vu, .none] } }
 exact tail_any (ops := [.ref s3.heap.objs.size, v]) ht hT hg (by with_unfolding_all rfl)
def cutV (xs : List V) (lo hi : Option Int) : List V := (xs.drop (HT.sIx xs.length 0 lo)).take (HT.sIx xs.length xs.length hi - HT.sIx xs.length 0 lo)
theorem cutV_length (xs : List V) (lo hi : Option Int) : (cutV xs lo hi).length ≤ xs.length := by
 unfold cutV
 rw [List.length_take, List.length_drop]
 omega
def rCatT (K : W.Frag) : R2 := fun x y H Q => ∃ a b xs ys, x = .ref a ∧ y = .ref b ∧ SqT K H a xs ∧ SqT K H b ys ∧ xs ≠ [] ∧ xs.length + ys.length ≤ sizeLine ∧
 (ys = [] → Q (.ref a) H) ∧ (ys ≠ [] → ∀ p, H p = none → Q (.ref p) (upd H p (.tup (xs ++ ys))))
theorem Vals.nil_iff {xs : List V} {us : List Value} (r : Vals xs us) : us = [] ↔ xs = [] := by
 cases r with
 | nil => simp
 | cons _ _ => simp
theorem op_catT : OpR X (binaryOp .Add) (rCatT X.K) := by
 intro pins s σ H x y v u Q I rx ry h
 obtain ⟨a, b, xs, ys, rfl, rfl, ha, hb, hx, hz, q1, q2⟩ := h
 cases rx
 cases ry
 obtain ⟨its, r1, p1, _⟩ := I.tuple ha
 obtain ⟨its2, r2, p2, _⟩ := I.tuple hb
 refine HT.cat_tup p1 p2 (fun z => hx (r1.nil_iff.mp z)) (fun z => ⟨.ref a, H, I, rfl, q1 (r2.nil_iff.mp z)⟩) (fun z => ?_) (by rw [← r1.length, ← r2.length]; exact hz)
 refine ⟨.ref s.heap.objs.size, _, I.laid (t' := s.toks) (o := .tup (xs ++ ys)) (fun b ob q => Heap.get?_push_of_some _ q) (Nat.le_refl _) ?_, rfl, q2 (fun w => z (r2.nil_iff.mpr w)) _ (I.hok.fresh (Nat.le_refl _))⟩
 exact ⟨by rw [List.length_append]; exact hz, _, r1.append r2, IsTup.new _ _⟩
end
end L2
namespace L2
open PySem PySem.Spec PyProof.Rows
def ixN (n : Nat) (i : Int) : Option Nat := if 0 ≤ i then (if i < n then some i.toNat else none) else if -(n : Int) ≤ i then some (i + n).toNat else none
def atI {α : Type} (xs : List α) (i : Int) : Option α := (ixN xs.length i).bind fun j => xs[j]?
theorem ixN_seq {n : Nat} {i : Int} {j : Nat} (h : ixN n i = some j) : seqIndex? i n = some j ∧ j < n ∧ -(n : Int) ≤ i ∧ i < n := by
 unfold ixN at h
 by_cases h0 : 0 ≤ i
 · rw [if_pos h0] at h
   by_cases h1 : i < n
   · rw [if_pos h1] at h
     have e : i.toNat = j := Option.some.inj h
     exact ⟨by rw [seqIndex_of h0 h1, e], by omega, by omega, h1⟩
   · rw [if_neg h1] at h; cases h
 · rw [if_neg h0] at h
   by_cases h1 : -(n : Int) ≤ i
   · rw [if_pos h1] at h
     have e : (i + n).toNat = j := Option.some.inj h
     exact ⟨by rw [seqIndex_neg (by omega) h1, e], by omega, h1, by omega⟩
   · rw [if_neg h1] at h; cases h
theorem atI_get {α : Type} {xs : List α} {i : Int} {v : α} (h : atI xs i = some v) : ∃ j, seqIndex? i xs.length = some j ∧ xs[j]? = some v ∧ j < xs.length ∧ -(xs.length : Int) ≤ i ∧ i < xs.length := by
 unfold atI at h
 cases e : ixN xs.length i with
 | none => rw [e] at h; cases h
 | some j =>
   rw [e] at h
   obtain ⟨h1, h2, h3, h4⟩ := ixN_seq e
   exact ⟨j, h1, h, h2, h3, h4⟩
theorem atI_nat {α : Type} {xs : List α} {j : Nat} {v : α} (h : xs[j]? = some v) : atI xs (j : Int) = some v := by
 have hj : j < xs.length := (List.getElem?_eq_some_iff.mp h).1
 have e : ixN xs.length (j : Int) = some j := by
   unfold ixN
   rw [if_pos (by omega), if_pos (by omega)]; simp
 unfold atI; rw [e]; exact h
theorem atI_last {α : Type} (xs : List α) (v : α) : atI (xs ++ [v]) (-1) = some v := by
 have hl : (xs ++ [v]).length = xs.length + 1 := by simp
 have e : ixN (xs ++ [v]).length (-1) = some xs.length := by
   unfold ixN
   rw [hl, if_neg (by decide), if_pos (by omega)]
   congr 1
   omega
 unfold atI
 rw [e]
 show (xs ++ [v])[xs.length]? = some v
 simp
def PlainIx (b : Expr) : Prop := ∀ o i, subscripted b false o i = operate [o, i] (getItem o i)
def IxR (X : Cx) (r : R2) : Prop :=
 ∀ (value slice : Expr) (pins : List (Addr × Obj)) (s : Shared) (σ : St) (H : Hp) (x y : V) (v u : Value) (Q : VK), Inv X pins σ H s → RelV x v → RelV y u → r x y H Q →
   subscripted slice false v u = operate [v, u] (getItem v u) → wpAny (model X.prog X.w) X.A (subscriptTail value slice v u) (EP X pins σ Q) X.xe s
def MtR (X : Cx) (id : String) (r : V → List V → Hp → VK → Prop) : Prop :=
 ∀ (pins : List (Addr × Obj)) (s : Shared) (σ : St) (H : Hp) (x : V) (xs : List V) (v : Value) (us : List Value) (Q : VK), Inv X pins σ H s → RelV x v → Vals xs us → r x xs H Q →
   wpAny (model X.prog X.w) X.A (call (.builtin id) (v :: us)) (EP X pins σ Q) X.xe s
section
variable {X : Cx} {a b : Expr} {ta tb : TE} {pos : Pos}
theorem pe_ix {r : R2} (hr : IxR X r) (ha : PE X a ta) (hb : PE X b tb) (hs : PlainIx b) : PE X (.Subscript a b pos) (tOp r ta tb) := by
 intro pins s σ H Q I h
 exact Subscript_ (binT ha hb I h fun v u s2 x y H2 I2 rx ry q => hr a b pins s2 σ H2 x y v u Q I2 rx ry q (hs _ _))
def rIxL (K : W.Frag) : R2 := fun x y H Q => ∃ p xs i v, x = .ref p ∧ y = .int i ∧ SqL K H p xs ∧ atI xs i = some v ∧ Q v H
def rIxT (K : W.Frag) : R2 := fun x y H Q => ∃ p xs i v, x = .ref p ∧ y = .int i ∧ SqT K H p xs ∧ atI xs i = some v ∧ Q v H
def rIxS : R2 := fun x y H Q => ∃ z i c, x = .str z ∧ y = .int i ∧ z.length ≤ sizeLine ∧ atI z.cps.toList i = some c ∧ Q (.str ⟨#[c]⟩) H
theorem ix_list : IxR X (rIxL X.K) := by
 intro value slice pins s σ H x y v u Q I rx ry h hs
 obtain ⟨p, xs, i, z, rfl, rfl, hq, he, q⟩ := h
 cases rx
 obtain ⟨t, rfl⟩ := ry
 obtain ⟨its, r, pl, hz⟩ := I.list hq
 obtain ⟨j, h1, h2, h3, h4, h5⟩ := atI_get he
 obtain ⟨w, ew, rw'⟩ := r.get h2
 have hl := r.length
 have hn := line63
 have fin : EP X pins σ Q w s := ⟨z, H, I, rw', q⟩
 by_cases h0 : 0 ≤ i
 · have hj : i.toNat = j := by
     rw [seqIndex_of h0 h5] at h1
     exact Option.some.inj h1
   exact item_listR pl.isList h0 (by omega) (by rw [hj]; simpa using ew) fin hs
 · have hj : (i + (its.toArray.size : Int)).toNat = j := by
     rw [seqIndex_neg (by omega) h4] at h1
     rw [List.size_toArray, ← hl]
     exact Option.some.inj h1
   exact subscriptTail_builtinR (x := w) pl.isList.typeIs slot_list_getitem.lookup
     (wpAny_getItem_list_neg (Q := fun r s' => r = w ∧ EP X pins σ Q r s') pl.isList (by omega) (by rw [List.size_toArray] <;> omega) (by omega) (by rw [hj]; simpa using ew) ⟨rfl, fin⟩) hs
theorem ix_tup : IxR X (rIxT X.K) := by
 intro value slice pins s σ H x y v u Q I rx ry h hs
 obtain ⟨p, xs, i, z, rfl, rfl, hq, he, q⟩ := h
 cases rx
 obtain ⟨t, rfl⟩ := ry
 obtain ⟨its, r, pl, hz⟩ := I.tuple hq
 obtain ⟨j, h1, h2, h3, h4, h5⟩ := atI_get he
 obtain ⟨w, ew, rw'⟩ := r.get h2
 have hl := r.length
 have hn := line63
 have fin : EP X pins σ Q w s := ⟨z, H, I, rw', q⟩
 exact subscriptTail_builtinR (x := w) pl.typeIs slot_tuple_getitem.lookup
   (getItem_tuple (j := j) (Q := fun r s' => r = w ∧ EP X pins σ Q r s') pl (by omega) (by omega) (by rw [List.size_toArray, ← hl]; exact h1) (by simpa using ew) ⟨rfl, fin⟩) hs
theorem ix_str : IxR X rIxS := by
 intro value slice pins s σ H x y v u Q I rx ry h hs
 obtain ⟨z, i, c, rfl, rfl, hz, he, q⟩ := h
 obtain ⟨t, rfl⟩ := rx
 obtain ⟨t', rfl⟩ := ry
 obtain ⟨j, h1, h2, h3, h4, h5⟩ := atI_get he
 have hl : z.cps.toList.length = z.length := by simp [Str.length]
 rw [hl] at h1 h4 h5
 have hn := line63
 exact tail_any (typeIs_str s z t) slot_str_getitem.lookup (getItem_str (c := c) (by
   have e1 : decide (i < -(2 ^ 63 : Int)) = false := decide_eq_false (by omega)
   have e2 : decide (i ≥ 2 ^ 63) = false := decide_eq_false (by omega)
   rw [e1, e2, Bool.or_false]) (by rw [h1]; simpa using h2) ⟨.str ⟨#[c]⟩, H, I.tok _, ⟨_, rfl⟩, q⟩) hs
theorem mapSeq_set (its : List Value) (n j : Nat) (u : Value) : Obj.mapSeq (·.setIfInBounds j u) { cls := .type "list", data := .seq its.toArray n } = { cls := .type "list", data := .seq (its.set j u).toArray n } := by
 simp [Obj.mapSeq]
theorem Inv.lst {pins : List (Addr × Obj)} {σ : St} {H : Hp} {s : Shared} {p : Addr} {xs : List V} (I : Inv X pins σ H s) (h : H p = some (.lst xs)) :
   ∃ (its : List Value) (n : Nat), Vals xs its ∧ s.heap.get? p = some { cls := .type "list", data := .seq its.toArray n } ∧ xs.length ≤ sizeLine := by
 obtain ⟨z, its, n, r, e⟩ := I.hok p _ h
 exact ⟨its, n, r, e, z⟩
theorem Inv.lstUpd {pins : List (Addr × Obj)} {σ : St} {H : Hp} {s : Shared} {p : Addr} {xs ys : List V} {its its' : List Value} {n n' : Nat} {f : Obj → Obj} (I : Inv X pins σ H s) (h : H p = some (.lst xs))
   (ho : s.heap.get? p = some { cls := .type "list", data := .seq its.toArray n }) (hf : f { cls := .type "list", data := .seq its.toArray n } = { cls := .type "list", data := .seq its'.toArray n' }) (r : Vals ys its') (hz : ys.length ≤ sizeLine) (t : Nat) :
   Inv X pins σ (upd H p (.lst ys)) { s with heap := s.heap.update p f, toks := t } := by
 have e : (s.heap.update p f).get? p = some { cls := .type "list", data := .seq its'.toArray n' } := by
   rw [Heap.get?_update_self f ho (by rw [hf] <;> rfl), hf]
 refine I.write (x := p) (e := p) (by rw [h]; trivial) (.inl rfl) (fun b u hb q => (Heap.get?_update_other _ _ (Ne.symm hb)).trans q) ⟨_, e⟩ ?_
 exact ⟨hz, its', n', r, e⟩
def rSetL : V → V → V → Hp → (Hp → Prop) → Prop := fun o i v H Q => ∃ p xs k j, o = .ref p ∧ i = .int k ∧ H p = some (.lst xs) ∧ ixN xs.length k = some j ∧ Q (upd H p (.lst (xs.set j v)))
theorem set_list : PSet X rSetL := by
 intro pins s σ H o i v ov iv u Q I ro ri rv h
 obtain ⟨p, xs, k, j, rfl, rfl, hp, hj, q⟩ := h
 cases ro
 obtain ⟨t, rfl⟩ := ri
 obtain ⟨its, n, r, ho, hz⟩ := I.lst hp
 obtain ⟨h1, h2, h3, h4⟩ := ixN_seq hj
 have hl := r.length
 have hn := line63
 have I' : Inv X pins σ (upd H p (.lst (xs.set j v))) { s with heap := s.heap.update p (Obj.mapSeq (·.setIfInBounds j u)) } :=
   I.lstUpd hp ho (mapSeq_set its n j u) (r.set rv j) (by rw [List.length_set]; exact hz) s.toks
 by_cases h0 : 0 ≤ k
 · have hk : k.toNat = j := by
     rw [seqIndex_of h0 h4] at h1
     exact Option.some.inj h1
   exact W.ki_setAt ho h0 (by omega) (by rw [List.size_toArray, ← hl]; exact h4) (by rw [hk]; exact ⟨_, I', q⟩)
 · have hk : (k + (its.toArray.size : Int)).toNat = j := by
     rw [seqIndex_neg (by omega) h3] at h1
     rw [List.size_toArray, ← hl]
     exact Option.some.inj h1
   exact W.ki_setBack ho (by omega) (by rw [List.size_toArray, ← hl]; exact h3) (by omega) (by rw [hk]; exact ⟨_, I', q⟩)
theorem slice_bounds (lo hi : Option Int) (n : Nat) : (sliceBounds lo hi none n).1 = ((HT.sIx n 0 lo : Nat) : Int) ∧ (sliceBounds lo hi none n).2.1 = ((HT.sIx n n hi : Nat) : Int) ∧ (sliceBounds lo hi none n).2.2 = 1 := by
 refine ⟨?_, ?_, rfl⟩
 · cases lo with
   | none => simp [sliceBounds, HT.sIx]
   | some i =>
     simp only [sliceBounds, HT.sIx, Option.getD_none, show (1 : Int) > 0 by decide, if_true]
     by_cases h : i < 0
     · simp only [h, if_true] <;> omega
     · simp only [h, if_false] <;> omega
 · cases hi with
   | none => simp [sliceBounds, HT.sIx]
   | some i =>
     simp only [sliceBounds, HT.sIx, Option.getD_none, show (1 : Int) > 0 by decide, if_true]
     by_cases h : i < 0
     · simp only [h, if_true] <;> omega
     · simp only [h, if_false] <;> omega
theorem slicePick_cut (its : List Value) (lo hi : Option Int) : slicePick its.toArray lo hi none = ((its.drop (HT.sIx its.length 0 lo)).take (HT.sIx its.length its.length hi - HT.sIx its.length 0 lo)).toArray := by
 obtain ⟨h1, h2, h3⟩ := slice_bounds lo hi its.toArray.size
 unfold slicePick
 rw [h1, h2, h3]
 simp only [sliceRange_one, pick_run, List.size_toArray] <;> rfl
def rSlL (K : W.Frag) : V → Option Int → Option Int → Hp → VK → Prop := fun x lo hi H Q => ∃ a xs, x = .ref a ∧ SqL K H a xs ∧ ∀ p, H p = none → Q (.ref p) (upd H p (.lst (cutV xs lo hi)))
theorem sl_list : SlR X (rSlL X.K) := by
 intro pins s σ H x v vl vu lo hi sl Q I rx hs pl pu h
 obtain ⟨a, xs, rfl, hx, q⟩ := h
 cases rx
 obtain ⟨its, r, ht, hz⟩ := I.list hx
 have hlen := r.length
 refine ⟨"list", _, slot_list_getitem.lookup, ht.isList.typeIs, ?_⟩
 refine wpAny_getItem_list_slice ht.isList hs pl pu .none (by simp) ?_ (by rw [List.size_toArray] <;> omega)
 rw [slicePick_cut, ← hlen]
 refine ⟨.ref s.heap.objs.size, _, I.laid (t' := s.toks) (o := .lst (cutV xs lo hi)) (fun b ob q => Heap.get?_push_of_some _ q) (Nat.le_refl _) ?_, rfl, q _ (I.hok.fresh (Nat.le_refl _))⟩
 exact ⟨Nat.le_trans (cutV_length xs lo hi) hz, _, 0, (r.drop (HT.sIx xs.length 0 lo)).take (HT.sIx xs.length xs.length hi - HT.sIx xs.length 0 lo), Heap.get?_push_size _ rfl⟩
def flatV : V → Bool
 | .non => true
 | .bl _ => true
 | .int _ => true
 | .str _ => true
 | _ => false
def eqV : V → V → Bool
 | .non, .non => true
 | .bl a, .bl b => a == b
 | .bl a, .int b => (if a then 1 else 0) == b
 | .int a, .bl b => a == (if b then 1 else 0)
 | .int a, .int b => a == b
 | .str a, .str b => a == b
 | _, _ => false
theorem eqAt_V {A : Around} {s : Shared} {y x : V} {u v : Value} (ry : RelV y u) (rx : RelV x v) (fy : flatV y = true) (fx : flatV x = true) : SeqAt.EqAt A s u v (eqV y x) := by
 cases y with
 | non =>
   cases ry
   cases x with
   | non => cases rx; exact SeqAt.EqAt.same _
   | bl b => cases rx; exact SeqAt.EqAt.none_bool b
   | int b => obtain ⟨t, rfl⟩ := rx; exact SeqAt.EqAt.none_int b t
   | str b => obtain ⟨t, rfl⟩ := rx; exact SeqAt.EqAt.none_str b t
   | _ => exact absurd (show false = true from fx) Bool.false_ne_true
 | bl a =>
   cases ry
   cases x with
   | non => cases rx; exact SeqAt.EqAt.bool_none a
   | bl b => cases rx; exact SeqAt.EqAt.bool_bool a b
   | int b => obtain ⟨t, rfl⟩ := rx; exact SeqAt.EqAt.bool_int a b t
   | str b => obtain ⟨t, rfl⟩ := rx; exact SeqAt.EqAt.bool_str a b t
   | _ => exact absurd (show false = true from fx) Bool.false_ne_true
 | int a =>
   obtain ⟨t', rfl⟩ := ry
   cases x with
   | non => cases rx; exact SeqAt.EqAt.int_none a t'
   | bl b => cases rx; exact SeqAt.EqAt.int_bool a t' b
   | int b => obtain ⟨t, rfl⟩ := rx; exact SeqAt.EqAt.int_int a t' b t
   | str b => obtain ⟨t, rfl⟩ := rx; exact SeqAt.EqAt.int_str a t' b t
   | _ => exact absurd (show false = true from fx) Bool.false_ne_true
 | str a =>
   obtain ⟨t', rfl⟩ := ry
   cases x with
   | non => cases rx; exact SeqAt.EqAt.str_none a t'
   | bl b => cases rx; exact SeqAt.EqAt.str_bool a t' b
   | int b => obtain ⟨t, rfl⟩ := rx; exact SeqAt.EqAt.str_int a t' b t
   | str b => obtain ⟨t, rfl⟩ := rx; exact SeqAt.EqAt.str_str a t' b t
   | _ => exact absurd (show false = true from fx) Bool.false_ne_true
 | _ => exact absurd (show false = true from fy) Bool.false_ne_true
def eqU (x : V) (u : Value) : Bool := match u with
 | .none => eqV .non x
 | .bool b => eqV (.bl b) x
 | .int i _ => eqV (.int i) x
 | .str z _ => eqV (.str z) x
 | _ => false
theorem eqU_of {x y : V} {u : Value} (r : RelV y u) (f : flatV y = true) : eqU x u = eqV y x := by
 cases y with
 | non => cases r; rfl
 | bl b => cases r; rfl
 | int i => obtain ⟨t, rfl⟩ := r; rfl
 | str z => obtain ⟨t, rfl⟩ := r; rfl
 | _ => exact absurd (show false = true from f) Bool.false_ne_true
theorem any_eqU {x : V} : ∀ {xs : List V} {us : List Value}, Vals xs us → xs.all flatV = true → us.any (eqU x) = xs.any fun y => eqV y x
 | _, _, .nil, _ => rfl
 | y :: xs, u :: us, .cons r t, f => by
   rw [List.all_cons, Bool.and_eq_true] at f
   rw [List.any_cons, List.any_cons, eqU_of r f.1, any_eqU t f.2]
theorem mem_eqAt {A : Around} {s : Shared} {x : V} {v : Value} (rx : RelV x v) (fx : flatV x = true) : ∀ {xs : List V} {us : List Value}, Vals xs us → xs.all flatV = true → ∀ u ∈ us, SeqAt.EqAt A s u v (eqU x u)
 | _, _, .nil, _ => fun u hu => by cases hu
 | y :: xs, u :: us, .cons r t, f => fun u' hu => by
   rw [List.all_cons, Bool.and_eq_true] at f
   rcases List.mem_cons.mp hu with rfl | hu
   · rw [eqU_of r f.1]; exact eqAt_V r rx f.1 fx
   · exact mem_eqAt rx fx t f.2 u' hu
def inV (x : V) (xs : List V) : Bool := xs.any fun y => eqV y x
def rIn (K : W.Frag) (neg : Bool) : R2 := fun x y H Q => ∃ p xs, y = .ref p ∧ (SqL K H p xs ∨ SqT K H p xs) ∧ flatV x = true ∧ xs.all flatV = true ∧ Q (.bl (if neg then !inV x xs else inV x xs)) H
theorem op_in_seq : OpR X (compareOp .In) (rIn X.K false) := by
 intro pins s σ H x y v u Q I rx ry h
 obtain ⟨p, xs, rfl, hq, fx, fs, q⟩ := h
 cases ry
 rcases hq with hq | hq
 · obtain ⟨its, r, pl, hz⟩ := I.list hq
   refine SeqAt.in_listAt (eqU x) pl.isList (fun w hw => mem_eqAt rx fx r fs w (by simpa using hw)) ⟨.bl _, H, I, rfl, ?_⟩
   rw [show its.toArray.any (eqU x) = its.any (eqU x) by simp, any_eqU r fs]
   exact q
 · obtain ⟨its, r, pl, hz⟩ := I.tuple hq
   refine SeqAt.in_tupleAt (eqU x) pl (fun w hw => mem_eqAt rx fx r fs w (by simpa using hw)) ⟨.bl _, H, I, rfl, ?_⟩
   rw [show its.toArray.any (eqU x) = its.any (eqU x) by simp, any_eqU r fs]
   exact q
theorem op_notIn_seq : OpR X (compareOp .NotIn) (rIn X.K true) := by
 intro pins s σ H x y v u Q I rx ry h
 obtain ⟨p, xs, rfl, hq, fx, fs, q⟩ := h
 cases ry
 rcases hq with hq | hq
 · obtain ⟨its, r, pl, hz⟩ := I.list hq
   refine SeqAt.notIn_listAt (eqU x) pl.isList (fun w hw => mem_eqAt rx fx r fs w (by simpa using hw)) ⟨.bl _, H, I, rfl, ?_⟩
   rw [show its.toArray.any (eqU x) = its.any (eqU x) by simp, any_eqU r fs]
   exact q
 · obtain ⟨its, r, pl, hz⟩ := I.tuple hq
   refine SeqAt.notIn_tupleAt (eqU x) pl (fun w hw => mem_eqAt rx fx r fs w (by simpa using hw)) ⟨.bl _, H, I, rfl, ?_⟩
   rw [show its.toArray.any (eqU x) = its.any (eqU x) by simp, any_eqU r fs]
   exact q
theorem op_notIn_str : OpR X (compareOp .NotIn) (fun x y H Q => ∃ i j, x = .str i ∧ y = .str j ∧ Q (.bl (!(!(Builtin.Str.occurrences j i 0 j.length 1).isEmpty))) H) := by
 intro pins s σ H x y v u Q I rx ry h
 obtain ⟨i, j, rfl, rfl, q⟩ := h
 obtain ⟨t, rfl⟩ := rx
 obtain ⟨t', rfl⟩ := ry
 exact notIn_str ⟨.bl _, H, I, rfl, q⟩
theorem call_len_seq : CallR X (.builtin "len") (fun xs H Q => ∃ p ys, xs = [.ref p] ∧ (SqL X.K H p ys ∨ SqT X.K H p ys) ∧ Q (.int ys.length) H) := by
 intro pins s σ H xs us Q I r h
 obtain ⟨p, ys, rfl, hq, q⟩ := h
 obtain ⟨u, rfl, rx⟩ := vals1 r
 cases rx
 have hn := line63
 rcases hq with hq | hq
 · obtain ⟨its, r', pl, hz⟩ := I.list hq
   have hlen := r'.length
   exact Calls.call_len_list pl.isList (by simp only [List.size_toArray] <;> omega) ⟨.int ys.length, H, I.tok _, ⟨s.toks + 1, by rw [List.size_toArray, hlen]⟩, q⟩
 · obtain ⟨its, r', pl, hz⟩ := I.tuple hq
   have hlen := r'.length
   exact len_tuple pl (by simp only [List.size_toArray] <;> omega) ⟨.int ys.length, H, I.tok _, ⟨s.toks + 1, by rw [List.size_toArray, hlen]⟩, q⟩
theorem call_len_str : CallR X (.builtin "len") (fun xs H Q => ∃ z, xs = [.str z] ∧ z.length ≤ sizeLine ∧ Q (.int z.length) H) := by
 intro pins s σ H xs us Q I r h
 obtain ⟨z, rfl, hz, q⟩ := h
 obtain ⟨u, rfl, t, rfl⟩ := vals1 r
 have hn := line63
 exact len_str (by omega) ⟨.int z.length, H, I.tok _, ⟨_, rfl⟩, q⟩
theorem call_list_of : CallR X (.type "list") (fun xs H Q => ∃ p ys, xs = [.ref p] ∧ (SqL X.K H p ys ∨ SqT X.K H p ys) ∧ ∀ l, H l = none → Q (.ref l) (upd H l (.lst ys))) := by
 intro pins s σ H xs us Q I r h
 obtain ⟨p, ys, rfl, hq, q⟩ := h
 obtain ⟨u, rfl, rx⟩ := vals1 r
 cases rx
 have fin : ∀ (its : List Value), Vals ys its → ys.length ≤ sizeLine → ∀ (h' : Heap) (c' : Nat), (∀ b o', s.heap.get? b = some o' → h'.get? b = some o') →
     h'.get? s.heap.objs.size = some { cls := .type "list", dict := none, data := .seq its.toArray c', slots := #[] } → EP X pins σ Q (.ref s.heap.objs.size) { s with heap := h' } := fun its r' hz h' c' kp e =>
   ⟨.ref s.heap.objs.size, _, I.laid (t' := s.toks) kp (Nat.le_refl _) (show ObjOk X.prog X.w _ h' _ (.lst ys) from ⟨hz, its, c', r', e⟩), rfl, q _ (I.hok.fresh (Nat.le_refl _))⟩
 rcases hq with hq | hq
 · obtain ⟨its, r', pl, hz⟩ := I.list hq
   have hlen := r'.length
   obtain ⟨o, ho, hc, n, hd⟩ := pl.isList
   exact call_list_seq p (.inl rfl) ho hc hd (fun h' c' kp e => fin its r' hz h' c' kp e) (by simp only [List.size_toArray] <;> omega)
 · obtain ⟨its, r', pl, hz⟩ := I.tuple hq
   have hlen := r'.length
   obtain ⟨o, ho, hc, n, hd⟩ := pl
   exact call_list_seq p (.inr rfl) ho hc hd (fun h' c' kp e => fin its r' hz h' c' kp e) (by simp only [List.size_toArray] <;> omega)
theorem call_tuple_of : CallR X (.type "tuple") (fun xs H Q => ∃ p ys, xs = [.ref p] ∧ ((SqL X.K H p ys ∧ ∀ l, H l = none → Q (.ref l) (upd H l (.tup ys))) ∨ (SqT X.K H p ys ∧ Q (.ref p) H))) := by
 intro pins s σ H xs us Q I r h
 obtain ⟨p, ys, rfl, h⟩ := h
 obtain ⟨u, rfl, rx⟩ := vals1 r
 cases rx
 rcases h with ⟨hq, q⟩ | ⟨hq, q⟩
 · obtain ⟨its, r', pl, hz⟩ := I.list hq
   have hlen := r'.length
   refine call_tuple_list pl.isList (fun h' kp => ?_) (by simp only [List.size_toArray] <;> omega)
   have I1 : Inv X pins σ H { s with heap := h' } := I.kept (t' := s.toks) kp
   have I2 : Inv X pins σ (upd H h'.objs.size (.tup ys)) { s with heap := h'.push { cls := .type "tuple", data := .seq its.toArray } } :=
     I1.laid (t' := s.toks) (fun b o e => Heap.get?_push_of_some _ e) (Nat.le_refl _) (show ObjOk X.prog X.w _ _ _ (.tup ys) from ⟨hz, its, r', IsTup.new _ _⟩)
   exact ⟨.ref h'.objs.size, _, I2, rfl, q _ (I1.hok.fresh (Nat.le_refl _))⟩
 · obtain ⟨its, r', pl, hz⟩ := I.tuple hq
   exact call_tuple_same pl ⟨.ref p, H, I, rfl, q⟩
def tyV (K : W.Frag) (T : String) (x : V) (H : Hp) : Prop := match x with
 | .str _ => T = "str"
 | .int _ => T = "int"
 | .ref p => (T = "list" ∧ ∃ xs, SqL K H p xs) ∨ (T = "tuple" ∧ ∃ o, K.lookup p = some o ∧ o.cls = .type "tuple" ∧ o.dict = none) ∨
     (T = "dict" ∧ ((∃ kvs, H p = some (.dK kvs)) ∨ ∃ kvs, H p = some (.dT kvs))) ∨ (T = "set" ∧ ∃ S n, H p = some (.set S n))
 | _ => False
theorem tyV_is {pins : List (Addr × Obj)} {σ : St} {H : Hp} {s : Shared} {T : String} {x : V} {v : Value} (I : Inv X pins σ H s) (r : RelV x v) (ty : tyV X.K T x H) :
   s.TypeIs v T ∧ ∀ a, v = .ref a → ∃ ob, s.heap.get? a = some ob ∧ ob.dict = none := by
 cases x with
 | str z =>
   obtain ⟨t, rfl⟩ := r
   cases (show T = "str" from ty)
   exact ⟨typeIs_str s z t, fun _ e => nomatch e⟩
 | int i =>
   obtain ⟨t, rfl⟩ := r
   cases (show T = "int" from ty)
   exact ⟨typeIs_int s i t, fun _ e => nomatch e⟩
 | ref p =>
   cases r
   rcases ty with ⟨rfl, xs, hq⟩ | ⟨rfl, o, hk, hc, hd⟩ | ⟨rfl, hk⟩ | ⟨rfl, S, n, hk⟩
   · obtain ⟨its, _, pl, _⟩ := I.list hq
     refine ⟨pl.isList.typeIs, fun a e => ?_⟩
     cases e
     obtain ⟨o, n, e, c, hd, _⟩ := pl
     exact ⟨o, e, hd⟩
   · refine ⟨⟨o, I.kIn p o hk, hc⟩, fun a e => ?_⟩
     cases e
     exact ⟨o, I.kIn _ o hk, hd⟩
   · have z : ∃ o, s.heap.get? p = some o ∧ o.ExactDict := by
       rcases hk with ⟨kvs, hk⟩ | ⟨kvs, hk⟩
       · obtain ⟨_, _, _, _, o, _, _, e, ex, _⟩ := I.hok p _ hk
         exact ⟨o, e, ex⟩
       · obtain ⟨_, _, _, _, o, _, _, e, ex, _⟩ := I.hok p _ hk
         exact ⟨o, e, ex⟩
     obtain ⟨o, e, ex⟩ := z
     refine ⟨⟨o, e, ex.1⟩, fun a e2 => ?_⟩
     cases e2
     exact ⟨o, e, ex.2.1⟩
   · obtain ⟨o, _, _, _, e, ex, _⟩ := I.hok p _ hk
     refine ⟨⟨o, e, ex.1⟩, fun a e2 => ?_⟩
     cases e2
     exact ⟨o, e, ex.2.1⟩
 | _ => exact False.elim ty
def tBM0 (K : W.Frag) (T : String) (r : V → List V → Hp → VK → Prop) (to : TE) : TE := fun σ H Q => to σ H fun x H1 => tyV K T x H1 ∧ r x [] H1 Q
def tBM (K : W.Frag) (T : String) (r : V → List V → Hp → VK → Prop) (to : TE) (t : TA) : TE := fun σ H Q => to σ H fun x H1 => tyV K T x H1 ∧ t σ H1 fun xs H2 => r x xs H2 Q
variable {o e : Expr} {es : List Expr} {to : TE} {t : TA} {name : Str} {apos cpos : Pos} {T id : String} {r : V → List V → Hp → VK → Prop}
theorem pe_bm0 (pa : PlainAttrs T) (slot : Slot T name id) (hty : typeOf (.builtin id) = pure (.type "method_descriptor")) (hm : MtR X id r) (ho : PE X o to)
   (hbase : attributeBase o name X.env (eval o X.env) = eval o X.env := by rfl) (hline : (apos.endLine == cpos.line) = true := by rfl) : PE X (.Call (.Attribute o name apos) [] [] cpos) (tBM0 X.K T r to) := by
 intro pins s σ H Q I h
 refine wpAny_Call_method0_late hbase hline (thn (ho pins s σ H _ I h) fun v s1 ⟨x, H1, I1, r1, ty, q1⟩ => ?_)
 obtain ⟨h1, h2⟩ := tyV_is I1 r1 ty
 exact ⟨T, id, pa, slot, hty, h1, h2, Calls.callWith_builtin rfl (PySem.evalArgs_none (hm pins s1 σ H1 x [] v [] Q I1 r1 .nil q1))⟩
theorem pe_bm (pa : PlainAttrs T) (slot : Slot T name id) (hty : typeOf (.builtin id) = pure (.type "method_descriptor")) (hm : MtR X id r) (ho : PE X o to) (ha : PA X (e :: es) t)
   (hbase : attributeBase o name X.env (eval o X.env) = eval o X.env := by rfl)
   (hfew : ((backTo cpos (starEach (e :: es) X.env)).all (fun x => !x.1) && (backToKw cpos (keywordEach [] X.env)).all (fun x => x.1.isSome)
     && decide ((e :: es).length + ([] : List Keyword).length + (if ([] : List Keyword).isEmpty then 0 else 1) < 30)) = true := by rfl)
   (hline : (apos.endLine == cpos.line) = true := by rfl) (hs : starEach (e :: es) X.env = (false, eval e X.env) :: starEach es X.env := by rfl) (hplain : (backTo cpos (starEach es X.env)).any (·.1) = false := by rfl) :
   PE X (.Call (.Attribute o name apos) (e :: es) [] cpos) (tBM X.K T r to t) := by
 intro pins s σ H Q I h
 refine wpAny_Call_method_late hbase hfew hline rfl (thn (ho pins s σ H _ I h) fun v s1 ⟨x, H1, I1, r1, ty, q1⟩ => ?_)
 obtain ⟨h1, h2⟩ := tyV_is I1 r1 ty
 refine ⟨T, id, pa, slot, hty, h1, h2, ?_⟩
 have hA := ha cpos pins s1 σ H1 _ I1 q1
 rw [hs] at hA ⊢
 refine Calls.callWith_builtin (by show (false || (backTo cpos (starEach es X.env)).any (·.1)) = false; rw [hplain] <;> rfl) (Calls.evalArgs_plain ?_)
 exact thn hA fun us s2 ⟨vs, H2, I2, r2, q2⟩ => hm pins s2 σ H2 x vs v us Q I2 r1 r2 q2
end
end L2
namespace L2
open PySem PySem.Spec PyProof.Rows
def MtM (X : Cx) (id : String) (r : V → List V → Hp → VK → Prop) : Prop :=
 ∀ (pins : List (Addr × Obj)) (s : Shared) (σ : St) (H : Hp) (x : V) (xs : List V) (v : Value) (us : List Value) (Q : VK), Inv X pins σ H s → RelV x v → Vals xs us → r x xs H Q →
   wpAny (model X.prog X.w) X.A (call (.builtin id) (v :: us)) (EP X pins σ Q) X.xe s
theorem Vals.one : ∀ {x : V} {us : List Value}, Vals [x] us → ∃ u, us = [u] ∧ RelV x u
 | _, _, .cons r .nil => ⟨_, rfl, r⟩
theorem Vals.zero : ∀ {us : List Value}, Vals [] us → us = []
 | _, .nil => rfl
theorem Vals.dropLast {xs : List V} {us : List Value} (h : Vals xs us) : Vals xs.dropLast us.dropLast := by
 induction h with
 | nil => exact .nil
 | cons r t ih =>
   cases t with
   | nil => exact .nil
   | cons q t' => exact .cons r ih
theorem erase_last {α : Type} (l : List α) : l.eraseIdx (l.length - 1) = l.dropLast := by
 induction l with
 | nil => rfl
 | cons a r ih =>
   cases r with
   | nil => rfl
   | cons b r =>
     have e : (a :: b :: r).length - 1 = ((b :: r).length - 1) + 1 := by
       have h1 : (a :: b :: r).length = r.length + 2 := rfl
       have h2 : (b :: r).length = r.length + 1 := rfl
       omega
     rw [e, List.eraseIdx_cons_succ, ih]
     all_goals rfl
section
variable {X : Cx} {pins : List (Addr × Obj)} {σ : St} {H : Hp} {s : Shared} {l b : Addr} {xs ys zs : List V}
theorem Inv.lset {its its' : List Value} {n : Nat} {f : Array Value → Array Value} {t' : Nat} (I : Inv X pins σ H s) (hH : H l = some (.lst xs))
   (e : s.heap.get? l = some { cls := .type "list", data := .seq its.toArray n }) (hf : f its.toArray = its'.toArray) (hv : Vals ys its') (hz : ys.length ≤ sizeLine) :
   Inv X pins σ (upd H l (.lst ys)) { s with heap := s.heap.update l (Obj.mapSeq f), toks := t' } := by
 have q := PySem.IsL.update e f
 rw [hf] at q
 refine I.write (x := l) (e := l) (by rw [hH]; exact trivial) (.inl rfl) (fun b' u hb hu => (Heap.get?_update_other s.heap (Obj.mapSeq f) (Ne.symm hb)).trans hu) ⟨_, q⟩ ?_
 exact ⟨hz, its', _, hv, q⟩
theorem Inv.lnew {its : List Value} {t' : Nat} (I : Inv X pins σ H s) (hv : Vals ys its) (hz : ys.length ≤ sizeLine) :
   Inv X pins σ (upd H s.heap.objs.size (.lst ys)) { s with heap := s.heap.push { cls := .type "list", data := .seq its.toArray }, toks := t' } :=
 I.laid (fun _ _ q => Heap.get?_push_of_some _ q) (Nat.le_refl _) ⟨hz, its, 0, hv, Heap.get?_push_size _ rfl⟩
theorem Inv.fresh (I : Inv X pins σ H s) : H s.heap.objs.size = none := I.hok.fresh (Nat.le_refl _)
theorem Inv.lstM (I : Inv X pins σ H s) (hH : H l = some (.lst xs)) : xs.length ≤ sizeLine ∧ ∃ (its : List Value) (n : Nat), Vals xs its ∧ xs.length = its.length ∧ s.heap.get? l = some { cls := .type "list", data := .seq its.toArray n } := by
 obtain ⟨z, its, n, r, e⟩ := I.hok l _ hH
 exact ⟨z, its, n, r, r.length, e⟩
theorem notLongL {n : Nat} (h : n ≤ sizeLine) : Builtin.List.listTooLong n = false := by
 unfold Builtin.List.listTooLong
 exact decide_eq_false (by omega)
end
section
variable {X : Cx}
def rAppend : V → List V → Hp → VK → Prop := fun x vs H Q => ∃ l xs y, x = .ref l ∧ vs = [y] ∧ H l = some (.lst xs) ∧ xs.length < sizeLine ∧ Q .non (upd H l (.lst (xs ++ [y])))
theorem mt_append : MtM X "list.append" rAppend := by
 intro pins s σ H x vs v us Q I rx rv h
 obtain ⟨l, xs, y, rfl, rfl, hH, hz, q⟩ := h
 cases rx
 obtain ⟨u, rfl, ru⟩ := rv.one
 obtain ⟨z, its, n, r, hl, e⟩ := I.lstM hH
 refine call_meets F.slot_list_append ⟨_, e, rfl⟩ F.entry_list_append (F.args_list_append_2 _ _) (PySem.list_append l its.toArray n u (by rw [List.size_toArray]; omega)) ⟨e, ?_⟩
 refine ⟨.non, _, I.lset (its' := its ++ [u]) hH e (by simp) (r.append (.cons ru .nil)) ?_, rfl, q⟩
 rw [List.length_append, List.length_singleton]
 omega
def rExtend : V → List V → Hp → VK → Prop := fun x vs H Q => ∃ l b xs zs, x = .ref l ∧ vs = [.ref b] ∧ H l = some (.lst xs) ∧ H b = some (.lst zs) ∧ xs.length + zs.length ≤ sizeLine ∧ Q .non (upd H l (.lst (xs ++ zs)))
theorem mt_extend : MtM X "list.extend" rExtend := by
 intro pins s σ H x vs v us Q I rx rv h
 obtain ⟨l, b, xs, zs, rfl, rfl, hH, hB, hz, q⟩ := h
 cases rx
 obtain ⟨u, rfl, ru⟩ := rv.one
 cases ru
 obtain ⟨z, its, n, r, hl, e⟩ := I.lstM hH
 obtain ⟨z2, its2, n2, r2, hl2, e2⟩ := I.lstM hB
 have hsz : its.toArray.size + its2.toArray.size ≤ sizeLine := by rw [List.size_toArray, List.size_toArray]; omega
 have hlong : ¬ (!its.toArray.isEmpty && Builtin.List.listTooLong (its.toArray.size + its2.toArray.size)) = true := by
   rw [notLongL hsz, Bool.and_false]
   exact Bool.false_ne_true
 refine call_meets F.slot_list_extend ⟨_, e, rfl⟩ F.entry_list_extend (F.args_list_extend_2 _ _)
   (AutoSeq1.list_extend_list_list_0 l its.toArray n b its2.toArray n2 hlong (by rw [List.size_toArray]; omega) (by omega)) ⟨e, e2, ?_⟩
 refine ⟨.non, _, I.lset (its' := its ++ its2) hH e (by simp) (r.append r2) ?_, rfl, q⟩
 rw [List.length_append]
 omega
def rPop : V → List V → Hp → VK → Prop := fun x vs H Q => ∃ l xs y, x = .ref l ∧ vs = [] ∧ H l = some (.lst xs) ∧ xs[xs.length - 1]? = some y ∧ Q y (upd H l (.lst xs.dropLast))
theorem mt_pop : MtM X "list.pop" rPop := by
 intro pins s σ H x vs v us Q I rx rv h
 obtain ⟨l, xs, y, rfl, rfl, hH, hy, q⟩ := h
 cases rx
 have hus := rv.zero
 subst hus
 obtain ⟨z, its, n, r, hl, e⟩ := I.lstM hH
 obtain ⟨u, hu, ru⟩ := r.get hy
 have hy' : its.toArray[its.toArray.size - 1]? = some u := by
   show its.toArray[its.length - 1]? = some u
   rw [← Array.getElem?_toList, ← hl]
   exact hu
 refine call_meets F.slot_list_pop ⟨_, e, rfl⟩ F.entry_list_pop (F.args_list_pop_1 _) (MeetsSeq.list_pop_last l its.toArray n u hy' (by rw [List.size_toArray]; omega)) ⟨e, ?_⟩
 refine ⟨y, _, I.lset (its' := its.dropLast) hH e ?_ r.dropLast ?_, ru, q⟩
 · show its.toArray.eraseIdxIfInBounds (its.toArray.size - 1) = its.dropLast.toArray
   rw [List.size_toArray, List.eraseIdxIfInBounds_toArray, erase_last]
 · rw [List.length_dropLast]
   omega
end
end L2
namespace Att
open PySem PySem.W PySem.Calls PyProof.Rows
theorem ints_of_wellAll {P : Params} {h : Heap} : ∀ (ns : List Int) (vs : List Value), WellAll P h vs (ns.map WData.int) → IntsAre vs ns := by
 intro ns
 induction ns with
 | nil =>
   intro vs w
   rw [List.map_nil] at w
   cases w
   exact .nil
 | cons n ns ih =>
   intro vs w
   rw [List.map_cons] at w
   cases w with
   | cons a b =>
     cases a
     exact .cons _ _ (ih _ b)
theorem script_of {l : OpenLaw} {n : Nat} (hn : l.most = some n) {P : Params} {h : Heap} {args : List WData} {vals : List Value}
   (hpre : l.row.toRowW.claim.pre args = true) (hwl : WellAll P h vals args) :
   ∃ a vs ns, vals = [Value.ref a] ∧ args = [WData.list (ns.map WData.int)] ∧ h.get? a = some { cls := .type "list", data := .seq vs.toArray } ∧ IntsAre vs ns ∧ ns.length ≤ n := by
 have hsh : WShape.hasAll [] args [.list .int] = true := (pre_splitW hpre).1
 have hc : l.pre.holds [] { args := args } = true := (pre_splitW hpre).2
 obtain ⟨d, r, rfl, h1, h2⟩ := hasAllW_cons hsh
 obtain rfl := hasAllW_nil h2
 obtain ⟨xs, rfl, h3⟩ := hasW_list h1
 obtain ⟨ns, rfl⟩ := items_int h3
 have hlen : ns.length ≤ n := by
   unfold OpenLaw.pre at hc
   have h4 : (WTm.not (.lt (.lit (.int (n : Int))) (.len (.arg 0)))).holds [] { args := [.list (ns.map .int)] } = true := by
     have h4 := (holds_andW hc).1
     rw [hn] at h4
     exact h4
   have h5 := condW_of h4 (w_not (w_lt w_lit (w_len_list (w_arg rfl))))
   rw [List.length_map] at h5
   refine Nat.le_of_not_lt fun q => ?_
   have q' : (n : Int) < ((ns.length : Nat) : Int) := by omega
   first
     | (rw [decide_eq_true q'] at h5; exact absurd h5 (by decide))
     | (simp at h5; omega)
 cases hwl with
 | cons w1 w2 =>
   cases w2
   cases w1 with
   | list ho hall => exact ⟨_, _, ns, rfl, rfl, ho, ints_of_wellAll ns _ hall, hlen⟩
theorem post_true (l : OpenLaw) (args : List WData) : l.row.toRowW.claim.post args (.bool true) args = true :=
 postW_of (r := l.row.toRowW) (X := (true == true))
   (show WShape.has [] (.bool true) .bool = true by first | rfl | decide | simp [WShape.has, WShape.arms, WShape.armsAll])
   (show (WTm.eq .res (.lit (.bool true))).value [] { args := args, res := some (.bool true), after := args } = some (.bool (true == true)) from w_eq_bool (w_res rfl) w_lit) rfl
theorem attach_call {l : OpenLaw} {n : Nat} {q : Program} {loose : List Str} {XP : (Str → Option Value) → Heap → Prop} {YP : World → Heap → Prop} {d : DefRec}
   (hn : l.most = some n) (hdf : d.params.defaults = [])
   (call : ∀ (w : World) (s₀ s₁ : Shared) (mg mb : Str → Option Value) (fa : Addr) (o : Obj) (pm cd doc : Value) (a : Addr) (vs : List Value) (ns : List Int),
     Ground q loose [] XP w s₀ mg mb s₁.heap → YP w s₁.heap →
     s₁.heap.get? fa = some o → o.data = .func (docDef d.name d.params d.body d.scope pm cd doc) → s₁.heap.CodeRec cd d.name → mg d.name = some (.ref fa) →
     s₁.heap.get? a = some { cls := .type "list", data := .seq vs.toArray } → IntsAre vs ns → ns.length ≤ n → s₁.gens = #[] →
     codeAny (model l.prog w) callerA (.call (.ref fa) ⟨[.ref a], []⟩) (fun r s' => r = .ok (.ret (.bool true)) ∧ OldK s₁.heap s'.heap ∧ s'.os = s₁.os ∧ AllBare s'.gens) s₁) :
   WalkO q loose XP YP l.row.toRowW d [] (fun f vs => PySem.call f vs) := by
 intro w s₀ s₁ mg mb G Y fa o pm cd doc dV kV ho hd hcd hD hmg hg args vals as hpre hlay hrd hwl hlo
 obtain rfl : dV = .none := Dflts.none hD hdf
 obtain rfl : kV = .none := Dflts.noKw hD
 obtain ⟨a, vs, ns, rfl, rfl, hobj, hints, hlen⟩ := script_of hn hpre hwl
 refine enter_call (codeAny_mono (call w s₀ s₁ mg mb fa o pm cd doc a vs ns G Y ho (fd_plain hd) hcd hmg hobj hints hlen hg) fun r s' hq => ?_)
 obtain ⟨rfl, h2, h3, h4⟩ := hq
 exact ⟨.inl ⟨.bool true, .bool true, [], rfl, fun _ => rfl, .bool true, post_true l _, fun _ => ⟨List.Pairwise.nil, fun _ hm => (nomatch hm)⟩⟩, h2, h3, h4⟩
end Att
namespace L2
open PySem PySem.Spec PyProof.Rows
theorem vals_ints : ∀ {vs : List Value} {ns : List Int}, IntsAre vs ns → Vals (ns.map V.int) vs
 | _, _, .nil => .nil
 | _, _, .cons n t h => .cons ⟨t, rfl⟩ (vals_ints h)
def Only (H : Hp) : Prop := ∀ b, H b = none ∨ ∃ o xs, H b = some (.frz o (.lst xs))
theorem law_call {P : Program} {w : World} {K : W.Frag} {mg mb : Str → Option Value} {CX : CXT} {k : Nat} {fa a : Addr} {fd : FuncData} {x : Str} {sp : Sp} {s₁ : Shared} {vs : List Value} {ns : List Int}
   (KX : K.In s₁.heap) (hns : s₁.heap.Ns mainGlobals mg) (hb : s₁.heap.Ns builtinsNs mb) (hbb : ∀ x : Str, x ≠ "__name__" → mb x = bootBuiltins x) (hlim : s₁.heap.NoLimit) (hg : s₁.gens = #[])
   (ha : s₁.heap.get? a = some { cls := .type "list", data := .seq vs.toArray }) (hi : IntsAre vs ns) (hl : ns.length ≤ sizeLine) (hr : Room k callerA)
   (F : ∀ base : Heap, K.In base → base.Ns mainGlobals mg → FnOk P w K mg base CX k fa fd [x] sp) (hbind : ∀ (s : Shared) (u : Value), BindsTo s fd ⟨[u], []⟩ [(x, u)])
   (hsp : ∀ H : Hp, Only H → SqL K H a (ns.map V.int) → sp [.ref a] H (fun v _ => v = .bl true) fun _ _ _ => False)
   (hCX : ∀ H e s', CX [] H s₁ (fun _ _ _ => False) e s' → False) :
   codeAny (model P w) callerA (.call (.ref fa) ⟨[.ref a], []⟩) (fun r s' => r = .ok (.ret (.bool true)) ∧ OldK s₁.heap s'.heap ∧ s'.os = s₁.os ∧ AllBare s'.gens) s₁ := by
 have rv := vals_ints hi
 have lenV := hi.length
 -- from an abstract heap in which nothing but the script may be tracked
 have core : ∀ H : Hp, Only H → SqL K H a (ns.map V.int) → HOk P w H s₁.heap → (∀ b, H b ≠ none → b = a) → (H a ≠ none → K.lookup a = none) →
     codeAny (model P w) callerA (.call (.ref fa) ⟨[.ref a], []⟩) (fun r s' => r = .ok (.ret (.bool true)) ∧ OldK s₁.heap s'.heap ∧ s'.os = s₁.os ∧ AllBare s'.gens) s₁ := by
   intro H hO hS hok hA hK
   have base_of : ∀ {b : Addr} {o : Obj}, s₁.heap.get? b = some o → H b = none → (hidT s₁.heap H).get? b = some o := fun e n => hidT_get e n
   have noA : ∀ {b : Addr} {o : Obj} {es : Array DictEntry} {ep : Nat}, s₁.heap.get? b = some o → o.data = .dict es ep → H b = none := fun {b o es ep} e d => by
     cases q : H b with
     | none => rfl
     | some u =>
       have e' : b = a := hA b (by rw [q]; simp)
       subst e'
       rw [ha] at e; cases e
       have d' : Data.seq vs.toArray _ = Data.dict es ep := d
       cases d'
   have nsK : ∀ {b : Addr} {m : Str → Option Value}, s₁.heap.Ns b m → (hidT s₁.heap H).Ns b m := fun {b m} ⟨o, es, ep, e, d, r⟩ => ⟨o, es, ep, base_of e (noA e d), d, r⟩
   have hKb : K.In (hidT s₁.heap H) := fun b o e => base_of (KX b o e) (by
     cases q : H b with
     | none => rfl
     | some u =>
       have e' : b = a := hA b (by rw [q]; simp)
       subst e'
       rw [hK (by rw [q]; simp)] at e; cases e)
   have hM : Mod K mg (hidT s₁.heap H) := ⟨hKb, nsK hns, ⟨mb, nsK hb, hbb⟩, let ⟨mc, h1, h2⟩ := hlim; ⟨mc, nsK h1, h2⟩⟩
   have e0 : Env0 P w K mg (hidT s₁.heap H) callerA [] s₁ H := ⟨rfl, hM, fun b o e => of_hidT e, Nat.le_of_eq (hidT_size _ _), trivial, fun b hb => absurd (show b ∈ ([] : List Addr) from hb) (by simp), hok, .of_eq hg⟩
   refine codeAny_mono ((F _ hKb (nsK hns)).run callerA [] s₁ H ⟨[.ref a], []⟩ [.ref a] [.ref a] _ _ hr e0 (hbind s₁ (.ref a)) (.cons rfl .nil) (hsp H hO hS)) fun r s' h => ?_
   cases r with
   | error e => exact (hCX H e s' h).elim
   | ok fl =>
     cases fl with
     | next => exact False.elim h
     | brk => exact False.elim h
     | cont => exact False.elim h
     | ret u =>
       obtain ⟨v, H', os, bare, un, hok', r', q⟩ := h
       have q' : v = .bl true := q
       subst q'
       obtain rfl : u = Value.bool true := r'
       refine ⟨rfl, OldK.of_keep fun b o e => ?_, os, bare⟩
       cases q : H b with
       | none => exact un.keep b o e q (by intro z; exact absurd (show b ∈ ([] : List Addr) from z) (by simp)) (by simp)
       | some u =>
         rcases hO b with z | ⟨ob, xs, z⟩
         · rw [q] at z; cases z
         · have z2 := un.frzs b ob _ z
           obtain ⟨e1, _⟩ := hok b _ z
           obtain ⟨e2, _⟩ := hok' b _ z2
           rw [e] at e1; cases e1
           exact e2
 cases hk : K.lookup a with
 | some o =>
   -- the script is one of the module's own objects
   have e := KX a o hk
   rw [ha] at e
   cases e
   refine core (fun _ => none) (fun _ => .inl rfl) (.inr ⟨_, vs.toArray, _, hk, rfl, rfl, rfl, by rw [List.size_toArray, lenV]; exact hl, by simpa using rv⟩) (fun b u z => by have z' : (none : Option HO) = some u := z; cases z') (fun b z => absurd rfl z) fun z => absurd rfl z
 | none =>
   refine core (fun b => if b = a then some (.frz { cls := .type "list", data := .seq vs.toArray } (.lst (ns.map V.int))) else none) (fun b => ?_) (.inl (.inr ⟨{ cls := .type "list", data := .seq vs.toArray }, if_pos rfl⟩)) (fun b u z => ?_) (fun b z => ?_) fun _ => hk
   · by_cases hb : b = a
     · exact .inr ⟨_, _, if_pos hb⟩
     · exact .inl (if_neg hb)
   · by_cases hb : b = a
     · have z' := (if_pos hb).symm.trans z
       cases z'
       subst hb
       exact ⟨ha, by rw [List.length_map]; exact hl, vs, _, rv, ha⟩
     · have z' := (if_neg hb).symm.trans z
       cases z'
   · by_cases hb : b = a
     · exact hb
     · exact absurd (if_neg hb) z
end L2
namespace L2
open PySem PySem.Spec PyProof.Rows
theorem walk_of {l : W.OpenLaw} {n k : Nat} {q : Program} {loose : List Str} {XP : (Str → Option Value) → Heap → Prop} {YP : World → Heap → Prop} {d : DefRec} {K : Params → W.Frag} {CX : World → CXT} {sp : World → Sp} {x : Str}
   (hn : l.most = some n) (hn2 : n ≤ sizeLine) (hdf : d.params.defaults = []) (hr : Room k callerA)
   (hY : ∀ (w : World) (h : Heap), YP w h → (K w.params).In h)
   (F : ∀ (w : World) (mg : Str → Option Value) (fa : Addr) (h : Heap), (K w.params).In h → h.Ns mainGlobals mg → mg d.name = some (.ref fa) →
     ∃ fd : FuncData, (∀ (s : Shared) (u : Value), BindsTo s fd ⟨[u], []⟩ [(x, u)]) ∧
       ∀ base : Heap, (K w.params).In base → base.Ns mainGlobals mg → FnOk l.prog w (K w.params) mg base (CX w) k fa fd [x] (sp w))
   (hsp : ∀ (w : World) (H : Hp) (a : Addr) (ns : List Int), ns.length ≤ n → Only H → SqL (K w.params) H a (ns.map V.int) → sp w [.ref a] H (fun v _ => v = .bl true) fun _ _ _ => False)
   (hCX : ∀ (w : World) (H : Hp) (s : Shared) (e : Value) (s' : Shared), CX w [] H s (fun _ _ _ => False) e s' → False) :
   W.WalkO q loose XP YP l.row.toRowW d [] (fun f vs => PySem.call f vs) := by
 refine Att.attach_call hn hdf fun w s₀ s₁ mg mb fa o pm cd doc a vs ns G Y ho hd hcd hmg hobj hints hlen hg => ?_
 have KX := hY w _ Y
 obtain ⟨fd, hb, hF⟩ := F w mg fa _ KX G.T.g hmg
 exact law_call KX G.T.g G.T.b G.T.builtins G.T.nolimit hg hobj hints (Nat.le_trans hlen hn2) hr hF hb (fun H hO hS => hsp w H a ns hlen hO hS) fun H e s' => hCX w H s₁ e s'
end L2
namespace L2
open PySem PySem.Spec PyProof.Rows
abbrev CX0 : CXT := fun _ _ _ _ _ _ => False
abbrev E0 : XK := fun _ _ _ => False
theorem pass0 {X : Cx} : Passes CX0 X E0 := fun _ _ _ _ _ _ _ h => h.elim
structure Fun (K : W.Frag) (x qual : Str) (st : Stmt) (f : Addr) (fd : FuncData) : Prop where
 ex : ∃ (oc : Value) (od : Option Addr) (kV doc pm : Value) (an : Option Addr) (cdv ct : Value) (osl : Array (Option Value)),
   fd = W.fnOf x qual (defArgs st) (defBody st) (defScope st) .none kV doc pm an cdv ct ∧ K.lookup f = some ⟨oc, od, .func fd, osl⟩ ∧ W.codeIn K cdv qual = true
 kp : W.keepIn K (.ref f) = true
section
variable {P : Program} {w : World} {K : W.Frag} {mg : Str → Option Value} {base : Heap}
theorem Fun.ok {x qual : Str} {st : Stmt} {f : Addr} {fd : FuncData} {N ps : List Str} {k : Nat} {sp : Sp} (F : Fun K x qual st f fd) (S : FnScope N ps (defScope st)) (len : ∀ vs H Q E, sp vs H Q E → vs.length = ps.length)
   (hbody : ∀ (cdv : Value) (A : Around) (outer : List Env) (s : Shared) (H : Hp) (vs : List V) (Q : VK) (E : XK), Room k (A.deeper (envOfC qual (defScope st) s.heap.objs.size f cdv)) → sp vs H Q E →
     ∃ t, PSs (cxOf CX0 P w K mg base N qual (defScope st) f cdv A outer s H E).nox (defBody st) t ∧ t { nx := fun _ H' => Q .non H', rt := Q } (start N vs) H) : FnOk P w K mg base CX0 (k + 1) f fd ps sp := by
 obtain ⟨oc, od, kV, doc, pm, an, cdv, ct, osl, rfl, lk, hcd⟩ := F.ex
 refine fn_of lk hcd S len fun A outer s H vs Q E hr hsp => ?_
 obtain ⟨t, h, q⟩ := hbody cdv A outer s H vs Q E hr hsp
 exact ⟨t, h.nox, q⟩
theorem Fun.binds {x qual : Str} {st : Stmt} {f : Addr} {fd : FuncData} {ps : List Str} (F : Fun K x qual st f fd)
   (h : ∀ (kV doc pm : Value) (an : Option Addr) (cdv ct : Value) (us : List Value), us.length = ps.length → bindArgs (W.fnOf x qual (defArgs st) (defBody st) (defScope st) .none kV doc pm an cdv ct) ⟨us, []⟩ = pure (ps.zip us)) : Binds K fd ps [] := by
 obtain ⟨oc, od, kV, doc, pm, an, cdv, ct, osl, rfl, lk, hcd⟩ := F.ex
 exact .all (h kV doc pm an cdv ct)
theorem fun_mk {x qual : Str} {st : Stmt} {f : Addr} {oc : Value} {od an : Option Addr} {osl : Array (Option Value)} {kV doc pm cdv ct : Value} (l : K.lookup f = some ⟨oc, od, .func (W.fnOf x qual (defArgs st) (defBody st) (defScope st) .none kV doc pm an cdv ct), osl⟩)
   (c : W.codeIn K cdv qual = true) (k : W.keepIn K (.ref f) = true) : Fun K x qual st f (W.fnOf x qual (defArgs st) (defBody st) (defScope st) .none kV doc pm an cdv ct) := ⟨⟨oc, od, kV, doc, pm, an, cdv, ct, osl, rfl, l, c⟩, k⟩
end
theorem small1000 {n : Nat} (h : n ≤ 1000) : n < sizeLine := Nat.lt_of_le_of_lt h (by decide)
section
variable {X : Cx}
theorem pv (i : Nat) {x : Str} {pos : Pos} (hN : X.N[i]? = some x := by rfl) (hv : Vis X.env.scope x := by first | exact Or.inl rfl | exact Or.inr (Or.inl rfl) | exact Or.inr (Or.inr rfl)) (hd : (x == ("__debug__" : Str)) = false := by decide)
   (hcd : (x == ("__classdict__" : Str)) = false := by decide) : PE X (.Name x pos) (tVar i) := pe_var hN hv hd hcd
end
theorem iteF {A B : Prop} (h : B) : if false = true then A else B := by
 rw [if_neg Bool.false_ne_true]
 exact h
theorem iteT {A B : Prop} (h : A) : if true = true then A else B := by
 rw [if_pos rfl]
 exact h
theorem ite2 {c A B : Prop} [Decidable c] (h1 : c → A) (h2 : ¬ c → B) : if c then A else B := by
 by_cases h : c
 · rw [if_pos h]
   exact h1 h
 · rw [if_neg h]
   exact h2 h
def Same (H H' : Hp) : Prop := ∀ b o, H b = some o → H' b = some o
theorem Same.refl (H : Hp) : Same H H := fun _ _ h => h
theorem Same.trans {H H1 H2 : Hp} (a : Same H H1) (b : Same H1 H2) : Same H H2 := fun c o h => b c o (a c o h)
theorem Same.free {H H' : Hp} (e : Same H H') {l : Addr} (h : H' l = Option.none) : H l = Option.none := by
 cases q : H l with
 | none => rfl
 | some o =>
   rw [e l o q] at h
   cases h
theorem Same.seq {K : W.Frag} {H H' : Hp} {a : Addr} {xs : List V} (e : Same H H') (h : SqL K H a xs) : SqL K H' a xs := by
 rcases h with (h | ⟨o, h⟩) | h
 · exact .inl (.inl (e _ _ h))
 · exact .inl (.inr ⟨o, e _ _ h⟩)
 · exact .inr h
end L2
set_option maxHeartbeats 4000000
namespace L2
open PySem PySem.Spec PyProof.Rows
section
variable {prog : Program} {w : World} {A : Around} {R : Result → Shared → Prop} {s : Shared}
theorem comp_loop {elt target iter : Expr} {ifs : List Expr} {scope : Scope} {pos : Pos} {it acc : Value} {env : Env} (I : Nat → Shared → Prop)
   (turn : ∀ n s, I n s → wpAny (model prog w) A (pyNext it) (fun r s1 => match r with
     | none => R (.ok .next) s1
     | some v => wpAny (model prog w) A (letOwnedTupleGo target it v) (fun _ s1' => wpAny (model prog w) A (assign target env v) (fun _ s2 =>
         wpAny (model prog w) A (forIn ifs true fun c r => if r = true then do let ok ← isTrue c env (eval c env); pure (ForInStep.yield ok) else pure (ForInStep.yield r)) (fun ok s3 =>
           if ok = true then wpAny (model prog w) A (eval elt env) (fun x s4 =>
             wpAny (model prog w) A (call (.builtin "list.append") [acc, x]) (fun _ s5 => ∃ m, m < n ∧ I m s5) (fun _ _ => False) s4) (fun _ _ => False) s3
           else ∃ m, m < n ∧ I m s3) (fun _ _ => False) s2) (fun _ _ => False) s1') (fun _ _ => False) s1) (fun _ _ => False) s)
   (n : Nat) (h : I n s) :
   codeAny (model prog w) A (.compLoop (.ListComp elt [⟨target, iter, ifs, 0⟩] scope pos) 0 it acc env) R s := by
 refine codeAny_loop rfl I (fun n s hI => ?_) n h
 show wpAny _ A ((compTurn (.ListComp elt [⟨target, iter, ifs, 0⟩] scope pos) 0 it acc env).onRaise (fun x => do noteFrame x env; theTreesLotGoes x)) _ _ s
 refine wpAny_noted ?_
 rw [compTurn_list]
 refine wpAny_bind (wpAny_standAt (wpAny_bind (wpAny_mono (turn n s hI) (fun r s1 h1 => ?_) fun _ _ f => f.elim)))
 cases r with
 | none => exact wpAny_pure h1
 | some v =>
   refine wpAny_bind (wpAny_mono h1 (fun _ s1' h1' => ?_) fun _ _ f => f.elim)
   refine wpAny_bind (wpAny_mono h1' (fun _ s2 h2 => wpAny_bind (wpAny_mono h2 (fun ok s3 h3 => ?_) fun _ _ f => f.elim)) fun _ _ f => f.elim)
   cases ok with
   | false => exact wpAny_pure ⟨rfl, h3⟩
   | true =>
     exact wpAny_bind (wpAny_bind (wpAny_mono h3 (fun x s4 h4 => wpAny_bind (wpAny_mono h4 (fun _ s5 h5 => wpAny_pure (wpAny_pure ⟨rfl, h5⟩)) fun _ _ f => f.elim)) fun _ _ f => f.elim))
end
def clOf (env : Env) : List (Str × NameKind) → List (Str × Addr) → List (Str × Addr)
 | [], cs => cs
 | (n, k) :: r, cs => clOf env r (if (k == NameKind.free) = true then (match env.cells.lookup n with | some a => (n, a) :: cs | none => cs) else cs)
theorem closure_loop {env : Env} {f : Str × NameKind → List (Str × Addr) → Sem (ForInStep (List (Str × Addr)))}
   (hf : ∀ n k cs, f (n, k) cs = if (k == NameKind.free) = true then (do let a ← cellOf env n; pure (.yield ((n, a) :: cs))) else pure (.yield cs)) :
   ∀ (l : List (Str × NameKind)) (cs : List (Str × Addr)), (∀ y ∈ l, y.2 = .free → ∃ c, env.cells.lookup y.1 = some c) → forIn l cs f = pure (clOf env l cs)
 | [], cs, _ => by rw [List.forIn_nil]; rfl
 | (n, k) :: r, cs, h => by
   have hr : ∀ y ∈ r, y.2 = .free → ∃ c, env.cells.lookup y.1 = some c := fun y hy => h y (List.mem_cons_of_mem _ hy)
   rw [List.forIn_cons, hf]
   unfold clOf
   by_cases hk : (k == NameKind.free) = true
   · obtain ⟨c, hc⟩ := h (n, k) List.mem_cons_self (by simpa using hk)
     have hc' : env.cells.lookup n = some c := hc
     rw [if_pos hk, if_pos hk]
     simp only [cellOf, hc', pure_bind]
     exact closure_loop hf r _ hr
   · rw [if_neg hk, if_neg hk, pure_bind]
     exact closure_loop hf r _ hr
theorem closure_eq {env : Env} {scope : Scope} (h : ∀ y ∈ scope.names, y.2 = .free → ∃ c, env.cells.lookup y.1 = some c) : closureFor scope env = pure (clOf env scope.names []) := by
 simp only [closureFor]
 rw [closure_loop (env := env) (fun n k cs => by cases hk : k == NameKind.free <;> simp [hk]) scope.names [] h]
 rfl
theorem clOf_mem {env : Env} {x : Str} {c : Addr} : ∀ {l : List (Str × NameKind)} {cs : List (Str × Addr)}, (∀ z d, cs.lookup z = some d → env.cells.lookup z = some d) → (clOf env l cs).lookup x = some c → env.cells.lookup x = some c
 | [], _, hc, h => hc _ _ h
 | (n, k) :: r, cs, hc, h => by
   unfold clOf at h
   refine clOf_mem (l := r) ?_ h
   intro z d hz
   split at hz
   · split at hz
     · rename_i a ha
       rw [List.lookup_cons] at hz
       split at hz
       · rename_i e
         have e' : z = n := by simpa using e
         subst e'
         rw [ha]
         exact hz
       · exact hc z d hz
     · exact hc z d hz
   · exact hc z d hz
theorem clOf_get {env : Env} {x : Str} {c : Addr} (e : env.cells.lookup x = some c) : ∀ {l : List (Str × NameKind)} {cs : List (Str × Addr)}, (∀ z d, cs.lookup z = some d → env.cells.lookup z = some d) →
   ((x, NameKind.free) ∈ l ∨ ∃ d, cs.lookup x = some d) → (clOf env l cs).lookup x = some c
 | [], cs, hc, h => by
   rcases h with h | ⟨d, h⟩
   · simp at h
   · have := hc x d h
     rw [e] at this
     cases this
     exact h
 | (n, k) :: r, cs, hc, h => by
   unfold clOf
   have hc2 : ∀ z d, (if (k == NameKind.free) = true then (match env.cells.lookup n with | some a => (n, a) :: cs | none => cs) else cs).lookup z = some d → env.cells.lookup z = some d := by
     intro z d hz
     split at hz
     · split at hz
       · rename_i a ha
         rw [List.lookup_cons] at hz
         split at hz
         · rename_i e
           have e' : z = n := by simpa using e
           subst e'
           rw [ha]
           exact hz
         · exact hc z d hz
       · exact hc z d hz
     · exact hc z d hz
   refine clOf_get e (l := r) hc2 ?_
   have keep : ∀ d, cs.lookup x = some d → ∃ d, (if (k == NameKind.free) = true then (match env.cells.lookup n with | some a => (n, a) :: cs | none => cs) else cs).lookup x = some d := by
     intro d hd
     split
     · split
       · rename_i a ha
         rw [List.lookup_cons]
         split
         · exact ⟨_, rfl⟩
         · exact ⟨d, hd⟩
       · exact ⟨d, hd⟩
     · exact ⟨d, hd⟩
   rcases h with h | ⟨d, h⟩
   · rcases List.mem_cons.mp h with h | h
     · have e1 : x = n := congrArg Prod.fst h
       have e2 : k = NameKind.free := (congrArg Prod.snd h).symm
       subst e1 e2
       refine .inr ⟨c, ?_⟩
       rw [if_pos (by decide), e]
       simp [List.lookup_cons]
     · exact .inl h
   · exact .inr (keep d h)
theorem relabel_free {env : Env} : ∀ {names : List (Str × NameKind)} {x : Str} {k : NameKind},
   (names.map fun (n, k) => if (k == NameKind.free && env.scope.kind == .function && env.kindOf n == some .cell) then (n, NameKind.cell) else (n, k)).lookup x = some k → (k = .cell ∨ k = .free) → (∀ y ∈ names, y.2 ≠ .cell) → names.lookup x = some .free
 | [], _, _, h, _, _ => by simp at h
 | (n, k0) :: r, x, k, h, hk, hn => by
   have ih := @relabel_free env r x k
   have h' : List.lookup x ((if (k0 == NameKind.free && env.scope.kind == .function && env.kindOf n == some .cell) = true then (n, NameKind.cell) else (n, k0)) :: (r.map fun (n, k) => if (k == NameKind.free && env.scope.kind == .function && env.kindOf n == some .cell) then (n, NameKind.cell) else (n, k))) = some k := h
   cases hx : x == n with
   | true =>
     have go : List.lookup x ((n, k0) :: r) = some k0 := by simp [List.lookup_cons, hx]
     rw [go]
     by_cases hc : (k0 == NameKind.free && env.scope.kind == .function && env.kindOf n == some .cell) = true
     · have : k0 = NameKind.free := by
         simp only [Bool.and_eq_true] at hc
         simpa using hc.1.1
       rw [this]
     · rw [if_neg hc] at h'
       simp only [List.lookup_cons, hx] at h'
       cases h'
       rcases hk with hk | hk
       · exact absurd hk (hn _ List.mem_cons_self)
       · rw [hk]
   | false =>
     have go : List.lookup x ((n, k0) :: r) = List.lookup x r := by simp [List.lookup_cons, hx]
     rw [go]
     refine ih ?_ hk (fun y hy => hn y (List.mem_cons_of_mem _ hy))
     by_cases hc : (k0 == NameKind.free && env.scope.kind == .function && env.kindOf n == some .cell) = true
     · rw [if_pos hc] at h'
       simp only [List.lookup_cons, hx] at h'
       exact h'
     · rw [if_neg hc] at h'
       simp only [List.lookup_cons, hx] at h'
       exact h'
theorem relabel_of_free {env : Env} : ∀ {names : List (Str × NameKind)} {x : Str}, names.lookup x = some .free →
   (names.map fun (n, k) => if (k == NameKind.free && env.scope.kind == .function && env.kindOf n == some .cell) then (n, NameKind.cell) else (n, k)).lookup x = some .cell ∨
   (names.map fun (n, k) => if (k == NameKind.free && env.scope.kind == .function && env.kindOf n == some .cell) then (n, NameKind.cell) else (n, k)).lookup x = some .free
 | [], _, h => by simp at h
 | (n, k0) :: r, x, h => by
   have ih := @relabel_of_free env r x
   show List.lookup x ((if (k0 == NameKind.free && env.scope.kind == .function && env.kindOf n == some .cell) = true then (n, NameKind.cell) else (n, k0)) :: _) = _ ∨ List.lookup x ((if (k0 == NameKind.free && env.scope.kind == .function && env.kindOf n == some .cell) = true then (n, NameKind.cell) else (n, k0)) :: _) = _
   cases hx : x == n with
   | true =>
     simp only [List.lookup_cons, hx] at h
     by_cases hc : (k0 == NameKind.free && env.scope.kind == .function && env.kindOf n == some .cell) = true
     · rw [if_pos hc]
       left
       simp only [List.lookup_cons, hx]
     · rw [if_neg hc]
       right
       simp only [List.lookup_cons, hx]
       exact h
   | false =>
     simp only [List.lookup_cons, hx] at h
     by_cases hc : (k0 == NameKind.free && env.scope.kind == .function && env.kindOf n == some .cell) = true
     · rw [if_pos hc]
       simp only [List.lookup_cons, hx]
       exact ih h
     · rw [if_neg hc]
       simp only [List.lookup_cons, hx]
       exact ih h
def blk (X : Cx) (N : List Str) (scope : Scope) (C : Addr) (s : Shared) (H : Hp) (ex : List Addr) : Cx where
 prog := X.prog
 w := X.w
 K := X.K
 mg := X.mg
 base := X.base
 A := X.A
 N := N
 s₀ := s
 H₀ := H
 env := compEnvC scope (clOf X.env scope.names []) C X.env
 outer := X.stack
 stack := X.stack
 ex := ex
 fn := fun _ => false
 calm := X.calm
 pn := []
 xe := fun _ _ => False
structure BlkScope (sc : Scope) (N own cn : List Str) (ci : List Nat) (scope : Scope) : Prop where
 kind : scope.kind = .function
 nocell : ∀ y ∈ scope.names, y.2 ≠ .cell
 names : ∀ y ∈ scope.names, y.2 = .local → scope.names.lookup y.1 = some .local
 free : ∀ y ∈ scope.names, y.2 = .free → sc.names.lookup y.1 = some .cell ∨ sc.names.lookup y.1 = some .free
 cap : (cn.map fun x => (some x : Option Str)) = ci.map fun i => N[i]?
 capk : ∀ x ∈ cn, scope.names.lookup x = some .free
 nd : (own ++ cn).Nodup
theorem BlkScope.of {sc : Scope} {N own cn : List Str} {ci : List Nat} {scope : Scope} (h : scope.kind = .function ∧ (∀ y ∈ scope.names, y.2 ≠ .cell) ∧ (∀ y ∈ scope.names, y.2 = .local → scope.names.lookup y.1 = some .local) ∧ (∀ y ∈ scope.names, y.2 = .free → sc.names.lookup y.1 = some .cell ∨ sc.names.lookup y.1 = some .free) ∧ (cn.map fun x => (some x : Option Str)) = (ci.map fun i => N[i]?) ∧ (∀ x ∈ cn, scope.names.lookup x = some .free) ∧ (own ++ cn).Nodup) : BlkScope sc N own cn ci scope := ⟨h.1, h.2.1, h.2.2.1, h.2.2.2.1, h.2.2.2.2.1, h.2.2.2.2.2.1, h.2.2.2.2.2.2⟩
def blkS (own : List Str) (ci : List Nat) (σ : St) : St := own.map (fun _ => none) ++ ci.map fun i => (σ[i]?).join
section
variable {X : Cx} {pins : List (Addr × Obj)} {σ : St} {H H2 : Hp} {s s2 : Shared} {sc : Scope} {N own cn : List Str} {ci : List Nat} {scope : Scope} {fp : List Addr}
theorem blk_cells (S : BlkScope sc N own cn ci scope) (hsc : X.env.scope = sc) (I : Inv X pins σ H s) : ∀ y ∈ scope.names, y.2 = .free → ∃ c, X.env.cells.lookup y.1 = some c := fun y hy hf => by
 refine I.ok.has y.1 ?_
 have := S.free y hy hf
 rw [← hsc] at this
 exact this
theorem blk_inv (S : BlkScope sc N own cn ci scope) (hsc : X.env.scope = sc) (hN : X.N = N) (I : Inv X pins σ H s) (hfp : ∀ b ∈ fp, FpOk X pins H b) (hlt : ∀ b ∈ fp, b < s.heap.objs.size) {h1 : Heap} {tk : Nat} {m : Str → Option Value}
   (hns : h1.Ns s.heap.objs.size m) (keep : ∀ b o, s.heap.get? b = some o → h1.get? b = some o) :
   Inv (blk X (own ++ cn) scope s.heap.objs.size s H fp) [] (blkS own ci σ) H { s with heap := h1, toks := tk } := by
 have ccl : ∀ x c, (clOf X.env scope.names []).lookup x = some c → X.env.cells.lookup x = some c := fun x c e => clOf_mem (fun z d h => by simp at h) e
 have cnl : cn.length = ci.length := by have := congrArg List.length S.cap; simpa using this
 refine ⟨⟨I.ok.mod, ?_, I.ok.glob, I.ok.blt, Nat.le_refl _, fun x y c e1 e2 => I.ok.inj x y c (ccl x c e1) (ccl y c e2), fun x hx => ?_, fun x c hf _ => ?_, I.ok.hd, I.ok.frames, .inl rfl, fun b hb => ⟨Nat.ne_of_lt (hlt b hb), fun x c e => (hfp b hb).2.2.2.2.1 x c (ccl x c e)⟩, I.bs, Nat.le_trans I.ok.bsz I.sz, fun b o e hb => ?_, fun b hb hb2 => ?_, I.stack, I.stkFree⟩,
   rfl, I.bare, Un.kept keep, ⟨m, hns, fun i x v e1 e2 e3 => ?_⟩, fun x c e => ?_, I.hok.fresh (Nat.le_refl _), fun x c e => I.freeC x c (ccl x c e), fun p hp => absurd (show p ∈ ([] : List (Addr × Obj)) from hp) (by simp), I.hok.kept keep, ?_⟩
 · exact S.kind
 · have hx' : (relabel scope X.env).names.lookup x = some .cell ∨ (relabel scope X.env).names.lookup x = some .free := hx
   have hfree : scope.names.lookup x = some .free := by
     rcases hx' with q | q
     · exact relabel_free q (.inl rfl) S.nocell
     · exact relabel_free q (.inr rfl) S.nocell
   have hm := PySem.mem_of_lookup hfree
   obtain ⟨c, hc⟩ := blk_cells S hsc I _ hm rfl
   exact ⟨c, clOf_get hc (fun z d h => by simp at h) (.inl hm)⟩
 · exact absurd hf (by show ¬ (false = true); decide)
 · rcases (hfp b hb).2.2.2.1 with z | z
   · exact I.ok.noex b o e z
   · exact absurd (Nat.lt_of_lt_of_le (Heap.lt_size (I.ok.bs b o e).1) z) (Nat.lt_irrefl _)
 · rcases List.mem_cons.mp (I.stkSub b hb2) with z | z
   · exact (hfp b hb).2.1 z
   · exact (hfp b hb).2.2.1 z
 · have e1' : (own ++ cn)[i]? = some x := e1
   unfold blkS at e2
   by_cases hi : i < own.length
   · rw [List.getElem?_append_left (by simpa using hi), List.getElem?_map] at e2
     cases q : own[i]? with
     | none => rw [q] at e2; cases e2
     | some z => rw [q] at e2; cases e2
   · rw [List.getElem?_append_right (by simpa using hi)] at e2
     rw [List.getElem?_append_right (by omega)] at e1'
     rw [List.length_map, List.getElem?_map] at e2
     cases q : ci[i - own.length]? with
     | none => rw [q] at e2; cases e2
     | some j =>
       rw [q] at e2
       have e2' : (σ[j]?).join = some v := Option.some.inj e2
       have e3' : σ[j]? = some (some v) := by
         cases z : σ[j]? with
         | none => rw [z] at e2'; cases e2'
         | some o => rw [z] at e2'; exact congrArg some e2'
       have hNj : X.N[j]? = some x := by
         have c1 := congrArg (fun l => l[i - own.length]?) S.cap
         simp only [List.getElem?_map, e1', q, Option.map_some] at c1
         rw [hN]
         exact (Option.some.inj c1).symm
       have hfree := S.capk x (List.mem_of_getElem? e1')
       have hm := PySem.mem_of_lookup hfree
       have hk := S.free _ hm rfl
       rw [← hsc] at hk
       have hvis : Vis X.env.scope x := .inr hk
       obtain ⟨m0, _, hl⟩ := I.loc
       obtain ⟨u, r, l⟩ := hl j x v hNj e3' hvis
       refine ⟨u, r, .inr ⟨relabel_of_free hfree, ?_⟩⟩
       rcases l with ⟨l, _⟩ | ⟨_, c, ec, z⟩
       · have l' : X.env.scope.names.lookup x = some .local := l
         rcases hk with hk | hk <;> (rw [hk] at l'; cases l')
       · refine ⟨c, clOf_get ec (fun z d h => by simp at h) (.inl hm), ?_⟩
         obtain ⟨o, ho, hd⟩ := z
         exact ⟨o, keep c o ho, hd⟩
 · obtain ⟨v, o, ho, hd⟩ := I.cell x c (ccl x c e)
   exact ⟨v, o, keep c o ho, hd⟩
 · show (blkS own ci σ).length = (own ++ cn).length
   unfold blkS
   rw [List.length_append, List.length_append, List.length_map, List.length_map, cnl]
end
def PTs (X : Cx) (ifs : List Expr) (t : TT) : Prop :=
 ∀ (pins : List (Addr × Obj)) (s : Shared) (σ : St) (H : Hp) (Q : Bool → Hp → Prop), Inv X pins σ H s → t σ H Q →
   wpAny (model X.prog X.w) X.A (forIn ifs true fun c r => if r = true then do let ok ← isTrue c X.env (eval c X.env); pure (ForInStep.yield ok) else pure (ForInStep.yield r)) (TP X pins σ Q) X.xe s
def tTrue : TT := fun _ H Q => Q true H
theorem pts_nil {X : Cx} : PTs X [] tTrue := fun _ _ _ H _ I h => wpAny_tests_nil ⟨H, I, h⟩
theorem pts_one {X : Cx} {c : Expr} {t : TT} (h : PT X c t) : PTs X [c] t := fun pins s σ H Q I q => wpAny_tests_one (h pins s σ H Q I q)
def LcW (J : It) (g : TG) (tt : TT) (te : TE) (D : Addr) (Q : Hp → Prop) (W : Nat → Nat → St → Hp → Prop) : Prop := ∀ i m σ H, W i m σ H →
 (J.stop i H ∧ Q H) ∨ (J.go i H ∧ ∀ x H1, J.yld i H x H1 → g x σ H1 fun σ2 H2 => tt σ2 H2 fun ok H3 => if ok = true then te σ2 H3 fun y H4 => ∃ ys, H4 D = some (.lst ys) ∧ ys.length < sizeLine ∧
   ∃ m', m' < m ∧ W (i + 1) m' σ2 (upd H4 D (.lst (ys ++ [y]))) else ∃ m', m' < m ∧ W (i + 1) m' σ2 H3)
def tLC (own : List Str) (ci : List Nat) (wi : TI) (g : TG) (tt : TT) (te : TE) : TE := fun σ H Q => wi σ H fun J H1 => ∀ D, H1 D = none →
 ∃ W : Nat → Nat → St → Hp → Prop, (∃ m, W 0 m (blkS own ci σ) (upd H1 D (.lst []))) ∧ LcW J g tt te D (Q (.ref D)) W
section
variable {X : Cx} {pins : List (Addr × Obj)} {σ : St} {H H2 : Hp} {s s2 : Shared} {sc : Scope} {N own cn : List Str} {ci : List Nat} {scope : Scope} {fp : List Addr}
 {elt tg iter : Expr} {ifs : List Expr} {pos : Pos} {g : TG} {tt : TT} {te : TE} {wi : TI}
theorem lc_block {it : Addr} {tn : Nat → Heap → Prop} {J : It} {Q : VK} {E : Value → Shared → Prop} {RR : Value → Addr → Result → Shared → Prop} (S : BlkScope sc N own cn ci scope) (hsc : X.env.scope = sc) (hN : X.N = N) (hc : X.calm = true)
   (I2 : Inv X pins σ H2 s2) (T : Turn X.prog X.w X.K tg J fp it tn) (st2 : tn 0 s2.heap) (f2 : ∀ b ∈ fp, FpOk X pins H2 b)
   (hg : ∀ C s H, PG (blk X (own ++ cn) scope C s H fp) tg g) (ht : ∀ C s H, PTs (blk X (own ++ cn) scope C s H fp) ifs tt) (he : ∀ C s H, PE (blk X (own ++ cn) scope C s H fp) elt te)
   (q : ∀ D, H2 D = none → ∃ W : Nat → Nat → St → Hp → Prop, (∃ m, W 0 m (blkS own ci σ) (upd H2 D (.lst []))) ∧ LcW J g tt te D (Q (.ref D)) W)
   (hRR : ∀ D C H' s', Inv X pins σ H' s' → Q (.ref D) H' → (∃ m, s'.heap.Ns C m) → FpOk X pins H' C → RR (.ref D) C (.ok .next) s') :
   wpAny (model X.prog X.w) X.A (newList []) (fun acc s3 => wpAny (model X.prog X.w) X.A (newFunctionEnv scope X.env.globals (clOf X.env scope.names []) [] X.env.qual none .none (some X.env)) (fun cenv s4 =>
     codeAny (model X.prog X.w) X.A (.compStart (.ListComp elt [⟨tg, iter, ifs, 0⟩] scope pos) 0 (.ref it) acc { cenv with scope := relabel scope X.env }) (RR acc cenv.locals) s4) E s3) E s2 := by
 refine wpAny_newObj_type (wpAny_newFunctionEnv S.nocell (by intro y hy; simp at hy) (fun h1 hns1 hsb1 => ?_) S.kind)
 dsimp only at hns1 hsb1 ⊢
 have I3 : Inv X pins σ (upd H2 s2.heap.objs.size (.lst [])) { s2 with heap := s2.heap.push { cls := .type "list", data := .seq ([] : List Value).toArray }, toks := s2.toks } := I2.lnew (its := []) (t' := s2.toks) .nil (Nat.zero_le _)
 have hD : H2 s2.heap.objs.size = none := I2.hok.fresh (Nat.le_refl _)
 have fpe : ∀ b ∈ fp, b < s2.heap.objs.size := fun b hb => by
   obtain ⟨o, e, _⟩ := T.obj _ _ st2 b hb
   exact Heap.lt_size e
 have f3 : ∀ b ∈ fp, FpOk X pins (upd H2 s2.heap.objs.size (.lst [])) b := fun b hb => ⟨by rw [upd_ne (Nat.ne_of_lt (fpe b hb))]; exact (f2 b hb).1, (f2 b hb).2⟩
 obtain ⟨W, ⟨m0, w0⟩, turn⟩ := q s2.heap.objs.size hD
 generalize hs3 : ({ s2 with heap := s2.heap.push { cls := .type "list", data := .seq ([] : List Value).toArray }, toks := s2.toks } : Shared) = s3 at I3
 have e3 : s3.heap = s2.heap.push { cls := .type "list", data := .seq ([] : List Value).toArray } := by rw [← hs3]
 have hsz3 : s3.heap.objs.size = s2.heap.objs.size + 1 := by rw [e3, Heap.size_push]
 have keep3 : ∀ b o, s2.heap.get? b = some o → s3.heap.get? b = some o := fun b o e => by rw [e3]; exact Heap.get?_push_of_some _ e
 have keep : ∀ b o, s3.heap.get? b = some o → h1.get? b = some o := fun b o e => by
   refine hsb1.extBut b o ?_ (Heap.get?_push_of_some _ (by rw [← e3]; exact e))
   have := Heap.lt_size e
   rw [e3] at this
   exact Nat.ne_of_lt this
 have hns : h1.Ns s3.heap.objs.size (fun x => ([] : List (Str × Value)).reverse.lookup x) := by rw [e3]; exact hns1
 have I4 := blk_inv (fp := fp) (tk := s2.toks + ([] : List (Str × Value)).length) S hsc hN I3 f3 (fun b hb => by rw [hsz3]; exact Nat.lt_succ_of_lt (fpe b hb)) hns keep
 have st4 : tn 0 h1 := T.keep _ _ _ st2 fun b hb o e => keep b o (keep3 b o e)
 have hC : (s2.heap.push { cls := .type "list", data := .seq ([] : List Value).toArray }).objs.size = s3.heap.objs.size := by rw [e3]
 have stat : ∀ {H' : Hp}, (∀ b ∈ fp, H' b = none) → ∀ b ∈ fp, FpOk (blk X (own ++ cn) scope s3.heap.objs.size s3 (upd H2 s2.heap.objs.size (.lst [])) fp) [] H' b := fun hn b hb =>
   ⟨hn b hb, Nat.ne_of_lt (by rw [hsz3]; exact Nat.lt_succ_of_lt (fpe b hb)), fun z => I4.ok.exfs b hb z, .inl hb, (I4.ok.exf b hb).2, fun p hp => absurd (show p ∈ ([] : List (Addr × Obj)) from hp) (by simp)⟩
 have loop : ∀ s4 : Shared, s4 = { s3 with heap := h1, toks := s2.toks + ([] : List (Str × Value)).length } →
     codeAny (model X.prog X.w) X.A (.compLoop (.ListComp elt [⟨tg, iter, ifs, 0⟩] scope pos) 0 (.ref it) (.ref s2.heap.objs.size) (compEnvC scope (clOf X.env scope.names []) s3.heap.objs.size X.env)) (RR (.ref s2.heap.objs.size) s3.heap.objs.size) s4 := by
   rintro s4 rfl
   refine comp_loop (fun n s' => ∃ i σ' H', Inv (blk X (own ++ cn) scope s3.heap.objs.size s3 (upd H2 s2.heap.objs.size (.lst [])) fp) [] σ' H' s' ∧ tn i s'.heap ∧ (∀ b ∈ fp, H' b = none) ∧ W i n σ' H') ?_ m0
     ⟨0, _, _, I4, st4, fun b hb => (f3 b hb).1, w0⟩
   rintro n s5 ⟨i, σ5, H5, I5, st5, fr5, w5⟩
   rcases turn i n σ5 H5 w5 with ⟨stop, qn⟩ | ⟨go, step⟩
   · refine thn (T.done (blk X (own ++ cn) scope s3.heap.objs.size s3 (upd H2 s2.heap.objs.size (.lst [])) fp) rfl rfl rfl hc i [] s5 σ5 H5 (fun _ _ => False) I5 (stat fr5) st5 stop) fun r s6 ⟨hr, I6⟩ => ?_
     subst hr
     refine hRR _ _ H5 s6 (I3.call' I6.os I6.base I6.hok I6.bare fun b hb => ⟨(f3 b hb).2.2.2.1, (f3 b hb).2.1, (f3 b hb).2.2.2.2.1, (f3 b hb).2.2.2.2.2⟩) qn (let ⟨m, hn, _⟩ := I6.loc; ⟨m, hn⟩) (I3.fpOk (Nat.le_refl _) I6.free)
   · refine thn (T.item (blk X (own ++ cn) scope s3.heap.objs.size s3 (upd H2 s2.heap.objs.size (.lst [])) fp) rfl rfl rfl hc i [] s5 σ5 H5 (fun _ _ => False) I5 (stat fr5) st5 go) fun r s6 ⟨u, hr, h6⟩ => ?_
     subst hr
     refine thn h6 fun _ s7 ⟨x, H7, I7, r7, y7, st7, fr7⟩ => ?_
     have I7' := I7.pinned (stat fr7) (T.obj _ _ st7)
     refine thn (hg _ _ _ _ s7 σ5 H7 x u _ I7' r7 (step x H7 y7)) fun _ s8 ⟨σ8, H8, I8, q8⟩ => ?_
     refine thn (ht _ _ _ _ s8 σ8 H8 _ I8 q8) fun ok s9 ⟨H9, I9, q9⟩ => ?_
     have again : ∀ {H' : Hp} {s' : Shared} {m' : Nat}, Inv (blk X (own ++ cn) scope s3.heap.objs.size s3 (upd H2 s2.heap.objs.size (.lst [])) fp) ([] ++ pinsAt fp s7.heap) σ8 H' s' → W (i + 1) m' σ8 H' →
         ∃ i σ' H', Inv (blk X (own ++ cn) scope s3.heap.objs.size s3 (upd H2 s2.heap.objs.size (.lst [])) fp) [] σ' H' s' ∧ tn i s'.heap ∧ (∀ b ∈ fp, H' b = none) ∧ W i m' σ' H' := fun {H' s' m'} I' w' => by
       refine ⟨i + 1, σ8, H', I'.unpinned, T.keep _ _ _ st7 fun b hb o e => (I'.pin (b, o) (List.mem_append_right _ (List.mem_append_right _ (mem_pinsAt hb e)))).1, fun b hb => ?_, w'⟩
       obtain ⟨o, e, _⟩ := T.obj _ _ st7 b hb
       exact (I'.pin (b, o) (List.mem_append_right _ (List.mem_append_right _ (mem_pinsAt hb e)))).2.1
     cases ok with
     | false =>
       obtain ⟨m', hm, w'⟩ := q9
       exact ⟨m', hm, again I9 w'⟩
     | true =>
       refine thn (he _ _ _ _ s9 σ8 H9 _ I9 q9) fun v s10 ⟨y, H10, I10, r10, ys, hDl, hz, m', hm, w'⟩ => ?_
       refine thn (mt_append _ s10 σ8 H10 (.ref s2.heap.objs.size) [y] (.ref s2.heap.objs.size) [v] (fun _ H11 => H11 = upd H10 s2.heap.objs.size (.lst (ys ++ [y]))) I10 rfl (.cons r10 .nil) ⟨_, ys, y, rfl, rfl, hDl, hz, rfl⟩) fun _ s11 ⟨_, H11, I11, _, e11⟩ => ?_
       subst e11
       exact ⟨m', hm, again I11 w'⟩
 have es : ({ s2 with heap := h1, toks := s2.toks + ([] : List (Str × Value)).length } : Shared) = { s3 with heap := h1, toks := s2.toks + ([] : List (Str × Value)).length } := by rw [← hs3]
 rw [hC]
 exact codeAny_compStart_list (loop _ es) (T.self _ 0 _ _ _ st4 (loop _ es))
theorem pe_lc (S : BlkScope sc N own cn ci scope) (hsc : X.env.scope = sc) (hN : X.N = N) (hc : X.calm = true) (hi : PI X tg iter wi)
   (hg : ∀ fp C s H, PG (blk X (own ++ cn) scope C s H fp) tg g) (ht : ∀ fp C s H, PTs (blk X (own ++ cn) scope C s H fp) ifs tt) (he : ∀ fp C s H, PE (blk X (own ++ cn) scope C s H fp) elt te)
   (hs : ∀ x, foldedSetIterable iter X.env x = pure x := by intro _; rfl) : PE X (.ListComp elt [⟨tg, iter, ifs, 0⟩] scope pos) (tLC own ci wi g tt te) := by
 intro pins s σ H Q I h
 rw [eval_ListComp]
 refine wpAny_comprehension_free (use := none) rfl hs (closure_eq (blk_cells S hsc I)) S.kind S.names (thn (hi pins s σ H _ I h) fun xv s1 h1 => thn h1 fun itv s2 h2 => ?_)
 obtain ⟨it, fp, tn, J, H2, e, I2, T, st2, f2, q⟩ := h2
 subst e
 refine lc_block (RR := fun acc C => compPost (model X.prog X.w) X.A X.xe none (EP X pins σ Q) acc C) S hsc hN hc I2 T st2 f2 (hg fp) (ht fp) (he fp) q ?_
 intro D C H' s' I' q' ⟨m, hn⟩ fC
 exact ⟨m, hn, fun h' hs' => ⟨.ref D, H', I'.turned (t' := s'.toks) (fun b o hb e => (hs'.2 b hb).trans e) fC.1 (Ne.symm (Ne.symm fC.2.1)) fC.2.2.2.1 fC.2.2.2.2.1 fC.2.2.2.2.2, rfl, q'⟩⟩
def tSetLC (i : Nat) (t : TE) : TS := fun D σ H => t σ H fun v H1 => D.nx (σ.set i (some v)) H1
theorem ps_setlc {i : Nat} {y : Str} {py spos : Pos} (S : BlkScope sc N own cn ci scope) (hsc : X.env.scope = sc) (hN : X.N = N) (hc : X.calm = true) (hi : PI X tg iter wi)
   (hg : ∀ fp C s H, PG (blk X (own ++ cn) scope C s H fp) tg g) (ht : ∀ fp C s H, PTs (blk X (own ++ cn) scope C s H fp) ifs tt) (he : ∀ fp C s H, PE (blk X (own ++ cn) scope C s H fp) elt te)
   (hnd : X.N.Nodup) (hiy : X.N[i]? = some y) (hy : X.env.scope.names.lookup y = some .local)
   (hsw : swapsWith (.ListComp elt [⟨tg, iter, ifs, 0⟩] scope pos) (some (.Name y py)) spos.line X.env = pure true)
   (hs : ∀ x, foldedSetIterable iter X.env x = pure x := by intro _; rfl) : PS X (.Assign [.Name y py] (.ListComp elt [⟨tg, iter, ifs, 0⟩] scope pos) spos) (tSetLC i (tLC own ci wi g tt te)) := by
 intro pins s σ H D I h
 rw [exec_Assign_Name_used _ _ _ _ hsw]
 refine wpAny_bind (wpAny_standAt (wpAny_bind ?_))
 show wpAny _ X.A (do let _ ← comprehension (.ListComp elt [⟨tg, iter, ifs, 0⟩] scope pos) scope X.env _ (newList []) false (eval iter X.env) (some (assign (.Name y py) X.env))) _ _ s
 refine wpAny_bind (wpAny_mono (wpAny_comprehension_free (use := some (assign (.Name y py) X.env)) (Q := fun _ s' => SP X pins D .next s') rfl hs (closure_eq (blk_cells S hsc I)) S.kind S.names
   (thn (hi pins s σ H _ I h) fun xv s1 h1 => thn h1 fun itv s2 h2 => ?_)) (fun _ s' hq => wpAny_pure (wpAny_pure hq)) fun _ _ e => e)
 obtain ⟨it, fp, tn, J, H2, e, I2, T, st2, f2, q⟩ := h2
 subst e
 refine lc_block (RR := fun acc C => compPost (model X.prog X.w) X.A X.xe (some (assign (.Name y py) X.env)) (fun _ s' => SP X pins D .next s') acc C) (Q := fun v H1 => D.nx (σ.set i (some v)) H1) S hsc hN hc I2 T st2 f2 (hg fp) (ht fp) (he fp) q ?_
 intro D' C H' s' I' q' ⟨m, hn⟩ fC
 refine wpAny_assign_Name (store_ok2 (v := .ref D') I' hnd hiy (.inl hy) rfl (fun s'' I'' ⟨a, hsb, ha⟩ => ?_) (.inr hy))
 have hCa : C ≠ a := by
   rcases ha with ha | ha
   · rw [ha]; exact fC.2.1
   · exact Ne.symm (fC.2.2.2.2.1 _ _ ha)
 exact ⟨m, hn.sameBut hsb hCa, fun h' hs' => ⟨_, H', I''.turned (t' := s''.toks) (fun b o hb e => (hs'.2 b hb).trans e) fC.1 fC.2.1 fC.2.2.2.1 fC.2.2.2.2.1 fC.2.2.2.2.2, q'⟩⟩
end
theorem lc_range {lo : Int} {n : Nat} {caps : St} {tt : TT} {te : TE} {D : Addr} {Q : Hp → Prop} {H1 : Hp} (Pv : Nat → List V → Hp → Prop) (hz : n ≤ sizeLine) (h0 : Pv 0 [] (upd H1 D (.lst []))) (hl : ∀ i ys H, Pv i ys H → ys.length ≤ i)
   (hs : ∀ i ys H (N : VK) (M : Hp → Prop), i < n → Pv i ys H → (∀ y H4, H4 D = some (.lst ys) → Pv (i + 1) (ys ++ [y]) (upd H4 D (.lst (ys ++ [y]))) → N y H4) → (∀ H3, Pv (i + 1) ys H3 → M H3) →
     tt (some (.int (lo + i)) :: caps) H fun ok H3 => if ok = true then te (some (.int (lo + i)) :: caps) H3 N else M H3)
   (hd : ∀ ys H, Pv n ys H → Q H) : ∃ W : Nat → Nat → St → Hp → Prop, (∃ m, W 0 m (none :: caps) (upd H1 D (.lst []))) ∧ LcW (Itr lo n) (gName 0) tt te D Q W := by
 refine ⟨fun i m σ H => m = n - i ∧ i ≤ n ∧ (∃ v, σ = v :: caps) ∧ ∃ ys, Pv i ys H, ⟨n, by simp, Nat.zero_le _, ⟨none, rfl⟩, [], h0⟩, ?_⟩
 rintro i m σ H ⟨rfl, hi, ⟨v, rfl⟩, ys, p⟩
 have hy := hl i ys H p
 by_cases hlt : i < n
 · refine .inr ⟨hlt, fun x H1 y => ?_⟩
   obtain ⟨e, y⟩ := y
   subst e y
   refine hs i ys _ _ _ hlt p (fun y H4 a c => ⟨ys, a, by omega, n - (i + 1), by omega, rfl, hlt, ⟨_, rfl⟩, _, c⟩) (fun H3 c => ⟨n - (i + 1), by omega, rfl, hlt, ⟨_, rfl⟩, ys, c⟩)
 · have e : i = n := by omega
   subst e
   exact .inl ⟨Nat.le_refl _, hd ys H p⟩
theorem lc_list {K : W.Frag} {a : Addr} {xs : List V} {caps : St} {tt : TT} {te : TE} {D : Addr} {Q : Hp → Prop} {H1 : Hp} (Pv : Nat → List V → Hp → Prop) (hz : xs.length ≤ sizeLine) (h0 : Pv 0 [] (upd H1 D (.lst []))) (hl : ∀ i ys H, Pv i ys H → ys.length ≤ i) (hq : ∀ i ys H, Pv i ys H → SqL K H a xs)
   (hs : ∀ i ys H (x : V) (N : VK) (M : Hp → Prop), xs[i]? = some x → Pv i ys H → (∀ y H4, H4 D = some (.lst ys) → Pv (i + 1) (ys ++ [y]) (upd H4 D (.lst (ys ++ [y]))) → N y H4) → (∀ H3, Pv (i + 1) ys H3 → M H3) →
     tt (some x :: caps) H fun ok H3 => if ok = true then te (some x :: caps) H3 N else M H3)
   (hd : ∀ ys H, Pv xs.length ys H → Q H) : ∃ W : Nat → Nat → St → Hp → Prop, (∃ m, W 0 m (none :: caps) (upd H1 D (.lst []))) ∧ LcW (Itl K a) (gName 0) tt te D Q W := by
 refine ⟨fun i m σ H => m = xs.length - i ∧ i ≤ xs.length ∧ (∃ v, σ = v :: caps) ∧ ∃ ys, Pv i ys H, ⟨xs.length, by simp, Nat.zero_le _, ⟨none, rfl⟩, [], h0⟩, ?_⟩
 rintro i m σ H ⟨rfl, hi, ⟨v, rfl⟩, ys, p⟩
 have hy := hl i ys H p
 by_cases hlt : i < xs.length
 · refine .inr ⟨⟨xs, xs[i], hq i ys H p, by simp [hlt]⟩, fun x H1 y => ?_⟩
   obtain ⟨e, y⟩ := y
   subst e
   have hx := y xs (hq i ys _ p)
   refine hs i ys _ x _ _ hx p (fun y H4 a c => ⟨ys, a, by omega, xs.length - (i + 1), by omega, rfl, hlt, ⟨_, rfl⟩, _, c⟩) (fun H3 c => ⟨xs.length - (i + 1), by omega, rfl, hlt, ⟨_, rfl⟩, ys, c⟩)
 · have e : i = xs.length := by omega
   subst e
   exact .inl ⟨⟨xs, hq _ ys H p, Nat.le_refl _⟩, hd ys H p⟩
theorem lc_tup {K : W.Frag} {a : Addr} {xs : List V} {caps : St} {tt : TT} {te : TE} {D : Addr} {Q : Hp → Prop} {H1 : Hp} (Pv : Nat → List V → Hp → Prop) (hz : xs.length ≤ sizeLine) (h0 : Pv 0 [] (upd H1 D (.lst []))) (hl : ∀ i ys H, Pv i ys H → ys.length ≤ i) (hq : ∀ i ys H, Pv i ys H → SqT K H a xs)
   (hs : ∀ i ys H (x : V) (N : VK) (M : Hp → Prop), xs[i]? = some x → Pv i ys H → (∀ y H4, H4 D = some (.lst ys) → Pv (i + 1) (ys ++ [y]) (upd H4 D (.lst (ys ++ [y]))) → N y H4) → (∀ H3, Pv (i + 1) ys H3 → M H3) →
     tt (some x :: caps) H fun ok H3 => if ok = true then te (some x :: caps) H3 N else M H3)
   (hd : ∀ ys H, Pv xs.length ys H → Q H) : ∃ W : Nat → Nat → St → Hp → Prop, (∃ m, W 0 m (none :: caps) (upd H1 D (.lst []))) ∧ LcW (Itt K a) (gName 0) tt te D Q W := by
 refine ⟨fun i m σ H => m = xs.length - i ∧ i ≤ xs.length ∧ (∃ v, σ = v :: caps) ∧ ∃ ys, Pv i ys H, ⟨xs.length, by simp, Nat.zero_le _, ⟨none, rfl⟩, [], h0⟩, ?_⟩
 rintro i m σ H ⟨rfl, hi, ⟨v, rfl⟩, ys, p⟩
 have hy := hl i ys H p
 by_cases hlt : i < xs.length
 · refine .inr ⟨⟨xs, xs[i], hq i ys H p, by simp [hlt]⟩, fun x H1 y => ?_⟩
   obtain ⟨e, y⟩ := y
   subst e
   have hx := y xs (hq i ys _ p)
   refine hs i ys _ x _ _ hx p (fun y H4 a c => ⟨ys, a, by omega, xs.length - (i + 1), by omega, rfl, hlt, ⟨_, rfl⟩, _, c⟩) (fun H3 c => ⟨xs.length - (i + 1), by omega, rfl, hlt, ⟨_, rfl⟩, ys, c⟩)
 · have e : i = xs.length := by omega
   subst e
   exact .inl ⟨⟨xs, hq _ ys H p, Nat.le_refl _⟩, hd ys H p⟩
end L2
namespace L2
open PySem PySem.Spec PyProof.Rows
section
variable {X : Cx}
theorem atI_int {xs : List V} {i : Int} {v : V} (h0 : 0 ≤ i) (h : xs[i.toNat]? = some v) : atI xs i = some v := by
 have e : i = ((i.toNat : Nat) : Int) := by omega
 rw [e]
 exact atI_nat h
theorem Same.upd_free {H H' : Hp} {a : Addr} {o : HO} (s : Same H H') (n : H a = none) : Same H (upd H' a o) := fun b u e => by
 rw [upd_ne (ne_of_none e n)]
 exact s b u e
def tCut (t : TS) : TS := fun D σ H => ∃ M : St → Hp → Prop, t { D with nx := M } σ H ∧ ∀ σ' H', M σ' H' → D.nx σ' H'
theorem ps_cut {st : Stmt} {t : TS} (h : PS X st t) : PS X st (tCut t) := by
 intro pins s σ H D I ⟨M, h1, h2⟩
 refine thn (h pins s σ H _ I h1) fun f s' q => ?_
 cases f with
 | next =>
   obtain ⟨σ', H', I', m⟩ := q
   exact ⟨σ', H', I', h2 _ _ m⟩
 | brk => exact q
 | cont => exact q
 | ret u => exact q
theorem small9 {n : Nat} (h : n ≤ 100000) : n < sizeLine := Nat.lt_of_le_of_lt h (by decide)
end
end L2
namespace L2
open PySem PySem.Spec PyProof.Rows
section
variable {X : Cx} {pins : List (Addr × Obj)} {σ : St} {H : Hp} {s : Shared} {a : Addr} {y v : V} {u r : Value} {o : Option V} {A : Around} {E : Value → Shared → Prop}
theorem Inv.big (I : Inv X pins σ H s) : sysModules < s.heap.objs.size := by
 have h : mainGlobals < s.heap.objs.size := (I.mod.glob.keeps I.bk).lt
 exact Nat.lt_trans (by decide) h
theorem d_write {h' : Heap} {t' : Nat} {ob : HO} (I : Inv X pins σ H s) (mu : Mut (H a)) (hs : Heap.SameBut a s.heap h') (he : ∃ q, h'.get? a = some q) (new : ObjOk X.prog X.w (upd H a ob) h' a ob) :
   Inv X pins σ (upd H a ob) { s with heap := h', toks := t' } :=
 I.write (x := a) (e := a) mu (.inl rfl) (fun b q hb z => (hs.2 b hb).trans z) he new
end
structure M1 (X : Cx) (o : Expr) (m : Str) (apos : Pos) (e : Expr) (cpos : Pos) : Prop where
 base : attributeBase o m X.env (eval o X.env) = eval o X.env
 few : ((backTo cpos (starEach [e] X.env)).all (fun x => !x.1) && (backToKw cpos (keywordEach [] X.env)).all (fun x => x.1.isSome)
   && decide (([e] : List Expr).length + ([] : List Keyword).length + (if ([] : List Keyword).isEmpty then 0 else 1) < 30)) = true
 line : (apos.endLine == cpos.line) = true
 trees : backTo cpos (starEach [e] X.env) = [(false, eval e X.env)]
structure M2 (X : Cx) (o : Expr) (m : Str) (apos : Pos) (e f : Expr) (cpos : Pos) : Prop where
 base : attributeBase o m X.env (eval o X.env) = eval o X.env
 few : ((backTo cpos (starEach [e, f] X.env)).all (fun x => !x.1) && (backToKw cpos (keywordEach [] X.env)).all (fun x => x.1.isSome)
   && decide (([e, f] : List Expr).length + ([] : List Keyword).length + (if ([] : List Keyword).isEmpty then 0 else 1) < 30)) = true
 line : (apos.endLine == cpos.line) = true
 trees : backTo cpos (starEach [e, f] X.env) = [(false, eval e X.env), (false, eval f X.env)]
end L2
namespace L2
open PySem PySem.Spec PyProof.Rows
mutual
inductive DAt (K : W.Frag) (H : Hp) : V → PyData → Prop
 | non : DAt K H .non .none
 | bl (b : Bool) : DAt K H (.bl b) (.bool b)
 | int (i : Int) : DAt K H (.int i) (.int i)
 | str (x : Str) : DAt K H (.str x) (.str x)
 | lst {a : Addr} {xs : List V} {ds : List PyData} : SqL K H a xs → DsAt K H xs ds → DAt K H (.ref a) (.list ds)
 | tup {a : Addr} {xs : List V} {ds : List PyData} : SqT K H a xs → DsAt K H xs ds → DAt K H (.ref a) (.tuple ds)
inductive DsAt (K : W.Frag) (H : Hp) : List V → List PyData → Prop
 | nil : DsAt K H [] []
 | cons {x : V} {d : PyData} {xs : List V} {ds : List PyData} : DAt K H x d → DsAt K H xs ds → DsAt K H (x :: xs) (d :: ds)
end
section
variable {X : Cx} {pins : List (Addr × Obj)} {σ : St} {H : Hp} {s : Shared}
mutual
theorem DAt.reads (I : Inv X pins σ H s) : ∀ {x : V} {d : PyData} {u : Value}, DAt X.K H x d → RelV x u → ∃ as, Reads s.heap u d as
 | _, _, _, .non, r => by
   cases r
   exact ⟨_, .none⟩
 | _, _, _, .bl b, r => by
   cases r
   exact ⟨_, .bool b⟩
 | _, _, _, .int i, r => by
   obtain ⟨t, rfl⟩ := r
   exact ⟨_, .int i t⟩
 | _, _, _, .str x, r => by
   obtain ⟨t, rfl⟩ := r
   exact ⟨_, .str x t⟩
 | _, _, _, .lst hq ds, r => by
   cases r
   obtain ⟨its, rv, p, _⟩ := I.list hq
   obtain ⟨as, ra⟩ := DsAt.reads I ds rv
   obtain ⟨o, h1, h2, n, h3⟩ := p.isList
   exact ⟨_, .list h1 h2 h3 (by simpa using ra)⟩
 | _, _, _, .tup hq ds, r => by
   cases r
   obtain ⟨its, rv, p, _⟩ := I.tuple hq
   obtain ⟨as, ra⟩ := DsAt.reads I ds rv
   obtain ⟨o, h1, h2, n, h3⟩ := p
   exact ⟨_, .tuple h1 h2 h3 (by simpa using ra)⟩
theorem DsAt.reads (I : Inv X pins σ H s) : ∀ {xs : List V} {ds : List PyData} {us : List Value}, DsAt X.K H xs ds → Vals xs us → ∃ as, ReadsAll s.heap us ds as
 | _, _, _, .nil, r => by
   cases r
   exact ⟨_, .nil⟩
 | _, _, _, .cons d ds, r => by
   cases r with
   | cons r rs =>
     obtain ⟨as, ra⟩ := DAt.reads I d r
     obtain ⟨bs, rb⟩ := DsAt.reads I ds rs
     exact ⟨_, .cons ra rb⟩
end
def DOk (d : PyData) : Prop := d.canLay0 = true ∧ d.depth ≤ 40
def rEqD (K : PySem.W.Frag) (neg : Bool) : R2 := fun x y H Q => ∃ dx dy, DAt K H x dx ∧ DAt K H y dy ∧ DOk dx ∧ DOk dy ∧ Q (.bl (if neg then !PyData.eqv dx dy else PyData.eqv dx dy)) H
theorem op_eqD (hu : X.A.units + 64 < cLine) : OpR X (compareOp .Eq) (rEqD X.K false) := by
 intro pins s σ H x y v u Q I rx ry h
 obtain ⟨dx, dy, ax, ay, okx, oky, q⟩ := h
 obtain ⟨as, r1⟩ := ax.reads I rx
 obtain ⟨bs, r2⟩ := ay.reads I ry
 refine SeqAt.compareEq_reads r1 r2 okx.1 oky.1 ?_ (fin_bl I q rfl)
 have h1 := okx.2
 have h2 : min dx.depth dy.depth ≤ dx.depth := Nat.min_le_left _ _
 omega
theorem op_neD (hu : X.A.units + 64 < cLine) : OpR X (compareOp .NotEq) (rEqD X.K true) := by
 intro pins s σ H x y v u Q I rx ry h
 obtain ⟨dx, dy, ax, ay, okx, oky, q⟩ := h
 obtain ⟨as, r1⟩ := ax.reads I rx
 obtain ⟨bs, r2⟩ := ay.reads I ry
 refine SeqAt.compareNe_reads r1 r2 okx.1 oky.1 ?_ (fin_bl I q rfl)
 have h1 := okx.2
 have h2 : min dx.depth dy.depth ≤ dx.depth := Nat.min_le_left _ _
 omega
def rInD (K : PySem.W.Frag) (neg : Bool) : R2 := fun x y H Q => ∃ p xs dx ds, y = .ref p ∧ (SqL K H p xs ∨ SqT K H p xs) ∧ DsAt K H xs ds ∧ DAt K H x dx ∧ DOk dx ∧ PyData.canLayAll0 ds = true ∧
 Q (.bl (if neg then !(ds.any fun d => PyData.eqv d dx) else ds.any fun d => PyData.eqv d dx)) H
theorem in_room {a b c : Nat} (hu : a + 64 < c) (h : b ≤ 40) (k : Nat) : a + 1 + min k b < c := by
 have h2 : min k b ≤ b := Nat.min_le_right _ _
 omega
theorem op_inD (hu : X.A.units + 64 < cLine) : OpR X (compareOp .In) (rInD X.K false) := by
 intro pins s σ H x y v u Q I rx ry h
 obtain ⟨p, xs, dx, ds, rfl, hp, ad, ax, okx, okd, q⟩ := h
 obtain ⟨bs, r2⟩ := ax.reads I rx
 rcases hp with hp | hp
 · obtain ⟨as, r1⟩ := (DAt.lst hp ad).reads I ry
   exact SeqAt.in_list_reads r1 r2 okd okx.1 (in_room hu okx.2 _) (fin_bl I q rfl)
 · obtain ⟨as, r1⟩ := (DAt.tup hp ad).reads I ry
   exact SeqAt.in_tuple_reads r1 r2 okd okx.1 (in_room hu okx.2 _) (fin_bl I q rfl)
theorem op_notInD (hu : X.A.units + 64 < cLine) : OpR X (compareOp .NotIn) (rInD X.K true) := by
 intro pins s σ H x y v u Q I rx ry h
 obtain ⟨p, xs, dx, ds, rfl, hp, ad, ax, okx, okd, q⟩ := h
 obtain ⟨bs, r2⟩ := ax.reads I rx
 rcases hp with hp | hp
 · obtain ⟨as, r1⟩ := (DAt.lst hp ad).reads I ry
   exact SeqAt.notIn_list_reads r1 r2 okd okx.1 (in_room hu okx.2 _) (fin_bl I q rfl)
 · obtain ⟨as, r1⟩ := (DAt.tup hp ad).reads I ry
   exact SeqAt.notIn_tuple_reads r1 r2 okd okx.1 (in_room hu okx.2 _) (fin_bl I q rfl)
def rCat0 (K : PySem.W.Frag) : R2 := fun x y H Q => ∃ a b ys, x = .ref a ∧ y = .ref b ∧ SqT K H a [] ∧ SqT K H b ys ∧ Q (.ref b) H
theorem op_cat0 : OpR X (binaryOp .Add) (rCat0 X.K) := by
 intro pins s σ H x y v u Q I rx ry h
 obtain ⟨a, b, ys, rfl, rfl, ha, hb, q⟩ := h
 cases rx
 cases ry
 obtain ⟨us, ru, pu, _⟩ := I.tuple ha
 obtain ⟨ws, rw', pw, _⟩ := I.tuple hb
 cases ru
 obtain ⟨⟨cls, dd, data, sl⟩, ho, hc, n, hd⟩ := id pu
 obtain ⟨⟨cls2, dd2, data2, sl2⟩, ho2, hc2, n2, hd2⟩ := id pw
 simp only at hc hd hc2 hd2
 subst hc hd hc2 hd2
 have st := tuple_addW0 a b ([] : List Value).toArray ws.toArray n n2 dd dd2 sl sl2 (by simp)
 exact concat_meets ⟨_, ho, rfl⟩ ⟨_, ho2, rfl⟩ noFill_tuple_add seq_tuple_add PySem.F.slot_tuple_add PySem.F.entry_tuple_add (PySem.F.args_tuple_add_2 _ _) st ⟨ho, ho2, ⟨.ref b, H, I, rfl, q⟩⟩
def rCatN (K : PySem.W.Frag) : R2 := fun x y H Q => ∃ a b xs ys, x = .ref a ∧ y = .ref b ∧ SqT K H a xs ∧ H b = some (.tup ys) ∧ ys ≠ [] ∧ xs.length + ys.length ≤ sizeLine ∧ ∀ p H', Same H H' → H' p = some (.tup (xs ++ ys)) → Q (.ref p) H'
theorem op_catN : OpR X (binaryOp .Add) (rCatN X.K) := by
 intro pins s σ H x y v u Q I rx ry h
 obtain ⟨a, b, xs, ys, rfl, rfl, ha, hb, hy, hz, q⟩ := h
 by_cases hx : xs = []
 · subst hx
   exact op_cat0 pins s σ H _ _ v u Q I rx ry ⟨a, b, ys, rfl, rfl, ha, SqT.of hb, q b H (Same.refl H) hb⟩
 · exact op_catT pins s σ H _ _ v u Q I rx ry ⟨a, b, xs, ys, rfl, rfl, ha, SqT.of hb, hx, hz, fun z => absurd z hy, fun _ p hp => q p _ ((Same.refl H).upd_free hp) upd_same⟩
def TSame (H H' : Hp) : Prop := ∀ b xs, H b = some (.tup xs) → H' b = some (.tup xs)
theorem Same.tups {H H' : Hp} (s : Same H H') : TSame H H' := fun b xs e => s b _ e
theorem TSame.upd_lst {H H' : Hp} {a : Addr} {ys : List V} {o : HO} (s : TSame H H') (h : H' a = some (.lst ys)) : TSame H (upd H' a o) := fun b xs e => by
 have q := s b xs e
 rw [upd_ne (ne_of q h (by intro z; cases z))]
 exact q
end
end L2
namespace L2
open PySem PySem.Spec PyProof.Rows
def Tx (n : Nat) (z : Str) : Prop := z.length ≤ n ∧ ∀ c ∈ z.cps.toList, c < 128
theorem Tx.mono {n m : Nat} {z : Str} (h : Tx n z) (k : n ≤ m) : Tx m z := ⟨Nat.le_trans h.1 k, h.2⟩
theorem Tx.ok {n : Nat} {z : Str} (h : Tx n z) : PyData.canLay0 (.str z) = true := by
 show PyData.strOk z = true
 unfold PyData.strOk
 rw [Array.all_eq_true_iff_forall_mem]
 intro c hc
 have q := h.2 c (by simpa using hc)
 exact decide_eq_true (by omega)
theorem Tx.app {n m : Nat} {y z : Str} (h : Tx n y) (k : Tx m z) : Tx (n + m) (y ++ z) := by
 refine ⟨by rw [Str.length_append]; exact Nat.add_le_add h.1 k.1, fun c hc => ?_⟩
 have e : (y ++ z).cps = y.cps ++ z.cps := rfl
 rw [e, Array.toList_append] at hc
 rcases List.mem_append.mp hc with q | q
 · exact h.2 c q
 · exact k.2 c q
theorem Tx.one {c : Nat} (h : c < 128) : Tx 1 (⟨#[c]⟩ : Str) := ⟨Nat.le_refl _, fun d hd => by
 have : d = c := by simpa using hd
 omega⟩
theorem Tx.slice {n : Nat} {z : Str} (h : Tx n z) (lo hi : Option Int) : Tx n (Txt.slice z lo hi) := by
 refine ⟨Nat.le_trans (Txt.slice_le z lo hi) h.1, fun c hc => ?_⟩
 unfold Txt.slice at hc
 split at hc
 · exact h.2 c hc
 · have hc' : c ∈ ((Builtin.Str.strSliceIndices lo hi 1 z.length).filterMap (z.cps[·]?)) := by simpa using hc
   obtain ⟨j, _, e⟩ := List.mem_filterMap.mp hc'
   exact h.2 c (by
     have := Array.mem_of_getElem? e
     simpa using this)
theorem join_tx (sep : Str) {n m : Nat} (hs : Tx m sep) : ∀ {ys : List Str}, (∀ y ∈ ys, Tx n y) → Tx (ys.length * (n + m)) (Str.join sep ys)
 | [], _ => ⟨Nat.zero_le _, fun c hc => by
   have : c ∈ ([] : List Nat) := hc
   simp at this⟩
 | [x], h => by
   have q : Tx n (Str.join sep [x]) := h x List.mem_cons_self
   exact q.mono (by rw [List.length_singleton]; omega)
 | x :: y :: r, h => by
   have q := join_tx sep hs (ys := y :: r) fun z hz => h z (List.mem_cons_of_mem _ hz)
   have e : Str.join sep (x :: y :: r) = x ++ sep ++ Str.join sep (y :: r) := rfl
   rw [e]
   refine (((h x List.mem_cons_self).app hs).app q).mono ?_
   simp only [List.length_cons, Nat.succ_mul]
   omega
section
variable {X : Cx}
def Its (z : Str) : It := ⟨fun i _ => i < z.length, fun i H x H' => H' = H ∧ ∃ c, z.cps[i]? = some c ∧ x = .str ⟨#[c]⟩, fun i _ => z.length ≤ i⟩
theorem turn_strA {P : Program} {w : World} {K : W.Frag} {tg : Expr} (z : Str) (t : Tok) (it : Addr) : Turn P w K tg (Its z) [it] it (fun i h => h.IsStrIter it "str_ascii_iterator" z t i) where
 mem := by simp
 obj := fun i h st b hb => by
   have e : b = it := by simpa using hb
   subst e
   obtain ⟨o, e, c, d⟩ := st
   exact ⟨o, e, fun v q => by rw [d] at q; cases q⟩
 keep := fun i h h' st k => let ⟨o, ho, r⟩ := st; ⟨o, k it (by simp) o ho, r⟩
 item := by
   intro Y hP hw hK hc i pins s σ H E I hf st hg
   subst hP hw hK
   have hlt : i < z.cps.size := hg
   obtain ⟨f0, f1, f2, f3, f4, f5⟩ := hf it (by simp)
   have hx : z.cps[i]? = some z.cps[i] := by simp [hlt]
   refine wpAny_pyNext_ascii_item st hx fun h' st' sb => ?_
   have I1 : Inv Y pins σ H { s with heap := h', toks := s.toks + 1 } := I.turned (fun b o hb e => (sb.2 b hb).trans e) f0 f1 f3 f4 f5
   obtain ⟨o, e, c, d⟩ := id st'
   exact ⟨_, rfl, go_of (s := { s with heap := h', toks := s.toks + 1 }) e c d (by decide) ⟨.str ⟨#[z.cps[i]]⟩, H, I1, ⟨_, rfl⟩, ⟨rfl, _, hx, rfl⟩, st', fun b hb => (hf b hb).1⟩⟩
 done := by
   intro Y hP hw hK hc i pins s σ H E I hf st hg
   subst hP hw hK
   obtain ⟨f0, f1, f2, f3, f4, f5⟩ := hf it (by simp)
   have hle : z.cps.size ≤ i := hg
   exact wpAny_pyNext_ascii_end (I.ok.hd hc) st (by simp; omega) fun h' eb => ⟨rfl, I.turned (t' := s.toks) (fun b o hb e => eb b o hb e) f0 f1 f3 f4 f5⟩
 self := fun A i s Q E st h => by
   refine wpAny_pyIter_slot st.typeIs F.slot_str_ascii_iterator_iter (wpAny_call_entry F.slot_str_ascii_iterator_iter st.typeIs F.entry_str_ascii_iterator_iter ?_ (F.args_str_ascii_iterator_iter_1 _))
   show wpAny _ _ (ret (.ref it)) _ _ s
   exact wpAny_pure ⟨_, rfl, "str_ascii_iterator", _, st.typeIs, F.slot_str_ascii_iterator_next.lookup, h⟩
def iStr (tl : TE) : TI := fun σ H R => tl σ H fun x H1 => ∃ z n, x = .str z ∧ Tx n z ∧ R (Its z) H1
theorem Tx.ascii {n : Nat} {z : Str} (h : Tx n z) : z.cps.all (· < 128) = true := by
 rw [Array.all_eq_true_iff_forall_mem]
 intro c hc
 exact decide_eq_true (h.2 c (by simpa using hc))
theorem pi_str {tg l : Expr} {tl : TE} (hl : PE X l tl) : PI X tg l (iStr tl) := by
 intro pins s σ H R I h
 refine thn (hl pins s σ H _ I h) fun v s1 ⟨x, H1, I1, r1, q1⟩ => ?_
 obtain ⟨z, n, e, tx, q⟩ := q1
 subst e
 obtain ⟨t, rfl⟩ := r1
 refine wpAny_pyIter_ascii tx.ascii ?_
 refine ⟨s1.heap.objs.size, [s1.heap.objs.size], _, _, H1, rfl, I1.kept (t' := s1.toks) fun b o e => Heap.get?_push_of_some _ e, turn_strA z t _, ⟨_, Heap.get?_push_size _ rfl, rfl, rfl⟩, fun b hb => ?_, q⟩
 have e : b = s1.heap.objs.size := by simpa using hb
 subst e
 exact I1.fpOk (Nat.le_refl _) (I1.hok.fresh (Nat.le_refl _))
theorem strsAre_of {ys : List Str} : ∀ {us : List Value}, Vals (ys.map V.str) us → StrsAre us ys := by
 induction ys with
 | nil => intro us r; rw [List.map_nil] at r; cases r; exact .nil
 | cons y ys ih =>
   intro us r
   rw [List.map_cons] at r
   cases r with
   | cons r1 r2 =>
     obtain ⟨t, e⟩ := r1
     subst e
     exact .cons y t (ih r2)
def rJoin (K : W.Frag) : V → List V → Hp → VK → Prop := fun x xs H Q => ∃ sep l ys, x = .str sep ∧ xs = [.ref l] ∧ SqL K H l (ys.map V.str) ∧ (ys.map (·.length)).sum + ys.length * sep.length ≤ 16777216 ∧ Q (.str (Str.join sep ys)) H
theorem mt_join : MtR X "str.join" (rJoin X.K) := by
 intro pins s σ H x xs v us Q I rx rs h
 obtain ⟨sep, l, ys, rfl, rfl, hl, hz, q⟩ := h
 obtain ⟨t, rfl⟩ := rx
 obtain ⟨u, rfl, ru⟩ := rs.one
 cases ru
 obtain ⟨its, rv, p, _⟩ := I.list hl
 refine join_list p.isList (strsAre_of (by simpa using rv)) hz fun t' k => ?_
 have e : Txt.join sep ys = Str.join sep ys := StrLaws.glued_eq_join sep ys
 rw [e]
 exact ⟨.str _, H, I.tok k, ⟨_, rfl⟩, q⟩
theorem sum_le {n : Nat} : ∀ {ys : List Str}, (∀ y ∈ ys, Tx n y) → (ys.map (·.length)).sum ≤ ys.length * n
 | [], _ => Nat.zero_le _
 | y :: ys, h => by
   have q := sum_le (n := n) (ys := ys) fun z hz => h z (List.mem_cons_of_mem _ hz)
   have q1 := (h y List.mem_cons_self).1
   rw [List.map_cons, List.sum_cons, List.length_cons, Nat.succ_mul]
   omega
def rSlS : V → Option Int → Option Int → Hp → VK → Prop := fun x lo hi H Q => ∃ z, x = .str z ∧ z.length ≤ sizeLine ∧ Q (.str (Txt.slice z lo hi)) H
theorem part_tok {v : Value} {o : Option Int} (p : IsPart v o) : ∃ l : Option (Int × Tok), v = partValue l ∧ l.map (·.1) = o := by
 cases p with
 | none => exact ⟨none, rfl, rfl⟩
 | int i t => exact ⟨some (i, t), rfl, rfl⟩
theorem sl_str : SlR X rSlS := by
 intro pins s σ H x v vl vu lo hi sl Q I rx hs pl pu h
 obtain ⟨z, rfl, hz, q⟩ := h
 obtain ⟨t, rfl⟩ := rx
 obtain ⟨l, rfl, rfl⟩ := part_tok pl
 obtain ⟨u, rfl, rfl⟩ := part_tok pu
 refine ⟨"str", _, F.slot_str_getitem.lookup, typeIs_str _ _ _, wpAny_getItem_str_slice (l := l) (u := u) (st := none) hs rfl ?_⟩
 refine post_val_or_str ⟨Nat.le_trans (Txt.slice_le z _ _) hz, fun t' k => ?_⟩
 exact ⟨.str _, H, I.tok k, ⟨_, rfl⟩, q⟩
def rCatL (K : W.Frag) : R2 := fun x y H Q => ∃ l b xs zs, x = .ref l ∧ y = .ref b ∧ SqL K H l xs ∧ SqL K H b zs ∧ xs.length + zs.length ≤ sizeLine ∧ ∀ p, H p = none → Q (.ref p) (upd H p (.lst (xs ++ zs)))
theorem op_catL : OpR X (binaryOp .Add) (rCatL X.K) := by
 intro pins s σ H x y v u Q I rx ry h
 obtain ⟨l, b, xs, zs, rfl, rfl, ha, hb, hz, q⟩ := h
 cases rx
 cases ry
 obtain ⟨us, ru, pu, _⟩ := I.list ha
 obtain ⟨ws, rw', pw, _⟩ := I.list hb
 have l1 := ru.length
 have l2 := rw'.length
 obtain ⟨⟨cls, dd, data, sl⟩, n, ho, hc, hdd, hd⟩ := id pu
 obtain ⟨⟨cls2, dd2, data2, sl2⟩, n2, ho2, hc2, hdd2, hd2⟩ := id pw
 simp only at hc hd hc2 hd2
 subst hc hd hc2 hd2
 have st := list_addW l b us.toArray ws.toArray n n2 dd dd2 sl sl2 (by rw [List.size_toArray, List.size_toArray]; omega)
 refine concat_meets ⟨_, ho, rfl⟩ ⟨_, ho2, rfl⟩ noFill_list_add seq_list_add PySem.F.slot_list_add PySem.F.entry_list_add (PySem.F.args_list_add_2 _ _) st ⟨ho, ho2, ?_⟩
 have ea : us.toArray ++ ws.toArray = (us ++ ws).toArray := by simp
 rw [ea]
 exact ⟨.ref _, _, I.lnew (t' := s.toks) (ru.append rw') (by rw [List.length_append]; omega), rfl, q _ I.fresh⟩
end
theorem lc_str {z : Str} {caps : St} {tt : TT} {te : TE} {D : Addr} {Q : Hp → Prop} {H1 : Hp} (Pv : Nat → List V → Hp → Prop) (hz : z.length ≤ sizeLine) (h0 : Pv 0 [] (upd H1 D (.lst []))) (hl : ∀ i ys H, Pv i ys H → ys.length ≤ i)
   (hs : ∀ i ys H (c : Nat) (N : VK) (M : Hp → Prop), z.cps[i]? = some c → Pv i ys H → (∀ y H4, H4 D = some (.lst ys) → Pv (i + 1) (ys ++ [y]) (upd H4 D (.lst (ys ++ [y]))) → N y H4) → (∀ H3, Pv (i + 1) ys H3 → M H3) →
     tt (some (.str ⟨#[c]⟩) :: caps) H fun ok H3 => if ok = true then te (some (.str ⟨#[c]⟩) :: caps) H3 N else M H3)
   (hd : ∀ ys H, Pv z.length ys H → Q H) : ∃ W : Nat → Nat → St → Hp → Prop, (∃ m, W 0 m (none :: caps) (upd H1 D (.lst []))) ∧ LcW (Its z) (gName 0) tt te D Q W := by
 refine ⟨fun i m σ H => m = z.length - i ∧ i ≤ z.length ∧ (∃ v, σ = v :: caps) ∧ ∃ ys, Pv i ys H, ⟨z.length, by simp, Nat.zero_le _, ⟨none, rfl⟩, [], h0⟩, ?_⟩
 rintro i m σ H ⟨rfl, hi, ⟨v, rfl⟩, ys, p⟩
 have hy := hl i ys H p
 by_cases hlt : i < z.length
 · refine .inr ⟨hlt, fun x H1 y => ?_⟩
   obtain ⟨e, c, hc, y⟩ := y
   subst e y
   exact hs i ys _ c _ _ hc p (fun y H4 a c => ⟨ys, a, by omega, z.length - (i + 1), by omega, rfl, hlt, ⟨_, rfl⟩, _, c⟩) (fun H3 c => ⟨z.length - (i + 1), by omega, rfl, hlt, ⟨_, rfl⟩, ys, c⟩)
 · have e : i = z.length := by omega
   subst e
   exact .inl ⟨Nat.le_refl _, hd ys H p⟩
end L2
namespace L2
open PySem PySem.Spec PyProof.Rows PySem.Builtin.Str
section
variable {X : Cx}
def rSplit : V → List V → Hp → VK → Prop := fun x xs H Q => ∃ z y : Str, x = .str z ∧ xs = [.str y] ∧ (y.length == 0) = false ∧ z.length ≤ sizeLine ∧ (partsBetween z (occurrences z y 0 z.length (z.length + 1)) y.length).length ≤ sizeLine ∧
 (Txt.split z y).length ≤ sizeLine ∧ ∀ p, H p = none → Q (.ref p) (upd H p (.lst ((Txt.split z y).map V.str)))
theorem strs_vals : ∀ l : List (Str × Tok), Vals ((l.map (·.1)).map V.str) (strValues l)
 | [] => .nil
 | (x, t) :: l => .cons ⟨t, rfl⟩ (strs_vals l)
theorem mt_split : MtR X "str.split" rSplit := by
 intro pins s σ H x xs v us Q I rx rs h
 obtain ⟨z, y, rfl, rfl, hy, hz, hz2, hz3, q⟩ := h
 obtain ⟨t, rfl⟩ := rx
 obtain ⟨u0, rfl, ru⟩ := rs.one
 obtain ⟨u, rfl⟩ := ru
 have fin : ∀ (l : List (Str × Tok)) (tk : Nat), l.map (·.1) = Txt.split z y → EP X pins σ Q (.ref s.heap.objs.size) { s with heap := s.heap.push { cls := .type "list", data := .seq (strValues l).toArray }, toks := tk } := fun l tk e => by
   have hv := strs_vals l
   rw [e] at hv
   exact ⟨.ref _, _, I.lnew (t' := tk) hv (by rw [List.length_map]; exact hz3), rfl, q _ I.fresh⟩
 cases h1 : (decide (z.length < y.length) || decide (strKind z < strKind y))
 · cases hf : (occurrences z y 0 z.length (z.length + 1)).isEmpty
   · refine call_meets F.slot_str_split (typeIs_str _ _ _) F.entry_str_split (F.args_str_split_2 _ _) (meets_str_split_sep z y t u h1 hy hf hz hz2) ?_
     show wants _ _ _ { s with toks := _, heap := s.heap.push { cls := .type "list", data := .seq (strsFrom s.toks (partsBetween z (occurrences z y 0 z.length (z.length + 1)) y.length)).toArray } }
     rw [strsFrom_eq]
     exact fin (numbered s.toks _) _ ((numbered_texts _ _).trans ((if_neg (ne_true_of_eq_false h1)).trans (if_neg (ne_true_of_eq_false hf))).symm)
   · exact call_meets F.slot_str_split (typeIs_str _ _ _) F.entry_str_split (F.args_str_split_2 _ _) (meets_str_split_not_found z y t u h1 hy hf) (fin [(z, t)] s.toks ((if_neg (ne_true_of_eq_false h1)).trans (if_pos hf)).symm)
 · exact call_meets F.slot_str_split (typeIs_str _ _ _) F.entry_str_split (F.args_str_split_2 _ _) (meets_str_split_cannot_occur z y t u h1) (fin [(z, t)] s.toks (if_pos h1).symm)
def rStarts : V → List V → Hp → VK → Prop := fun x xs H Q => ∃ z y : Str, x = .str z ∧ xs = [.str y] ∧ Q (.bl (Txt.startswith z y)) H
theorem mt_starts : MtR X "str.startswith" rStarts := by
 intro pins s σ H x xs v us Q I rx rs h
 obtain ⟨z, y, rfl, rfl, q⟩ := h
 obtain ⟨t, rfl⟩ := rx
 obtain ⟨u0, rfl, ru⟩ := rs.one
 obtain ⟨u, rfl⟩ := ru
 exact SC.startswith ⟨.bl _, H, I, rfl, q⟩
def rEnds : V → List V → Hp → VK → Prop := fun x xs H Q => ∃ z y : Str, x = .str z ∧ xs = [.str y] ∧ Q (.bl (Txt.endswith z y)) H
theorem mt_ends : MtR X "str.endswith" rEnds := by
 intro pins s σ H x xs v us Q I rx rs h
 obtain ⟨z, y, rfl, rfl, q⟩ := h
 obtain ⟨t, rfl⟩ := rx
 obtain ⟨u0, rfl, ru⟩ := rs.one
 obtain ⟨u, rfl⟩ := ru
 exact SC.endswith ⟨.bl _, H, I, rfl, q⟩
theorem split_len (z y : Str) : (Txt.split z y).length ≤ z.length + 2 := by
 unfold Txt.split
 split
 · show 1 ≤ _
   omega
 · split
   · show 1 ≤ _
     omega
   · rw [length_partsBetween]
     have e1 := StrLaws.occ_length_le z y 0 z.length (z.length + 1)
     omega
theorem parts_len (z y : Str) : (partsBetween z (occurrences z y 0 z.length (z.length + 1)) y.length).length ≤ z.length + 2 := by
 rw [length_partsBetween]
 have e1 := StrLaws.occ_length_le z y 0 z.length (z.length + 1)
 omega
end
end L2
namespace SL
open PySem PySem.Builtin.Str L2
def spStep (c : Nat) (s : List Str × Str) (x : Nat) : List Str × Str := if x = c then (s.1 ++ [s.2], Str.empty) else (s.1, s.2 ++ ⟨#[x]⟩)
def spWalk (c : Nat) (l : List Nat) : List Str × Str := l.foldl (spStep c) ([], Str.empty)
def spl (c : Nat) (l : List Nat) : List Str := (spWalk c l).1 ++ [(spWalk c l).2]
theorem spWalk_snoc (c : Nat) (l : List Nat) (x : Nat) : spWalk c (l ++ [x]) = spStep c (spWalk c l) x := by
 unfold spWalk
 rw [List.foldl_append]
 rfl
theorem occ_one (z : Str) (c : Nat) (hi limit : Nat) : ∀ (k i : Nat) (st : Array Nat × Nat), st.2 ≤ i → st.1.size + k ≤ limit →
   (forIn (List.range' i k) st (StrLaws.occBody z ⟨#[c]⟩ hi limit)).run.fst.toList = st.1.toList ++ (List.range' i k).filter fun j => decide (j + (⟨#[c]⟩ : Str).length ≤ hi ∧ subAt z ⟨#[c]⟩ j = true)
 | 0, i, st, _, _ => by
   rw [show List.range' i 0 = [] from rfl, List.filter_nil, List.append_nil]
   rfl
 | k + 1, i, st, h1, h2 => by
   rw [List.range'_succ, List.forIn_cons, List.filter_cons]
   unfold StrLaws.occBody
   by_cases hc : i + (⟨#[c]⟩ : Str).length ≤ hi ∧ subAt z ⟨#[c]⟩ i = true
   · rw [if_pos ⟨⟨⟨by omega, h1⟩, hc.1⟩, hc.2⟩, if_pos (decide_eq_true hc)]
     refine (occ_one z c hi limit k (i + 1) (st.1.push i, i + 1) (Nat.le_refl _) (by rw [Array.size_push]; omega)).trans ?_
     rw [Array.toList_push, List.append_assoc]
     rfl
   · rw [if_neg (fun y => hc ⟨y.1.2, y.2⟩), if_neg (by rw [decide_eq_false hc]; nofun)]
     exact occ_one z c hi limit k (i + 1) st (by omega) (by omega)
def cutsTo (z : Str) (c k : Nat) : List Nat := (List.range' 0 k).filter fun j => decide (z.cps.toList[j]? = some c)
theorem occ_cuts (z : Str) (c : Nat) : occurrences z ⟨#[c]⟩ 0 z.length (z.length + 1) = cutsTo z c z.length := by
 rw [StrLaws.occ_eq, occ_one z c _ _ _ 0 (#[], 0) (Nat.le_refl _) (by show 0 + (z.length + 1 - 0) ≤ _; omega)]
 show [] ++ _ = _
 rw [List.nil_append, show z.length + 1 - 0 = z.length + 1 from rfl, List.range'_concat, List.filter_append]
 unfold cutsTo
 have e : ∀ j, decide (j + (⟨#[c]⟩ : Str).length ≤ z.length ∧ subAt z ⟨#[c]⟩ j = true) = decide (z.cps.toList[j]? = some c) := fun j => decide_eq_decide.mpr (StrLaws.subAt_one z c j)
 have e2 : z.cps.toList[z.length]? = none := List.getElem?_eq_none (by rw [Array.length_toList]; exact Nat.le_refl _)
 rw [show (fun j => decide (j + (⟨#[c]⟩ : Str).length ≤ z.length ∧ subAt z ⟨#[c]⟩ j = true)) = (fun j => decide (z.cps.toList[j]? = some c)) from funext e]
 rw [show 0 + 1 * z.length = z.length by omega, List.filter_cons, if_neg (by rw [e2]; nofun), List.filter_nil, List.append_nil]
inductive Cut (z : Str) : List Nat → List Str → Nat → Prop where
 | nil : Cut z [] [] 0
 | snoc {cuts done b} (i : Nat) : Cut z cuts done b → Cut z (cuts ++ [i]) (done ++ [strSub z b i]) (i + 1)
def partsTo (z : Str) (cuts : List Nat) (last : Nat) : List Str := ((0 :: cuts.map (· + 1)).zip (cuts ++ [last])).map fun p => strSub z p.1 p.2
theorem Cut.parts {z : Str} {cuts : List Nat} {done : List Str} {b : Nat} (h : Cut z cuts done b) : ∀ last, partsTo z cuts last = done ++ [strSub z b last] := by
 induction h with
 | nil => exact fun last => rfl
 | snoc i h ih =>
   intro last
   unfold partsTo
   rw [List.map_append, ← List.cons_append, List.zip_append (by rw [List.length_cons, List.length_map, List.length_append]; rfl), List.map_append]
   have q := ih i
   unfold partsTo at q
   rw [q]
   rfl
theorem sub_nil (z : Str) (i : Nat) : strSub z i i = Str.empty := Str.ext' (by
 show z.cps.extract i i = #[]
 exact Array.eq_empty_of_size_eq_zero (by rw [Array.size_extract]; omega))
theorem walk_cuts (z : Str) (c : Nat) : ∀ k, k ≤ z.length → ∃ b, b ≤ k ∧ Cut z (cutsTo z c k) (spWalk c (z.cps.toList.take k)).1 b ∧ (spWalk c (z.cps.toList.take k)).2 = strSub z b k
 | 0, _ => ⟨0, Nat.le_refl _, .nil, (sub_nil z 0).symm⟩
 | k + 1, h => by
   obtain ⟨b, h1, h2, h3⟩ := walk_cuts z c k (by omega)
   have hk : k < z.cps.toList.length := by rw [Array.length_toList]; exact h
   have e : z.cps.toList.take (k + 1) = z.cps.toList.take k ++ [z.cps.toList[k]] := by
     rw [List.take_add_one, List.getElem?_eq_getElem hk]
     rfl
   have e1 : z.cps.toList[k]? = some z.cps.toList[k] := List.getElem?_eq_getElem hk
   have ec : cutsTo z c (k + 1) = cutsTo z c k ++ (if z.cps.toList[k] = c then [k] else []) := by
     unfold cutsTo
     rw [List.range'_concat, List.filter_append, show 0 + 1 * k = k by omega, List.filter_cons, List.filter_nil, e1]
     by_cases hc : z.cps.toList[k] = c
     · rw [if_pos (decide_eq_true (by rw [hc])), if_pos hc]
     · rw [if_neg (by rw [decide_eq_false (fun y => hc (by injection y))]; nofun), if_neg hc]
   rw [e, spWalk_snoc, ec]
   unfold spStep
   by_cases hc : z.cps.toList[k] = c
   · rw [if_pos hc, if_pos hc, h3]
     exact ⟨k + 1, Nat.le_refl _, .snoc k h2, (sub_nil z _).symm⟩
   · rw [if_neg hc, if_neg hc, List.append_nil, h3]
     refine ⟨b, by omega, h2, ?_⟩
     have hs : k < z.cps.size := h
     have eg : z.cps.getD k 0 = z.cps.toList[k] := by simp [Array.getD, hs]
     show _ = strSub z b (k + 1)
     rw [← eg]
     exact (KWd.sub_snoc z h1 h).symm
theorem split_spl (z : Str) {c : Nat} (hc : c < 256) : Txt.split z ⟨#[c]⟩ = spl c z.cps.toList := by
 have whole : partsTo z (cutsTo z c z.length) z.length = spl c z.cps.toList := by
   obtain ⟨b, _, h2, h3⟩ := walk_cuts z c z.length (Nat.le_refl _)
   have e : z.cps.toList.take z.length = z.cps.toList := by
     rw [List.take_of_length_le (by rw [Array.length_toList]; exact Nat.le_refl _)]
   rw [e] at h2 h3
   rw [h2.parts]
   unfold spl
   rw [h3]
 have none : cutsTo z c z.length = [] → [z] = spl c z.cps.toList := fun h => by
   rw [← whole, h]
   show [z] = [strSub z 0 z.length]
   rw [show strSub z 0 z.length = z from Str.ext' (by show z.cps.extract 0 z.cps.size = z.cps; exact Array.extract_size)]
 unfold Txt.split
 rw [occ_cuts]
 split
 · rename_i h
   refine none ?_
   rcases Bool.or_eq_true_iff.mp h with h | h
   · have h := of_decide_eq_true h
     have : z.length = 0 := Nat.lt_one_iff.mp h
     rw [this]
     rfl
   · have h := of_decide_eq_true h
     have e : Builtin.Str.strKind ⟨#[c]⟩ = 1 := by
       unfold Builtin.Str.strKind
       rw [if_pos (by simp [hc])]
     rw [e] at h
     unfold Builtin.Str.strKind at h
     split at h
     · omega
     · split at h <;> omega
 · split
   · rename_i h
     exact none (List.isEmpty_iff.mp h)
   · exact whole
end SL
namespace SL
open PySem L2
def FIG : Str := Str.ofString "0123456789"
def SMA : Str := Str.ofString "abcdefghijklmnopqrstuvwxyz"
def NAM : Str := Str.ofString "abcdefghijklmnopqrstuvwxyz0123456789"
def MAR : Str := Str.ofString "abcdefghijklmnopqrstuvwxyzABCDEFGHIJKLMNOPQRSTUVWXYZ0123456789.:-_/="
def hasC (S : Str) (c : Nat) : Bool := decide (c ∈ S.cps.toList)
def madeM (S z : Str) : Bool := z.cps.toList.all (hasC S)
def hd (z : Str) : Nat := z.cps.toList.headD 0
def isNum (z : Str) : Bool := decide (1 ≤ z.length ∧ z.length ≤ 9) && (madeM FIG z && (decide (z = Str.ofString "0") || !decide ((⟨#[hd z]⟩ : Str) = Str.ofString "0")))
def isName (z : Str) : Bool := decide (1 ≤ z.length ∧ z.length ≤ 12) && (hasC SMA (hd z) && madeM NAM z)
def isItem (z : Str) : Bool := isNum z || isName z
def isList (z : Str) : Bool := (Txt.startswith z (Str.ofString "[") && Txt.endswith z (Str.ofString "]")) && (decide (z = Str.ofString "[]") || (decide ((Txt.split (Txt.slice z (some 1) (some (-1))) (Str.ofString ",")).length ≤ 4) && (Txt.split (Txt.slice z (some 1) (some (-1))) (Str.ofString ",")).all isItem))
def isMark (z : Str) : Bool := decide (1 ≤ z.length ∧ z.length ≤ 12) && (madeM MAR z && !isItem z)
inductive So where
 | num | nam | lis | mar
 deriving DecidableEq
def So.str : So → Str
 | .num => Str.ofString "number" | .nam => Str.ofString "name" | .lis => Str.ofString "list" | .mar => Str.ofString "mark"
def sortM (z : Str) : Option So := if isNum z then some .num else if isName z then some .nam else if isList z then some .lis else if isMark z then some .mar else none
def vS : Option So → V
 | none => .non
 | some k => .str k.str
end SL
namespace L2
open PySem PySem.Spec PyProof.Rows
section
variable {X : Cx}
theorem range_all (bs : List Bool) (i : Nat) (h : i ≤ bs.length) : ((List.range bs.length).drop i).all (fun j => bs.getD j false) = (bs.drop i).all id := by
 induction k : bs.length - i generalizing i with
 | zero =>
   have e : i = bs.length := by omega
   subst e
   rw [List.drop_of_length_le (by simp), List.drop_of_length_le (Nat.le_refl _)]
   rfl
 | succ k ih =>
   have hlt : i < bs.length := by omega
   have hd : (List.range bs.length).drop i = i :: (List.range bs.length).drop (i + 1) := by
     rw [List.drop_eq_getElem_cons (by simpa using hlt)]; simp
   rw [hd, List.drop_eq_getElem_cons hlt, List.all_cons, List.all_cons, ih (i + 1) hlt (by omega)]
   simp [List.getD, hlt]
theorem range_any (bs : List Bool) (i : Nat) (h : i ≤ bs.length) : ((List.range bs.length).drop i).any (fun j => bs.getD j false) = (bs.drop i).any id := by
 induction k : bs.length - i generalizing i with
 | zero =>
   have e : i = bs.length := by omega
   subst e
   rw [List.drop_of_length_le (by simp), List.drop_of_length_le (Nat.le_refl _)]
   rfl
 | succ k ih =>
   have hlt : i < bs.length := by omega
   have hd : (List.range bs.length).drop i = i :: (List.range bs.length).drop (i + 1) := by
     rw [List.drop_eq_getElem_cons (by simpa using hlt)]; simp
   rw [hd, List.drop_eq_getElem_cons hlt, List.any_cons, List.any_cons, ih (i + 1) hlt (by omega)]
   simp [List.getD, hlt]
theorem truth_bs {prog : Program} {w : World} {A : Around} {bs : List Bool} {us : List Value} (rv : Vals (bs.map V.bl) us) : TruthOf prog w A (fun i v => us.toArray[i]? = some v) (fun i => bs.getD i false) := by
 intro i v s Q E hv q
 have hv' : us[i]? = some v := by simpa using hv
 have hlt : i < bs.length := by
   have := (List.getElem?_eq_some_iff.mp hv').1
   have := rv.length
   rw [List.length_map] at this
   omega
 obtain ⟨u, hu, ru⟩ := rv.get (i := i) (x := V.bl bs[i]) (by simp [hlt])
 rw [hv'] at hu
 cases hu
 cases ru
 refine wpAny_truthy_bool ?_
 have e : bs.getD i false = bs[i] := by simp [List.getD, hlt]
 have q' : Q (bs.getD i false) s := q
 rw [e] at q'
 exact q'
theorem call_allB (hc : X.calm = true) : CallR X (.builtin "all") (fun xs H Q => ∃ (p : Addr) (bs : List Bool), xs = [.ref p] ∧ SqL X.K H p (bs.map V.bl) ∧ Q (.bl (bs.all id)) H) := by
 intro pins s σ H xs us Q I r h
 obtain ⟨p, bs, rfl, hq, q⟩ := h
 obtain ⟨u, rfl, rx⟩ := vals1 r
 cases rx
 obtain ⟨its, rv, pl, hz⟩ := I.list hq
 have hl : its.length = bs.length := by
   have := rv.length
   rw [List.length_map] at this
   exact this.symm
 obtain ⟨o, ho, _⟩ := id pl.isList
 have hp : p < s.heap.objs.size := Heap.lt_size ho
 refine call_all_walk (wpAny_pyIter_list pl.isList ?_)
 refine ⟨s.heap.objs.size, [s.heap.objs.size, p], [s.heap.objs.size], its.toArray.size, _, _, fun i => bs.getD i false, rfl, Walks.list (A := X.A.in1) (by exact I.ok.hd hc) _ p (Nat.ne_of_lt hp) its.toArray, ⟨⟨_, Heap.get?_push_size _ rfl, rfl, rfl⟩, pl.isList.at fun o e => Heap.get?_push_of_some _ e⟩, truth_bs rv, fun h' tk kk => ?_⟩
 have e := range_all bs 0 (Nat.zero_le _)
 rw [List.drop_zero, List.drop_zero] at e
 rw [List.size_toArray, hl, e]
 exact ⟨.bl _, H, I.kept (t' := tk) fun b o eo => kk b o (by simpa using Nat.ne_of_lt (Heap.lt_size eo)) (Heap.get?_push_of_some _ eo), rfl, q⟩
theorem call_anyB (hc : X.calm = true) : CallR X (.builtin "any") (fun xs H Q => ∃ (p : Addr) (bs : List Bool), xs = [.ref p] ∧ SqL X.K H p (bs.map V.bl) ∧ Q (.bl (bs.any id)) H) := by
 intro pins s σ H xs us Q I r h
 obtain ⟨p, bs, rfl, hq, q⟩ := h
 obtain ⟨u, rfl, rx⟩ := vals1 r
 cases rx
 obtain ⟨its, rv, pl, hz⟩ := I.list hq
 have hl : its.length = bs.length := by
   have := rv.length
   rw [List.length_map] at this
   exact this.symm
 obtain ⟨o, ho, _⟩ := id pl.isList
 have hp : p < s.heap.objs.size := Heap.lt_size ho
 refine call_any_walk (wpAny_pyIter_list pl.isList ?_)
 refine ⟨s.heap.objs.size, [s.heap.objs.size, p], [s.heap.objs.size], its.toArray.size, _, _, fun i => bs.getD i false, rfl, Walks.list (A := X.A.in1) (by exact I.ok.hd hc) _ p (Nat.ne_of_lt hp) its.toArray, ⟨⟨_, Heap.get?_push_size _ rfl, rfl, rfl⟩, pl.isList.at fun o e => Heap.get?_push_of_some _ e⟩, truth_bs rv, fun h' tk kk => ?_⟩
 have e := range_any bs 0 (Nat.zero_le _)
 rw [List.drop_zero, List.drop_zero] at e
 rw [List.size_toArray, hl, e]
 exact ⟨.bl _, H, I.kept (t' := tk) fun b o eo => kk b o (by simpa using Nat.ne_of_lt (Heap.lt_size eo)) (Heap.get?_push_of_some _ eo), rfl, q⟩
theorem boot_all : bootBuiltins "all" = some (.builtin "all") := by decide +kernel
theorem boot_any : bootBuiltins "any" = some (.builtin "any") := by decide +kernel
structure MkN (K : W.Frag) (C : Addr) : Prop where
 makes : W.makesIn K C = true
 init : W.findIn K (.ref C) "__init__" = some (some (.builtin "object.__init__"))
 kp : W.keepIn K (.ref C) = true
def tMakeN (C : Addr) : TE := fun _ H Q => ∀ x dx, H x = none → H dx = none → dx ≠ x → Q (.ref x) (upd (upd H dx (.own x)) x (.ins C dx []))
theorem pe_makeN {x : Str} {p pos : Pos} {C : Addr} (M : MkN X.K C) (hg : Gl X x) (hm : X.mg x = some (.ref C)) (hdb : (x == ("__debug__" : Str)) = false := by decide) : PE X (.Call (.Name x p) [] [] pos) (tMakeN C) := by
 intro pins s σ H Q I h
 refine wpAny_Call_Name_kw (ld_glob I hg hm ?_ hdb)
 refine W.callWith_K0 (first := []) I.kIn M.kp (wpAny_call ?_)
 have I2 := Inv.made (C := C) I
 have hq := h (s.heap.objs.size + 1) s.heap.objs.size (I.hok.fresh (Nat.le_succ _)) (I.hok.fresh (Nat.le_refl _)) (Nat.ne_of_lt (Nat.lt_succ_self _))
 have Y := W.makes_of (M := model X.prog X.w) I.kIn M.makes
 obtain ⟨hh, g, d, t, os⟩ := s
 refine make_map0 I.kIn M.makes M.init (fun self => W.Looks.of_pure (W.oi_bind self)) ?_
 have e2 : ((hh.push W.emptyDict).push (W.instObj C hh.objs.size)).get? (hh.objs.size + 1) = some (W.instObj C hh.objs.size) := by
   have := Heap.get?_push_size (hh.push W.emptyDict) (o := W.instObj C hh.objs.size) rfl
   rwa [Heap.size_push] at this
 have t1 : W.Looks (model X.prog X.w) ((hh.push W.emptyDict).push (W.instObj C hh.objs.size)) (typeOf (.ref (hh.objs.size + 1))) (.ref C) := (W.Looks.ld e2).andThen .now
 have t2 : W.Looks (model X.prog X.w) ((hh.push W.emptyDict).push (W.instObj C hh.objs.size)) (isInstance (.ref (hh.objs.size + 1)) (.type "object")) true := t1.andThen (Y.top.keeps fun b o e => Heap.get?_push_of_some _ (Heap.get?_push_of_some _ e))
 refine codeAny_call_builtin W.oi_plain W.entry_oi (@W.check_slot (model X.prog X.w) _ _ _ "object.__init__" "object" "__init__" (.ref (hh.objs.size + 1)) [] [] _ W.oi_kind W.oi_split t2 (W.oi_args (.ref (hh.objs.size + 1))) ?_)
 rw [W.oi_run]
 exact wpAny_pure (And.intro rfl ⟨V.ref (hh.objs.size + 1), _, I2, rfl, hq⟩)
def tMethD (P : Program) (w : World) (K : W.Frag) (mg : Str → Option Value) (base : Heap) (CX : CXT) (k : Nat) (m : Str) (E : XK) (ta : TE) (t : TA) : TE := fun σ H Q => ta σ H fun x H1 => ∃ a C dx fs f fd ps sp, x = .ref a ∧ H1 a = some (.ins C dx fs) ∧ fs.lookup m = none ∧
 Cls K C ∧ Meth K C m f ∧ FnOk P w K mg base CX k f fd ps sp ∧ Binds K fd ps [] ∧ t σ H1 fun vs H2 => sp (x :: vs) H2 Q E
theorem pe_methD {CX : CXT} {k : Nat} {m : Str} {E : XK} {pos apos : Pos} {o e : Expr} {es : List Expr} {ta : TE} {t : TA} {pl : Sem Bool} (he : PE X o ta) (hr : Room k X.A) (hx : Passes CX X E) (ha : PA X (e :: es) t)
   (hst : starEach (e :: es) X.env = (false, eval e X.env) :: starEach es X.env := by rfl) (hpl : (backTo pos (starEach es X.env)).any (·.1) = false := by rfl)
   (ht : eval (.Call (.Attribute o m apos) (e :: es) [] pos) X.env = (do
     let ov ← eval o X.env
     standAt apos.atName
     let (f, first) ← holding [ov] (getMethod ov m pl)
     callWith pos f first (backTo pos (starEach (e :: es) X.env)) (backToKw pos (keywordEach [] X.env))) := by rfl) :
   PE X (.Call (.Attribute o m apos) (e :: es) [] pos) (tMethD X.prog X.w X.K X.mg X.base CX k m E ta t) := by
 intro pins s σ H Q I h
 refine W.methodCall_KW (pl := pl) (thn (he pins s σ H _ I h) fun u s1 ⟨x, H1, I1, rx, a, C, dx, fs, f, fd, ps, sp, ex, ea, l, c, hm, F, hb, q⟩ => ?_) ht
 subst ex
 obtain rfl : u = Value.ref a := rx
 refine getmeth_ok I1 ea c hm l ?_
 refine W.callWith_K (first := [.ref a]) (h₀ := X.base) I.ok.mod.kin hm.kp (thn (ha pos pins s1 σ H1 _ I1 q) fun us s2 ⟨vs, H2, I2, r, q2⟩ => ⟨I2.kIn, ?_⟩) hst hpl
 exact run_fn (us := .ref a :: us) (vs := .ref a :: vs) (dvs := []) (ds := []) F hr hb .nil hx I2 (.cons rfl r) (by rw [List.append_nil]; exact q2)
theorem pe_methD0 {CX : CXT} {k : Nat} {m : Str} {E : XK} {pos apos : Pos} {o : Expr} {ta : TE} {pl : Sem Bool} (he : PE X o ta) (hr : Room k X.A) (hx : Passes CX X E)
   (ht : eval (.Call (.Attribute o m apos) [] [] pos) X.env = (do
     let ov ← eval o X.env
     standAt apos.atName
     let (f, first) ← holding [ov] (getMethod ov m pl)
     callWith pos f first (backTo pos (starEach [] X.env)) (backToKw pos (keywordEach [] X.env))) := by rfl) :
   PE X (.Call (.Attribute o m apos) [] [] pos) (tMethD X.prog X.w X.K X.mg X.base CX k m E ta tNil) := by
 intro pins s σ H Q I h
 refine W.methodCall_KW (pl := pl) (thn (he pins s σ H _ I h) fun u s1 ⟨x, H1, I1, rx, a, C, dx, fs, f, fd, ps, sp, ex, ea, l, c, hm, F, hb, q⟩ => ?_) ht
 subst ex
 obtain rfl : u = Value.ref a := rx
 refine getmeth_ok I1 ea c hm l ?_
 exact W.callWith_K0 (first := [.ref a]) I1.kIn hm.kp (run_fn (us := [.ref a]) (vs := [.ref a]) (dvs := []) (ds := []) F hr hb .nil hx I1 (.cons rfl .nil) q)
end
end L2
namespace L2
open PySem PySem.Spec PyProof.Rows
open AutoSeq1 (wpAny_loadPart')
section
variable {prog : Program} {w : World} {A : Around} {E : Value → Shared → Prop} {s : Shared}
theorem nextOf_tup {it t : Addr} {i : Nat} {items : Array Value} {x : Value} {Q : Value → Shared → Prop} (hit : s.heap.IsTupleIter it t i) (ht : s.heap.IsTuple t items) (hx : items[i]? = some x)
   (hQ : ∀ h', h'.IsTupleIter it t (i + 1) → Heap.SameBut it s.heap h' → Q x { s with heap := h' }) : wpAny (model prog w) A (Builtin.SmallTypes.nextOf (.ref it)) Q E s := by
 obtain ⟨o, ho, hc, hd⟩ := id hit
 obtain ⟨ol, hol, _, nl, hdl⟩ := ht
 have cal := fun (R : Fin → Shared → Prop) (q : wpAny (model prog w) A.in1 (Builtin.«tuple_iterator.__next__» ⟨[.ref it], []⟩) R E s) => q
 unfold Builtin.SmallTypes.nextOf
 refine wpAny_bind (wpAny_callSpecial?_slot (name := Str.ofString "__next__") hit.typeIs F.slot_tuple_iterator_next (wpAny_call_entry F.slot_tuple_iterator_next hit.typeIs F.entry_tuple_iterator_next ?_ (F.args_tuple_iterator_next_1 _)))
 clear cal
 show wpAny _ _ (field (.ref it) 0 >>= _) _ _ s
 refine wpAny_bind (wpAny_field ho hd (x := .ref t) rfl ?_)
 show wpAny _ _ (if (Value.ref t == Value.none) = true then _ else _) _ _ s
 rw [if_neg (show ¬ ((Value.ref t == Value.none) = true) from Bool.false_ne_true)]
 show wpAny _ _ (field (.ref it) 1 >>= _) _ _ s
 refine wpAny_bind (wpAny_field ho hd (x := .int i 0) rfl ?_)
 show wpAny _ _ (seqItems? (.ref t) >>= _) _ _ s
 refine wpAny_bind (wpAny_seqItems hol hdl ?_)
 simp only [Int.toNat_natCast, hx]
 refine wpAny_bind (wpAny_setField ho hd (by simp) (wpAny_pure ⟨x, rfl, wpAny_pure (hQ _ ?_ (Heap.SameBut.update ..))⟩))
 refine ⟨_, Heap.get?_update_self _ ho (Obj.isFreed_of_fields (Obj.data_mapFields hd _)), (Obj.cls_mapFields ..).trans hc, ?_⟩
 rw [Obj.data_mapFields hd]
 simp [rawInt]
theorem nextOf_tup_end {it t : Addr} {i : Nat} {items : Array Value} {Q : Value → Shared → Prop} (hh : A.handled = none) (hit : s.heap.IsTupleIter it t i) (ht : s.heap.IsTuple t items) (hx : items[i]? = none)
   (hE : ∀ h' e, Heap.ExtBut it s.heap h' → (∃ o, h'.get? e = some o ∧ o.cls = .type "StopIteration") → E (.ref e) { s with heap := h' }) : wpAny (model prog w) A (Builtin.SmallTypes.nextOf (.ref it)) Q E s := by
 obtain ⟨o, ho, hc, hd⟩ := id hit
 obtain ⟨ol, hol, _, nl, hdl⟩ := ht
 unfold Builtin.SmallTypes.nextOf
 refine wpAny_bind (wpAny_callSpecial?_slot (name := Str.ofString "__next__") hit.typeIs F.slot_tuple_iterator_next (wpAny_call_entry F.slot_tuple_iterator_next hit.typeIs F.entry_tuple_iterator_next ?_ (F.args_tuple_iterator_next_1 _)))
 show wpAny _ _ (field (.ref it) 0 >>= _) _ _ s
 refine wpAny_bind (wpAny_field ho hd (x := .ref t) rfl ?_)
 show wpAny _ _ (if (Value.ref t == Value.none) = true then _ else _) _ _ s
 rw [if_neg (show ¬ ((Value.ref t == Value.none) = true) from Bool.false_ne_true)]
 show wpAny _ _ (field (.ref it) 1 >>= _) _ _ s
 refine wpAny_bind (wpAny_field ho hd (x := .int i 0) rfl ?_)
 show wpAny _ _ (seqItems? (.ref t) >>= _) _ _ s
 refine wpAny_bind (wpAny_seqItems hol hdl ?_)
 simp only [Int.toNat_natCast, hx]
 refine wpAny_bind (wpAny_rule (wpAny_bind (wpAny_setField ho hd (by simp) ?_)))
 show wpAny _ _ (newExc (.type "StopIteration") [] >>= _) _ _ _
 refine wpAny_bind ?_
 simp only [newExc, newTuple]
 refine wpAny_bind (wpAny_newObj_type ?_ (by size_fits))
 refine wpAny_bind (m := firstArgMember _ _) (wpAny_of_eq (a := Value.none) (by first | rfl | (simp only [firstArgMember]; rfl)) (wpAny_newObj_type ?_ (by size_fits)))
 simp only [raiseNew]
 refine wpAny_bind (wpAny_handled ?_)
 first | rw [show A.in1.handled = none from hh] | rw [hh]
 exact wpAny_bind (wpAny_pure (wpAny_throw (hE _ _ (((Heap.SameBut.update ..).extBut.push _).push _) ⟨_, Heap.get?_push_size _ rfl, rfl⟩)))
theorem draws_tup (hh : A.handled = none) (it l : Addr) (hne : l ≠ it) (items : Array Value) :
   Draws prog w A it [it, l] items.size (fun i v => items[i]? = some v) (fun i h => h.IsTupleIter it l i ∧ h.IsTuple l items) where
 live := fun _ _ st => let ⟨o, ho, _⟩ := st.1; ⟨o, ho⟩
 frame := fun _ _ _ st hk => ⟨let ⟨o, ho, r⟩ := st.1; ⟨o, hk it (by simp) o ho, r⟩, let ⟨o, ho, r⟩ := st.2; ⟨o, hk l (by simp) o ho, r⟩⟩
 item := fun i s Q E hi st hQ => nextOf_tup st.1 st.2 (x := items[i]) (by simp [hi]) fun h' hit' hs' => hQ _ h' s.toks (by simp [hi]) ⟨hit', st.2.extBut hs'.extBut hne⟩ hs'
 done := fun s Q E st hE => nextOf_tup_end hh st.1 st.2 (by simp) hE
theorem meets_enum_tup (l : Addr) (o : Obj) (items : Array Value) (n : Nat) (hc : o.cls = .type "tuple") (hd : o.data = .seq items n) :
   Meets (Builtin.«enumerate.__new__» ⟨[.type "enumerate", .ref l], []⟩) (fun _ R s => s.heap.get? l = some o ∧
     R (.ok (.ret (.ref (s.heap.push { cls := .type "tuple_iterator", data := .fields #[.ref l, .int 0 0] }).objs.size)))
       { s with heap := (s.heap.push { cls := .type "tuple_iterator", data := .fields #[.ref l, .int 0 0] }).push { cls := .type "enumerate", data := .fields #[.none, .bool false, .ref s.heap.objs.size, rawInt 0, .none, .none] } }) :=
 .of_wp fun prog w A R s h => by
   obtain ⟨cls, dd, data, sl⟩ := o
   simp only at hc hd
   subst hc hd
   obtain ⟨hp, g, d, tk, os⟩ := s
   obtain ⟨hl, h⟩ := h
   have hsub := sub_enumerate
   have hL : Heap.IsTuple (Shared.heap ⟨hp, g, d, tk, os⟩) l items := ⟨_, hl, rfl, n, rfl⟩
   wp_walk using wpAny_loadPart' hl
   refine wpAny_stack_any fun st => wpAny_pure ?_
   split
   · rename_i c _ _ _ _ _
     cases (c == Value.type "enumerate")
     · wp_walk using wpAny_loadPart' hl, wpAny_pyIter_tuple hL
       exact ⟨_, rfl, h⟩
     · wp_walk using wpAny_loadPart' hl, wpAny_pyIter_tuple hL
       exact ⟨_, rfl, h⟩
   · wp_walk using wpAny_loadPart' hl, wpAny_pyIter_tuple hL
     exact ⟨_, rfl, h⟩
end
section
variable {X : Cx} {pins : List (Addr × Obj)} {σ : St} {H : Hp} {s : Shared}
theorem Inv.turnedT {h' : Heap} {t' : Nat} {ch : List Addr} {T : Addr} {o : HO} (I : Inv X pins σ H s) (hc : ∀ b ∈ ch, FpOk X pins H b) (k : ∀ b u, b ∉ ch → s.heap.get? b = some u → h'.get? b = some u) (hT : s.heap.objs.size ≤ T) (new : ObjOk X.prog X.w (upd H T o) h' T o) :
   Inv X pins σ (upd H T o) { s with heap := h', toks := t' } := by
 have hn : H T = none := I.hok.fresh hT
 have nT : ∀ b u, s.heap.get? b = some u → b ≠ T := fun b u e => Nat.ne_of_lt (Nat.lt_of_lt_of_le (Heap.lt_size e) hT)
 have nc : ∀ b u, H b = some u → b ∉ ch := fun b u e z => by
   have := (hc b z).1
   rw [e] at this
   cases this
 refine I.step (g' := s.gens) (d' := s.drawn) (ch := ch) (fun b hb => ⟨(hc b hb).2.2.2.1, (hc b hb).2.1, (hc b hb).2.2.2.2.1, (hc b hb).2.2.2.2.2⟩) (fun b u _ _ z e _ => k b u z e) (fun b u _ _ z e _ => ⟨u.slots, k b u z e⟩)
   (fun b u _ e n => by rw [upd_ne (nT b u e)]; exact n) (fun b u z e => ⟨u, k b u z e⟩) (fun b xs q => by rw [upd_ne (ne_of_none q hn)]; exact q) (fun b u xs q => by rw [upd_ne (ne_of_none q hn)]; exact q)
   (fun b ps q => ⟨#[], by rw [upd_ne (ne_of_none q hn), q]; simp⟩) (fun m hm => ?_) (fun b u e => ?_) I.bare
 · obtain ⟨u, es, ep, ho, r⟩ := hm
   exact ⟨u, es, ep, k _ u (fun z => (hc _ z).2.1 rfl) ho, r⟩
 · by_cases hb : b = T
   · subst hb
     rw [upd_same] at e
     cases e
     exact new
   · rw [upd_ne hb] at e
     refine (I.hok b u e).stay (fun c v z q => k c v ?_ q) (fun c q => by rw [upd_ne (ne_of_none q hn)]; exact q) fun c xs q => by rw [upd_ne (ne_of_none q hn)]; exact q
     rcases z with z | z
     · rw [z]; exact nc b u e
     · exact nc c _ z
end
def Ite (K : W.Frag) (a : Addr) : It :=
 ⟨fun i H => ∃ xs x, SqT K H a xs ∧ xs[i]? = some x, fun i H v H' => ∃ p x, v = .ref p ∧ H p = none ∧ H' = upd H p (.tup [.int i, x]) ∧ ∀ xs, SqT K H a xs → xs[i]? = some x, fun i H => ∃ xs, SqT K H a xs ∧ xs.length ≤ i⟩
theorem turn_enum {P : Program} {w : World} {K : W.Frag} {elts : List Expr} {k : Nat} {pos : Pos} (a e it : Addr) (hei : e ≠ it) (hae : a ≠ e) (hai : a ≠ it) :
   Turn P w K (.Tuple elts k pos) (Ite K a) [e, it] e (fun i h => (∃ old, IsEnum h e it i old) ∧ h.IsTupleIter it a i) where
 mem := by simp
 obj := fun i h st b hb => by
   obtain ⟨⟨old, h1⟩, o, h2, h3, h4⟩ := st
   rcases List.mem_cons.mp hb with z | z
   · subst z
     exact ⟨_, h1, fun v z => by cases z⟩
   · have z' : b = it := by simpa using z
     subst z'
     exact ⟨o, h2, fun v z => by rw [h4] at z; cases z⟩
 keep := fun i h h' st kk => by
   obtain ⟨⟨old, h1⟩, h2⟩ := st
   exact ⟨⟨old, kk e (by simp) _ h1⟩, (let ⟨o, ho, r⟩ := h2; ⟨o, kk it (by simp) o ho, r⟩)⟩
 item := by
   intro X hP hw hK hc i pins s σ H E I hf st hg
   subst hP hw hK
   obtain ⟨xs, x, hq, hx⟩ := hg
   obtain ⟨its, rv, p, hz⟩ := I.tuple hq
   obtain ⟨u, hu, ru⟩ := rv.get hx
   obtain ⟨⟨old, h1⟩, h2⟩ := st
   have D := draws_tup (prog := X.prog) (w := X.w) (A := X.A.in1) (I.ok.hd hc) it a hai its.toArray
   have hlt : i < its.toArray.size := by
     have := (List.getElem?_eq_some_iff.mp hu).1
     simpa using this
   refine wpAny_pyNext_enum_itemD D h1 ⟨h2, p⟩ hlt hei (by simp [Ne.symm hae, hei]) fun y h' tk hy ho hs' hT hsz hk => ?_
   have hyu : y = u := by
     have e1 : its.toArray[i]? = some u := by simpa using hu
     exact Option.some.inj (hy.symm.trans e1)
   subst hyu
   refine ⟨_, rfl, wpAny_letOwnedTupleGo_enum ho fun h'' he'' hsb => ?_⟩
   have helt : e < s.heap.objs.size := Heap.lt_size h1
   have kk : ∀ b o, b ∉ [e, it] → s.heap.get? b = some o → h''.get? b = some o := fun b o hb q => by
     have b1 : b ≠ e := fun z => hb (by simp [z])
     have b2 : b ≠ it := fun z => hb (by simp [z])
     exact (hsb.2 b b1).trans (hk b o b1 b2 q)
   have hT'' : h''.get? s.heap.objs.size = some { cls := .type "tuple", data := .seq #[.int i tk, y] } := (hsb.2 _ (Nat.ne_of_gt helt)).trans hT
   have hno : H s.heap.objs.size = none := I.hok.fresh (Nat.le_refl _)
   have I1 : Inv X pins σ (upd H s.heap.objs.size (.tup [.int i, x])) { s with heap := h'', toks := tk + 1 } := by
     refine I.turnedT (ch := [e, it]) hf kk (Nat.le_refl _) ⟨(by show 2 ≤ sizeLine; decide), [.int i tk, y], ?_, ⟨_, hT'', rfl, _, rfl⟩⟩
     exact .cons ⟨tk, rfl⟩ (.cons ru .nil)
   refine ⟨.ref s.heap.objs.size, _, I1, rfl, ⟨_, x, rfl, hno, rfl, fun ys hy' => by rw [I.tuple_inj hy' hq]; exact hx⟩, ⟨⟨y, ?_⟩, ?_⟩, fun b hb => ?_⟩
   · simpa using he''
   · have q := hs'.1
     obtain ⟨o, z, r⟩ := q
     exact ⟨o, (hsb.2 it (Ne.symm hei)).trans z, r⟩
   · have hb' := (hf b hb).1
     rw [upd_ne]
     · exact hb'
     · intro z
       subst z
       obtain ⟨ob, eb, _⟩ : ∃ o, s.heap.get? s.heap.objs.size = some o ∧ True := by
         rcases List.mem_cons.mp hb with q | q
         · rw [q]; exact ⟨_, h1, trivial⟩
         · have q' : s.heap.objs.size = it := by simpa using q
           obtain ⟨o, ho', _⟩ := h2
           rw [q']; exact ⟨o, ho', trivial⟩
       exact absurd (Heap.lt_size eb) (Nat.lt_irrefl _)
 done := by
   intro X hP hw hK hc i pins s σ H E I hf st hg
   subst hP hw hK
   obtain ⟨xs, hq, hx⟩ := hg
   obtain ⟨its, rv, p, hz⟩ := I.tuple hq
   obtain ⟨⟨old, h1⟩, h2⟩ := st
   have hl := rv.length
   have hT : s.TypeIs (.ref e) "enumerate" := ⟨_, h1, rfl⟩
   unfold pyNext
   refine wpAny_bind (wpAny_attempt (wpAny_callSpecial?_slot (name := Str.ofString "__next__") hT F.slot_enumerate_next (wpAny_call_entry F.slot_enumerate_next hT F.entry_enumerate_next ?_ (F.args_enumerate_next_1 _))))
   show wpAny _ _ (field (.ref e) 2 >>= _) _ _ _
   refine wpAny_bind (wpAny_field h1 rfl (x := .ref it) rfl ?_)
   refine wpAny_bind (nextOf_tup_end (items := its.toArray) (by exact I.ok.hd hc) h2 p (by simp; omega) fun h' x he' hx' => ?_)
   obtain ⟨o, ho, hc'⟩ := hx'
   refine wpAny_bind (wpAny_isInstance (T := "StopIteration") (b := true) ⟨o, ho, hc'⟩ isSubtype_stop ?_)
   obtain ⟨f0, f1, f2, f3, f4, f5⟩ := hf it (by simp)
   exact wpAny_pure ⟨rfl, I.turned (t' := s.toks) (fun b o hb q => he' b o hb q) f0 f1 f3 f4 f5⟩
 self := fun A i s Q E st h => by
   obtain ⟨⟨old, h1⟩, _⟩ := st
   exact wpAny_pyIter_enum h1 h
def iEnum (K : W.Frag) (ta : TA) : TI := fun σ H R => ta σ H fun vs H1 => ∃ a, vs = [.ref a] ∧ (∃ xs, SqT K H1 a xs) ∧ R (Ite K a) H1
theorem boot_enum : bootBuiltins "enumerate" = some (.type "enumerate") := by decide +kernel
theorem pi_enum {X : Cx} {elts : List Expr} {k : Nat} {tpos : Pos} {a : Expr} {ta : TA} {p pos : Pos} (hg : Gl X "enumerate") (hm : X.mg "enumerate" = none) (ha : PA X [a] ta) (hs : starEach [a] X.env = [(false, eval a X.env)] := by rfl) :
   PI X (.Tuple elts k tpos) (.Call (.Name "enumerate" p) [a] [] pos) (iEnum X.K ta) := by
 intro pins s σ H R I h
 refine Call_ (ld_blt I hg hm boot_enum (PyProof.Rows.callWith_type1 (thn (ha pos pins s σ H _ I h) fun us s1 ⟨vs, H1, I1, r1, q1⟩ => ?_) hs rfl))
 obtain ⟨b, e, ⟨xs, hq⟩, q⟩ := q1
 subst e
 obtain ⟨u, rfl, ru⟩ := r1.one
 cases ru
 obtain ⟨its, rv, pt, hz⟩ := I1.tuple hq
 obtain ⟨o, ho, hc, n, hd⟩ := id pt
 have hb : b < s1.heap.objs.size := Heap.lt_size ho
 refine callType_new F.called_enumerate (by decide) (F.typeCall_enumerate_1 _) (F.newCall_enumerate_1 _) (fun obj => F.args_object_init_2 obj _) F.entry_enumerate_new (meets_enum_tup b o its.toArray n hc hd) ⟨ho, ?_⟩
 have hz1 : (s1.heap.push { cls := .type "tuple_iterator", data := .fields #[.ref b, .int 0 0] }).objs.size = s1.heap.objs.size + 1 := Heap.size_push ..
 show _ ∧ _
 rw [hz1]
 have he : IsEnum ((s1.heap.push { cls := .type "tuple_iterator", data := .fields #[.ref b, .int 0 0] }).push { cls := .type "enumerate", data := .fields #[.none, .bool false, .ref s1.heap.objs.size, rawInt 0, .none, .none] }) (s1.heap.objs.size + 1) s1.heap.objs.size 0 .none := by
   have q := Heap.get?_push_size (s1.heap.push { cls := .type "tuple_iterator", data := .fields #[.ref b, .int 0 0] }) (o := { cls := .type "enumerate", data := .fields #[.none, .bool false, .ref s1.heap.objs.size, rawInt 0, .none, .none] }) rfl
   rw [hz1] at q
   exact q
 refine ⟨⟨_, he, rfl⟩, ?_⟩
 refine wpAny_pyIter_enum he ?_
 have I2 := I1.kept (h' := (s1.heap.push { cls := .type "tuple_iterator", data := .fields #[.ref b, .int 0 0] }).push { cls := .type "enumerate", data := .fields #[.none, .bool false, .ref s1.heap.objs.size, rawInt 0, .none, .none] }) (t' := s1.toks) fun c v q => Heap.get?_push_of_some _ (Heap.get?_push_of_some _ q)
 refine ⟨s1.heap.objs.size + 1, [s1.heap.objs.size + 1, s1.heap.objs.size], _, Ite X.K b, H1, rfl, I2, turn_enum b _ _ (Nat.succ_ne_self _) (Nat.ne_of_lt (Nat.lt_succ_of_lt hb)) (Nat.ne_of_lt hb), ⟨⟨_, he⟩, ⟨_, Heap.get?_push_of_some _ (Heap.get?_push_size _ rfl), rfl, rfl⟩⟩, fun c hc' => ?_, q⟩
 have hle : s1.heap.objs.size ≤ c := by
   rcases List.mem_cons.mp hc' with z | z
   · rw [z]
     exact Nat.le_succ _
   · have z' : c = s1.heap.objs.size := by simpa using z
     exact Nat.le_of_eq z'.symm
 exact I1.fpOk hle (I1.hok.fresh hle)
end L2
namespace L2
open PySem PySem.Spec PyProof.Rows
section
variable {X : Cx}
def rCat1 (K : W.Frag) : R2 := fun x y H Q => ∃ a b xs ys, x = .ref a ∧ y = .ref b ∧ H a = some (.tup xs) ∧ SqT K H b ys ∧ xs ≠ [] ∧ xs.length + ys.length ≤ sizeLine ∧ ∀ p H', Same H H' → H' p = some (.tup (xs ++ ys)) → Q (.ref p) H'
theorem op_cat1 : OpR X (binaryOp .Add) (rCat1 X.K) := by
 intro pins s σ H x y v u Q I rx ry h
 obtain ⟨a, b, xs, ys, rfl, rfl, ha, hb, hx, hz, q⟩ := h
 exact op_catT pins s σ H _ _ v u Q I rx ry ⟨a, b, xs, ys, rfl, rfl, SqT.of ha, hb, hx, hz, fun z => q a H (Same.refl H) (by subst z; rw [List.append_nil]; exact ha), fun _ p hp => q p _ ((Same.refl H).upd_free hp) upd_same⟩
end
end L2
namespace L2
open PySem PySem.Spec PyProof.Rows
section
variable {X : Cx}
def manyI (ns : List Int) : Nat := (firstMet (fun i => ns.getD i 0) ns.length).length
def inI (ns : List Int) : Int → Bool := fun k => (firstMet (fun i => ns.getD i 0) ns.length).any (· == k)
theorem call_setI (hc : X.calm = true) : CallR X (.type "set") (fun xs H Q => ∃ p ns, xs = [.ref p] ∧ SqL X.K H p (ns.map V.int) ∧ ns.length ≤ 1000 ∧ ∀ a, H a = none → Q (.ref a) (upd H a (.set (inI ns) (manyI ns)))) := by
 intro pins s σ H xs us Q I r h
 obtain ⟨p, ns, rfl, hq, hn, q⟩ := h
 obtain ⟨u, rfl, rx⟩ := vals1 r
 cases rx
 obtain ⟨its, r', pl, hz⟩ := I.list hq
 have hlen := r'.length
 rw [List.length_map] at hlen
 refine PySem.call_set_list (items := its.toArray) (ns := ns) (I.ok.hd hc) pl.isList (by simpa using intsAre_of r') (by unfold scanBound; rw [List.size_toArray]; omega) fun h' tk hS hk => ?_
 rw [show its.toArray.size = ns.length by rw [List.size_toArray, hlen]] at hS
 exact ⟨.ref s.heap.objs.size, _, I.laid (t' := tk) (fun b o e => hk b o (Heap.lt_size e) e) (Nat.le_refl _) (show ObjOk X.prog X.w _ h' _ (.set (inI ns) (manyI ns)) from hS), rfl, q _ (I.hok.fresh (Nat.le_refl _))⟩
theorem call_lenS : CallR X (.builtin "len") (fun xs H Q => ∃ a S n, xs = [V.ref a] ∧ H a = some (.set S n) ∧ Q (.int n) H) := by
 intro pins s σ H xs us Q I r h
 obtain ⟨a, S, n, rfl, ha, q⟩ := h
 obtain ⟨u, rfl, ru⟩ := vals1 r
 cases ru
 obtain ⟨o, es, ep, t, ho, hex, hd, _, _, hb, hf, hn⟩ := show s.heap.SetOf (intKind X.prog X.w) a S n from I.hok _ _ ha
 subst hn
 unfold scanBound at hb
 exact call_len_set ho hex hd hf (by omega) ⟨.int es.size, H, I.tok _, ⟨_, rfl⟩, q⟩
end
theorem range_getD (ns : List Int) : (List.range ns.length).map (fun i => ns.getD i 0) = ns := by
 apply List.ext_getElem
 · simp
 · intro i h1 h2
   have h3 : i < ns.length := h2
   simp [List.getD, h3]
theorem first_nodup : ∀ (ns σ : List Int), σ.Nodup → (ns.foldl step_dedup σ).Nodup
 | [], σ, h => h
 | v :: ns, σ, h => by
   refine first_nodup ns _ ?_
   unfold step_dedup
   split
   · exact h
   · rename_i hn
     rw [List.nodup_append]
     refine ⟨h, by simp, fun x hx y hy => ?_⟩
     rw [List.mem_singleton] at hy
     intro z
     subst hy z
     exact hn (List.any_eq_true.mpr ⟨_, hx, by simp⟩)
theorem inI_iff (ns : List Int) (k : Int) : inI ns k = true ↔ k ∈ ns := by
 unfold inI
 rw [firstMet_any, range_getD, List.any_eq_true]
 exact ⟨fun ⟨x, hx, e⟩ => by rw [beq_iff_eq] at e; rwa [← e], fun h => ⟨k, h, by simp⟩⟩
theorem many_one {a : Int} {ns : List Int} (ha : a ∈ ns) : manyI ns = 1 ↔ ∀ x ∈ ns, x = a := by
 have nd : (firstMet (fun i => ns.getD i 0) ns.length).Nodup := by
   unfold firstMet
   exact first_nodup _ _ List.nodup_nil
 have mem : ∀ k, k ∈ firstMet (fun i => ns.getD i 0) ns.length ↔ k ∈ ns := fun k => by
   rw [← inI_iff ns k]
   unfold inI
   rw [List.any_eq_true]
   exact ⟨fun h => ⟨k, h, by simp⟩, fun ⟨x, hx, e⟩ => by rw [beq_iff_eq] at e; rwa [← e]⟩
 unfold manyI
 generalize firstMet (fun i => ns.getD i 0) ns.length = l at nd mem
 constructor
 · intro h x hx
   obtain ⟨y, hy⟩ := List.length_eq_one_iff.mp h
   have h1 := (mem x).mpr hx
   have h2 := (mem a).mpr ha
   rw [hy, List.mem_singleton] at h1 h2
   rw [h1, h2]
 · intro h
   match l, nd, mem with
   | [], _, mem => have := (mem a).mpr ha; simp at this
   | [y], _, _ => rfl
   | y :: z :: r, nd, mem =>
     have h1 := h y ((mem y).mp (by simp))
     have h2 := h z ((mem z).mp (by simp))
     simp [h1, h2] at nd
end L2
namespace L2
open PySem PySem.Spec PyProof.Rows
section
variable {X : Cx}
def tCutT (t : TT) : TT := fun σ H Q => ∃ M : Bool → Hp → Prop, t σ H M ∧ ∀ b H', M b H' → Q b H'
theorem pt_cut {e : Expr} {t : TT} (h : PT X e t) : PT X e (tCutT t) := by
 intro pins s σ H Q I ⟨M, h1, h2⟩
 exact thn (h pins s σ H M I h1) fun b s' ⟨H', I', m⟩ => ⟨H', I', h2 b H' m⟩
end
end L2
namespace L2
open PySem PySem.Spec PyProof.Rows
theorem lc_enum2 {K : W.Frag} {a : Addr} {xs : List V} {caps : St} {tt : TT} {te : TE} {D : Addr} {Q : Hp → Prop} {H1 : Hp} (Pv : Nat → List V → Hp → Prop) (hz : xs.length ≤ sizeLine) (h0 : Pv 0 [] (upd H1 D (.lst []))) (hl : ∀ i ys H, Pv i ys H → ys.length ≤ i) (hq : ∀ i ys H, Pv i ys H → SqT K H a xs)
   (hs : ∀ i ys H (x : V) (p : Addr) (N : VK) (M : Hp → Prop), xs[i]? = some x → Pv i ys H → H p = none → (∀ y H4, H4 D = some (.lst ys) → Pv (i + 1) (ys ++ [y]) (upd H4 D (.lst (ys ++ [y]))) → N y H4) → (∀ H3, Pv (i + 1) ys H3 → M H3) →
     tt (some (.int (i : Nat)) :: some x :: caps) (upd H p (.tup [.int (i : Nat), x])) fun ok H3 => if ok = true then te (some (.int (i : Nat)) :: some x :: caps) H3 N else M H3)
   (hd : ∀ ys H, Pv xs.length ys H → Q H) : ∃ W : Nat → Nat → St → Hp → Prop, (∃ m, W 0 m (none :: none :: caps) (upd H1 D (.lst []))) ∧ LcW (Ite K a) (gTup K 2 (gCons (gName 0) (gCons (gName 1) gNil))) tt te D Q W := by
 refine ⟨fun i m σ H => m = xs.length - i ∧ i ≤ xs.length ∧ (∃ v w, σ = v :: w :: caps) ∧ ∃ ys, Pv i ys H, ⟨xs.length, by simp, Nat.zero_le _, ⟨none, none, rfl⟩, [], h0⟩, ?_⟩
 rintro i m σ H ⟨rfl, hi, ⟨v, w, rfl⟩, ys, p⟩
 have hy := hl i ys H p
 by_cases hlt : i < xs.length
 · refine .inr ⟨⟨xs, xs[i], hq i ys H p, by simp [hlt]⟩, fun x H1 y => ?_⟩
   obtain ⟨c, z, e1, e2, e3, e4⟩ := y
   subst e1 e3
   exact ⟨c, [.int (i : Nat), z], rfl, SqT.of upd_same, rfl, _, _, rfl, _, _, rfl, rfl, hs i ys H z c _ _ (e4 xs (hq i ys _ p)) p e2 (fun y H4 a c => ⟨ys, a, by omega, xs.length - (i + 1), by omega, rfl, hlt, ⟨_, _, rfl⟩, _, c⟩) (fun H3 c => ⟨xs.length - (i + 1), by omega, rfl, hlt, ⟨_, _, rfl⟩, ys, c⟩)⟩
 · have e : i = xs.length := by omega
   subst e
   exact .inl ⟨⟨xs, hq _ ys H p, Nat.le_refl _⟩, hd ys H p⟩
end L2
namespace L2
open PySem PySem.Spec PyProof.Rows
section
variable {X : Cx}
theorem call_rng1 : CallR X (.type "range") (fun xs H Q => ∃ j : Int, xs = [.int j] ∧ ∀ a, H a = none → Q (.ref a) (upd H a (.rng 0 j))) := by
 intro pins s σ H xs us Q I r h
 obtain ⟨j, rfl, q⟩ := h
 obtain ⟨u, rfl, rx⟩ := vals1 r
 obtain ⟨t, rfl⟩ := rx
 refine call_range_1 ⟨.ref s.heap.objs.size, _, I.laid (t' := s.toks + 1 + 1) (o := .rng 0 j) (fun b o e => Heap.get?_push_of_some _ e) (Nat.le_refl _) ⟨_, _, _, Heap.get?_push_size _ rfl⟩, rfl, q _ (I.hok.fresh (Nat.le_refl _))⟩
def rangeI (lo : Int) (n : Nat) : List Int := (List.range n).map fun (i : Nat) => lo + (i : Int)
theorem items_vals {lo : Int} : ∀ (n : Nat) (us : List Value), us.length = n → (∀ (i : Nat) (v : Value), us[i]? = some v → ∃ t, v = .int (lo + (i : Int)) t) → Vals ((rangeI lo n).map V.int) us := by
 intro n
 induction n generalizing lo with
 | zero =>
   intro us hl _
   have : us = [] := List.length_eq_zero_iff.mp hl
   subst this
   exact .nil
 | succ n ih =>
   intro us hl h
   cases us with
   | nil => simp at hl
   | cons u us =>
     obtain ⟨t, rfl⟩ := h 0 u rfl
     have e : rangeI lo (n + 1) = (lo + ((0 : Nat) : Int)) :: rangeI (lo + 1) n := by
       unfold rangeI
       rw [List.range_succ_eq_map, List.map_cons, List.map_map]
       congr 1
       apply List.map_congr_left
       intro i _
       show lo + ((Nat.succ i : Nat) : Int) = lo + 1 + (i : Int)
       omega
     rw [e, List.map_cons]
     refine .cons ⟨t, rfl⟩ (ih us (by simpa using hl) fun i v hv => ?_)
     obtain ⟨t', rfl⟩ := h (i + 1) v (by simpa using hv)
     exact ⟨t', by congr 1; omega⟩
theorem call_list_rng (hc : X.calm = true) : CallR X (.type "list") (fun xs H Q => ∃ (p : Addr) (lo hi : Int), xs = [.ref p] ∧ H p = some (.rng lo hi) ∧ -(2 ^ 62) ≤ lo ∧ lo < 2 ^ 62 ∧ -(2 ^ 62) ≤ hi ∧ hi < 2 ^ 62 ∧ (hi - lo).toNat ≤ 1000 ∧ ∀ l, H l = none → Q (.ref l) (upd H l (.lst ((rangeI lo (hi - lo).toNat).map V.int)))) := by
 intro pins s σ H xs us Q I r h
 obtain ⟨p, lo, hi, rfl, hp, l0, l1, h0, h1, hn, q⟩ := h
 obtain ⟨u, rfl, rx⟩ := vals1 r
 cases rx
 obtain ⟨t, u, v, ho⟩ := show ∃ t u v, s.heap.get? p = some { cls := .type "range", data := .fields #[.int lo t, .int hi u, .int 1 v] } from I.hok _ _ hp
 refine call_list_range (n := (hi - lo).toNat) (I.ok.hd hc) ho (small_one l0 l1 h0 h1) (by rw [rangeSize_one]; split <;> omega) (by omega) fun h' tk acc' c' hk hS hI => ?_
 refine ⟨.ref s.heap.objs.size, _, I.laid (t' := tk) hk (Nat.le_refl _) (show ObjOk X.prog X.w _ h' _ (.lst ((rangeI lo (hi - lo).toNat).map V.int)) from ⟨?_, acc'.toList, c', ?_, ?_⟩), rfl, q _ (I.hok.fresh (Nat.le_refl _))⟩
 · unfold rangeI
   rw [List.length_map, List.length_map, List.length_range]
   exact Nat.le_of_lt (small1000 hn)
 · refine items_vals _ _ (by rw [Array.length_toList]; exact hI.1) fun i v hv => ?_
   obtain ⟨t, rfl⟩ := hI.2 i v (by simpa using hv)
   exact ⟨t, by rw [Int.mul_one]⟩
 · rw [Array.toArray_toList]
   exact hS
end
end L2
namespace L2
open PySem PySem.Spec PyProof.Rows
structure FunD (K : W.Frag) (x qual : Str) (st : Stmt) (f : Addr) (fd : FuncData) (its : Array Value) : Prop where
 ex : ∃ (oc : Value) (od : Option Addr) (dT : Addr) (kV doc pm : Value) (an : Option Addr) (cdv ct : Value) (osl : Array (Option Value)),
   fd = W.fnOf x qual (defArgs st) (defBody st) (defScope st) (.ref dT) kV doc pm an cdv ct ∧ K.lookup f = some ⟨oc, od, .func fd, osl⟩ ∧ W.codeIn K cdv qual = true ∧ ∃ (o : Obj) (n : Nat), K.lookup dT = some o ∧ o.data = .seq its n
 kp : W.keepIn K (.ref f) = true
section
variable {P : Program} {w : World} {K : W.Frag} {mg : Str → Option Value} {base : Heap}
theorem FunD.ok {x qual : Str} {st : Stmt} {f : Addr} {fd : FuncData} {its : Array Value} {N ps : List Str} {k : Nat} {sp : Sp} (F : FunD K x qual st f fd its) (S : FnScope N ps (defScope st)) (len : ∀ vs H Q E, sp vs H Q E → vs.length = ps.length)
   (hbody : ∀ (cdv : Value) (A : Around) (outer : List Env) (s : Shared) (H : Hp) (vs : List V) (Q : VK) (E : XK), Room k (A.deeper (envOfC qual (defScope st) s.heap.objs.size f cdv)) → sp vs H Q E →
     ∃ t, PSs (cxOf CX0 P w K mg base N qual (defScope st) f cdv A outer s H E).nox (defBody st) t ∧ t { nx := fun _ H' => Q .non H', rt := Q } (start N vs) H) : FnOk P w K mg base CX0 (k + 1) f fd ps sp := by
 obtain ⟨oc, od, dT, kV, doc, pm, an, cdv, ct, osl, rfl, lk, hcd, _⟩ := F.ex
 refine fn_of lk hcd S len fun A outer s H vs Q E hr hsp => ?_
 obtain ⟨t, h, q⟩ := hbody cdv A outer s H vs Q E hr hsp
 exact ⟨t, h.nox, q⟩
theorem FunD.binds {x qual : Str} {st : Stmt} {f : Addr} {fd : FuncData} {its : Array Value} {ps : List Str} {ds : List Value} (F : FunD K x qual st f fd its)
   (h : ∀ (dT : Addr) (kV doc pm : Value) (an : Option Addr) (cdv ct : Value) (us : List Value), (us ++ ds).length = ps.length →
     ∃ k, bindArgs (W.fnOf x qual (defArgs st) (defBody st) (defScope st) (.ref dT) kV doc pm an cdv ct) ⟨us, []⟩ = seqItems? (.ref dT) >>= k ∧ k (some its) = pure (ps.zip (us ++ ds))) : Binds K fd ps ds := by
 obtain ⟨oc, od, dT, kV, doc, pm, an, cdv, ct, osl, rfl, lk, hcd, o, n, ho, hs⟩ := F.ex
 intro s us X hl
 obtain ⟨k, h1, h2⟩ := h dT kV doc pm an cdv ct us hl
 exact BindsTo.of_defaults rfl (X _ _ ho) hs h1 h2
theorem funD_mk {x qual : Str} {st : Stmt} {f dT : Addr} {oc dc : Value} {od an dod : Option Addr} {osl dsl : Array (Option Value)} {its : Array Value} {n : Nat} {kV doc pm cdv ct : Value} (l : K.lookup f = some ⟨oc, od, .func (W.fnOf x qual (defArgs st) (defBody st) (defScope st) (.ref dT) kV doc pm an cdv ct), osl⟩)
   (d : K.lookup dT = some ⟨dc, dod, .seq its n, dsl⟩) (c : W.codeIn K cdv qual = true) (k : W.keepIn K (.ref f) = true) : FunD K x qual st f (W.fnOf x qual (defArgs st) (defBody st) (defScope st) (.ref dT) kV doc pm an cdv ct) its := ⟨⟨oc, od, dT, kV, doc, pm, an, cdv, ct, osl, rfl, l, c, _, n, d, rfl⟩, k⟩
end
end L2
namespace L2
open PySem PySem.Spec PyProof.Rows
structure Src (prog : Program) (w : World) (it l : Addr) (J : Nat → Heap → Prop) (C : Array Value → Heap → Prop) : Prop where
 item : ∀ (A : Around) (E : Value → Shared → Prop) (s : Shared) (k : Nat) (xs : Array Value) (x : Value) (Q : Value → Shared → Prop), J k s.heap → C xs s.heap → xs[k]? = some x → (∀ h', J (k + 1) h' → Heap.SameBut it s.heap h' → Q x { s with heap := h' }) → wpAny (model prog w) A (Builtin.SmallTypes.nextOf (.ref it)) Q E s
 stop : ∀ (A : Around) (E : Value → Shared → Prop) (s : Shared) (k : Nat) (xs : Array Value) (Q : Value → Shared → Prop), A.handled = none → J k s.heap → C xs s.heap → xs[k]? = none → (∀ h' e, Heap.ExtBut it s.heap h' → (∃ o, h'.get? e = some o ∧ o.cls = .type "StopIteration") → E (.ref e) { s with heap := h' }) → wpAny (model prog w) A (Builtin.SmallTypes.nextOf (.ref it)) Q E s
 keep : ∀ k h h', J k h → (∀ o, h.get? it = some o → h'.get? it = some o) → J k h'
 seq : ∀ xs h h', C xs h → (∀ o, h.get? l = some o → h'.get? l = some o) → C xs h'
 obj : ∀ k h, J k h → ∃ o vs, h.get? it = some o ∧ o.data = .fields vs
end L2
namespace L2
open PySem PySem.Spec PyProof.Rows
def numIs : Int → Value → Bool
 | k, .int i _ => i == k
 | k, .bool b => (if b then (1 : Int) else 0) == k
 | _, _ => false
theorem numIs_shape {k : Int} {v : Value} (h : numIs k v = true) : (∃ t, v = .int k t) ∨ ∃ b : Bool, v = .bool b ∧ (if b then (1 : Int) else 0) = k := by
 cases v <;> simp_all [numIs]
section
variable {prog : Program} {w : World} {A : Around} {E : Value → Shared → Prop} {s : Shared}
theorem hash_bl {b : Bool} {Q : Int → Shared → Prop} (h : Q (hashInt (if b then 1 else 0)) { s with toks := s.toks + 1 }) : wpAny (model prog w) A (PySem.pyHash (.bool b)) Q E s := by
 have tI : s.TypeIs (.bool b) "bool" := rfl
 unfold PySem.pyHash
 refine wpAny_bind ?_
 rw [cRoomFor, if_neg (by rw [show [Value.bool b].any Value.onHeap = false from rfl]; exact Bool.false_ne_true)]
 refine wpAny_pure ?_
 refine wpAny_bind (wpAny_specialOf tI PySem.F.slot_bool_hash.lookup ?_)
 show wpAny _ _ (if (some (Value.builtin "int.__hash__") == some Value.none) = true then _ else _) Q E _
 rw [if_neg (by rw [beq_builtin_none]; exact Bool.false_ne_true)]
 refine wpAny_bind (wpAny_specialOf tI PySem.F.slot_bool_hash.lookup ?_)
 show wpAny _ _ (callSpecialIfBoundUnlessNone? (.bool b) "__hash__" _ >>= _) Q E _
 refine wpAny_bind (wpAny_callSpecialIfBoundUnlessNone?_slot tI PySem.F.slot_bool_hash (wpAny_call_entry PySem.F.slot_bool_hash tI entry_int_hash ?_ (args_int_hash _)))
 cases b
 · exact (show wpAny _ _ (do ret (← mkInt 0)) _ _ s from wpAny_ret_mkInt (by
     show wpAny _ _ (if (decide (-(2 : Int) ^ 63 ≤ 0) && decide ((0 : Int) < 2 ^ 63)) = true then _ else _) Q E _
     rw [if_pos (by decide)]
     exact wpAny_pure h))
 · exact (show wpAny _ _ (do ret (← mkInt 1)) _ _ s from wpAny_ret_mkInt (by
     show wpAny _ _ (if (decide (-(2 : Int) ^ 63 ≤ 1) && decide ((1 : Int) < 2 ^ 63)) = true then _ else _) Q E _
     rw [if_pos (by decide)]
     exact wpAny_pure h))
end
def numKind (prog : Program) (w : World) : PySem.KeyKind prog w Int where
 is := numIs
 hash := hashInt
 inj := fun v a b ha hb => by cases v <;> simp_all [numIs]
 byValue := fun k v h => by rcases numIs_shape h with ⟨t, rfl⟩ | ⟨b, rfl, _⟩ <;> rfl
 pyHash := fun hv h => by
   rcases numIs_shape hv with ⟨t, rfl⟩ | ⟨b, rfl, e⟩
   · exact wpAny_pyHash_int h
   · exact hash_bl (by rw [e]; exact h)
 eqBool := fun {A E s a b u v Q} hu hv h => by
   rcases numIs_shape hu with ⟨t, rfl⟩ | ⟨c, rfl, e⟩ <;> rcases numIs_shape hv with ⟨t', rfl⟩ | ⟨d, rfl, e'⟩
   · exact wpAny_eqBool_int h
   · refine SeqAt.EqAt.int_bool a t d prog w E Q ?_
     rw [e', show (a == b) = decide (a = b) from rfl]
     exact h
   · refine SeqAt.EqAt.bool_int c b t' prog w E Q ?_
     rw [e, show (a == b) = decide (a = b) from rfl]
     exact h
   · refine SeqAt.EqAt.bool_bool c d prog w E Q ?_
     have q : (c == d) = decide (a = b) := by subst e e'; cases c <;> cases d <;> rfl
     rw [q]
     exact h
 «strs» := fun k x t v h => by simp [numIs] at h
def nV : V → Option Int
 | .int i => some i
 | .bl b => some (if b then 1 else 0)
 | _ => none
theorem nV_is {P : Program} {w : World} {v : V} {u : Value} {k : Int} (e : nV v = some k) (r : RelV v u) : (numKind P w).is k u = true := by
 cases v with
 | int i => obtain ⟨t, rfl⟩ := (show ∃ t, u = Value.int i t from r); cases e; simp [numKind, numIs]
 | bl b => cases (show u = Value.bool b from r); cases e; simp [numKind, numIs]
 | _ => cases e
def Nums (xs : List V) (ns : List Int) : Prop := xs.map nV = ns.map some
theorem nums_are {P : Program} {w : World} : ∀ {xs : List V} {ns : List Int} {us : List Value}, Nums xs ns → Vals xs us → ItemsAre (numKind P w) ns us
 | [], [], _, _, .nil => .nil
 | [], _ :: _, _, h, _ => by simp [Nums] at h
 | _ :: _, [], _, h, _ => by simp [Nums] at h
 | x :: xs, n :: ns, _, h, .cons r t => by
   have h' : nV x = some n ∧ xs.map nV = ns.map some := by simpa [Nums] using h
   exact .cons (nV_is h'.1 r) (nums_are (xs := xs) h'.2 t)
end L2
namespace L2
open PySem PySem.Spec PyProof.Rows
abbrev KTu := List Int
def TKy (H : Hp) (k : KTu) (b : Addr) : Prop := ∃ vs, H b = some (.tup vs) ∧ Nums vs k
abbrev TRel : KTu × Addr × V → KTu × Addr × Value → Prop := fun p q => p.1 = q.1 ∧ p.2.1 = q.2.1 ∧ RelV p.2.2 q.2.2
def TOk (P : Program) (w : World) (xs : List (KTu × Addr × V)) (o : Obj) : Prop := xs.length ≤ sizeLine ∧ o.ExactDict ∧ ∃ us es ep, Paired TRel xs us ∧ o.data = .dict es ep ∧ es.toList = us.map (entryOfKey (tupleKind (numKind P w))) ∧ (us.map (·.1)).Nodup
def TD (P : Program) (w : World) (a : Addr) (xs : List (KTu × Addr × V)) (o : Obj) : HO := .ext fun h => h.get? a = some o ∧ (a == sysModules) = false ∧ TOk P w xs o
def TKs (H : Hp) (xs : List (KTu × Addr × V)) : Prop := ∀ x ∈ xs, TKy H x.1 x.2.1
theorem tk_is {P : Program} {w : World} {H : Hp} {h : Heap} {k : KTu} {b : Addr} (ok : HOk P w H h) (e : TKy H k b) : IsTupleKey (numKind P w) h k b := by
 obtain ⟨vs, h3, h4⟩ := e
 obtain ⟨_, jts, r', o', f1, f2, m, f3⟩ := (show ObjOk P w H h b (.tup vs) from ok b _ h3)
 exact ⟨o', jts.toArray, m, f1, f2, f3, by simpa using nums_are h4 r'⟩
section
variable {X : Cx} {pins : List (Addr × Obj)} {σ : St} {H : Hp} {s : Shared} {a : Addr} {xs : List (KTu × Addr × V)} {o : Obj}
theorem td_at (I : Inv X pins σ H s) (e : H a = some (TD X.prog X.w a xs o)) : s.heap.get? a = some o ∧ (a == sysModules) = false ∧ TOk X.prog X.w xs o :=
 (show ObjOk X.prog X.w H s.heap a (TD X.prog X.w a xs o) from I.hok _ _ e).1
theorem td_of (I : Inv X pins σ H s) (e : H a = some (TD X.prog X.w a xs o)) (hk : TKs H xs) : xs.length ≤ sizeLine ∧ (a == sysModules) = false ∧ ∃ us, Paired TRel xs us ∧ s.heap.DictOfH (tupleKind (numKind X.prog X.w)) a us := by
 obtain ⟨g1, hd, z, g2, us, es, ep, r, g3, g4, g5⟩ := td_at I e
 refine ⟨z, hd, us, r, o, es, ep, g1, g2, g3, g4, ?_, g5⟩
 clear g4 g5 z e
 induction r with
 | nil => intro x hx; cases hx
 | @cons p q ps qs h t ih =>
   intro x hx
   rcases List.mem_cons.mp hx with rfl | hx
   · have := tk_is I.hok (hk p List.mem_cons_self)
     rw [h.1, h.2.1] at this
     exact this
   · exact ih (fun y hy => hk y (List.mem_cons_of_mem _ hy)) x hx
theorem td_new {P : Program} {w : World} {h : Heap} {us : List (KTu × Addr × Value)} (z : xs.length ≤ sizeLine) (hd : (a == sysModules) = false) (r : Paired TRel xs us) (dd : h.DictOfH (tupleKind (numKind P w)) a us) : ∃ o, ∀ H, ObjOk P w H h a (TD P w a xs o) := by
 obtain ⟨o, es, ep, g1, g2, g3, g4, _, g5⟩ := dd
 exact ⟨o, fun H => ⟨⟨g1, hd, z, g2, us, es, ep, r, g3, g4, g5⟩, ⟨o, g1⟩, fun h1 h2 ⟨e, m⟩ k => ⟨k o e, m⟩⟩⟩
def tTNew (P : Program) (w : World) : TE := fun _ H Q => ∀ p o, H p = none → Q (.ref p) (upd H p (TD P w p [] o))
theorem pe_tnew {pos : Pos} : PE X (.Dict [] [] pos) (tTNew X.prog X.w) := fun pins s σ H Q I h => by
 obtain ⟨o, ho⟩ := td_new (P := X.prog) (w := X.w) (xs := []) (Nat.zero_le _) (beq_eq_false_iff_ne.mpr (Ne.symm (Nat.ne_of_lt I.big))) .nil (Heap.DictOfH.new s.heap)
 exact wpAny_Dict_empty ⟨.ref s.heap.objs.size, _, I.laid (a := s.heap.objs.size) (o := TD X.prog X.w s.heap.objs.size [] o) (t' := s.toks) (fun _ _ q => Heap.get?_push_of_some _ q) (Nat.le_refl _) (ho _), rfl, h _ _ (I.hok.fresh (Nat.le_refl _))⟩
theorem trel_none {xs : List (KTu × Addr × V)} {us : List (KTu × Addr × Value)} (r : Paired TRel xs us) {k : KTu} (h : ∀ x ∈ xs, x.1 ≠ k) : atKey us k = none := by
 induction r with
 | nil => rfl
 | @cons p q ps qs h' t ih =>
   have e : ¬ q.1 = k := fun z => h p List.mem_cons_self (h'.1.trans z)
   have := ih fun x hx => h x (List.mem_cons_of_mem _ hx)
   simpa [atKey, List.find?_cons, e] using this
def sTPut (P : Program) (w : World) (td ty tv : TE) : TS := fun D σ H => tv σ H fun v H1 => td σ H1 fun x H2 => ty σ H2 fun y H3 => ∃ a xs o b k, x = .ref a ∧ H3 a = some (TD P w a xs o) ∧ TKs H3 xs ∧ y = .ref b ∧ TKy H3 k b ∧ xs.length < sizeLine ∧ (∀ x ∈ xs, x.1 ≠ k) ∧
 ∀ o', D.nx σ (upd H3 a (TD P w a (xs ++ [(k, b, v)]) o'))
theorem ps_tput {o i value : Expr} {pos pos' : Pos} {td ty tv : TE} (hu : X.A.units + 1 < cLine) (ho : PE X o td) (hi : PE X i ty) (hv : PE X value tv) (hs : swapsWith value (some (.Subscript o i pos')) pos.line X.env = pure false) :
   PS X (.Assign [.Subscript o i pos'] value pos) (sTPut X.prog X.w td ty tv) := by
 intro pins s σ H D I h
 refine wpAny_Assign_Subscript (thn (hv pins s σ H _ I h) fun r s1 ⟨v, H1, I1, rv, q1⟩ => thn (ho pins s1 σ H1 _ I1 q1) fun u s2 ⟨x, H2, I2, rx, q2⟩ => thn (hi pins s2 σ H2 _ I2 q2) fun iv s3 ⟨y, H3, I3, ry, a, xs, ob, b, k, ex, e, hk, ey, kb, l, hno, q3⟩ => ?_) hs
 subst ex ey
 obtain rfl : u = Value.ref a := rx
 obtain rfl : iv = Value.ref b := ry
 obtain ⟨z, hd, us, rel, dd⟩ := td_of I3 e hk
 refine wpAny_setItem_heap (hsz := by rw [← Paired.length rel]; exact z) (by show X.A.units + 1 < cLine; exact hu) (tk_is I3.hok kb) dd fun h' dd' hs' => ?_
 rw [storedH_new (trel_none rel hno)] at dd'
 obtain ⟨o', ho'⟩ := td_new (P := X.prog) (w := X.w) (xs := xs ++ [(k, b, v)]) (by rw [List.length_append]; exact l) hd (Paired.snoc rel ⟨rfl, rfl, rv⟩) dd'
 have he : ∃ q, h'.get? a = some q := let ⟨q, _, _, hq, _⟩ := dd'; ⟨q, hq⟩
 exact ⟨σ, _, d_write I3 (by rw [e]; exact True.intro) hs' he (ho' _), q3 o'⟩
end
end L2
namespace HT
open PySem PySem.Spec PyProof.Rows L2
section
open PySem.SeqAt
open PySem.AutoSeq1 (wpAny_loadPart')
open PySem.MeetsSeq PySem.MeetsSeq2 PySem.MeetsSeq3
def llLt : List (List Int) → List (List Int) → Bool
 | [], [] => false
 | [], _ :: _ => true
 | _ :: _, [] => false
 | a :: xs, b :: ys => if a = b then llLt xs ys else lexLt a b
theorem llLt_cons (a b : List Int) (xs ys : List (List Int)) : llLt (a :: xs) (b :: ys) = if a = b then llLt xs ys else lexLt a b := rfl
def LtPre (A : Around) (s : Shared) (us ws : List Value) (ns ms : List (List Int)) : Prop := us.length = ns.length ∧ ws.length = ms.length ∧ ∀ (i : Nat) (x y : Value) (a c : List Int), us[i]? = some x → ws[i]? = some y → ns[i]? = some a → ms[i]? = some c →
 EqAt A.in1 s x y (decide (a = c)) ∧ ∀ (prog : Program) (w : World) (E : Value → Shared → Prop) (Q : Value → Shared → Prop), Q (.bool (lexLt a c)) s → wpAny (model prog w) A.in1 (richCompare .Lt x y) Q E s
theorem ltl_loop (l b : Addr) (items items2 : Array Value) (n n2 : Nat) (dd dd2 : Option Addr) (sl sl2 : Array (Option Value)) (ns ms : List (List Int)) (k : Nat) :
   ∀ i : Nat, items.size - i = k → Meets (Builtin.«list.__eq__.loop» ⟨[.ref l, .ref b, rawInt i, rawInt 0], []⟩)
     (fun A R s => s.heap.get? l = some { cls := .type "list", dict := dd, data := .seq items n, slots := sl } ∧ s.heap.get? b = some { cls := .type "list", dict := dd2, data := .seq items2 n2, slots := sl2 } ∧ LtPre A s items.toList items2.toList ns ms ∧ i ≤ items.size ∧ i ≤ items2.size ∧
       R (.ok (.ret (.bool (llLt (ns.drop i) (ms.drop i))))) s) := by
 have stop : ∀ i : Nat, items.size = ns.length → items2.size = ms.length → (i = items.size ∨ i = items2.size) → i ≤ items.size → i ≤ items2.size → llLt (ns.drop i) (ms.drop i) = decide (items.size < items2.size) := by
   intro i z1 z2 h h1 h2
   by_cases e1 : i = items.size
   · have d1 : ns.drop i = [] := List.drop_eq_nil_of_le (by omega)
     rw [d1]
     by_cases e2 : i = items2.size
     · have d2 : ms.drop i = [] := List.drop_eq_nil_of_le (by omega)
       rw [d2]
       exact (decide_eq_false (by omega)).symm
     · have : i < ms.length := by omega
       rw [List.drop_eq_getElem_cons this]
       exact (decide_eq_true (by omega)).symm
   · have e2 : i = items2.size := h.resolve_left e1
     have d2 : ms.drop i = [] := List.drop_eq_nil_of_le (by omega)
     have : i < ns.length := by omega
     rw [d2, List.drop_eq_getElem_cons this]
     exact (decide_eq_false (by omega)).symm
 induction k with
 | zero =>
   intro i hk prog w A R s h
   obtain ⟨hp, g, d, tk, os⟩ := s; obtain ⟨hl, hb, hP, hle, hle2, h⟩ := h
   have z1 : items.size = ns.length := by rw [← hP.1]; simp
   have z2 : items2.size = ms.length := by rw [← hP.2.1]; simp
   wp_walk using wpAny_loadPart' hl, wpAny_loadPart' hb
   have hi1 : items[((i : Nat) : Int).toNat]? = none := by simp; omega
   rw [hi1]
   rw [stop i z1 z2 (.inl (by omega)) hle hle2] at h
   wp_walk using wpAny_loadPart' hl, wpAny_loadPart' hb
   exact h
 | succ k ih =>
   intro i hk prog w A R s h
   obtain ⟨hp, g, d, tk, os⟩ := s; obtain ⟨hl, hb, hP, hle, hle2, h⟩ := h
   have z1 : items.size = ns.length := by rw [← hP.1]; simp
   have z2 : items2.size = ms.length := by rw [← hP.2.1]; simp
   wp_walk using wpAny_loadPart' hl, wpAny_loadPart' hb
   have hlt : i < items.size := by omega
   by_cases hlt2 : i < items2.size
   · have ha : i < ns.length := by omega
     have hc' : i < ms.length := by omega
     have hi1 : items[((i : Nat) : Int).toNat]? = some items[i] := by simp [hlt]
     have hi2 : items2[((i : Nat) : Int).toNat]? = some items2[i] := by simp [hlt2]
     have hc : ((i : Int) + 1) = ((i + 1 : Nat) : Int) := by push_cast; rfl
     rw [List.drop_eq_getElem_cons ha, List.drop_eq_getElem_cons hc', llLt_cons] at h
     obtain ⟨he, hri⟩ := hP.2.2 i items[i] items2[i] ns[i] ms[i] (by simp [hlt]) (by simp [hlt2]) (by simp [ha]) (by simp [hc'])
     rw [hi1, hi2]
     refine wpAny_bind (he prog w _ _ ?_)
     by_cases ee : ns[i] = ms[i]
     · rw [decide_eq_true ee]
       rw [if_pos ee] at h
       wp_walk
       rw [hc]
       exact ⟨plainId_quiet plain_eq_loop _, codeAny_builtin entry_eq_loop (by
         rw [Around.under_plainId plain_eq_loop _]
         exact ih (i + 1) (by omega) prog w A R _ ⟨hl, hb, hP, hlt, hlt2, h⟩)⟩
     · rw [decide_eq_false ee]
       rw [if_neg ee] at h
       have hri' := hri prog w
       wp_walk using wpAny_loadPart' hl, wpAny_loadPart' hb
       rw [hi1, hi2]
       wp_walk using hri'
       exact h
   · have hi2 : items2[((i : Nat) : Int).toNat]? = none := by simp; omega
     rw [hi2]
     rw [stop i z1 z2 (.inr (by omega)) hle hle2] at h
     have hi1 : items[((i : Nat) : Int).toNat]? = some items[i] := by simp [hlt]
     rw [hi1]
     wp_walk using wpAny_loadPart' hl, wpAny_loadPart' hb
     exact h
theorem list_lt_lists (l b : Addr) (items items2 : Array Value) (n n2 : Nat) (dd dd2 : Option Addr) (sl sl2 : Array (Option Value)) (ns ms : List (List Int)) :
   Meets (Builtin.«list.__lt__» ⟨[.ref l, .ref b], []⟩)
     (fun A R s => s.heap.get? l = some { cls := .type "list", dict := dd, data := .seq items n, slots := sl } ∧ s.heap.get? b = some { cls := .type "list", dict := dd2, data := .seq items2 n2, slots := sl2 } ∧ LtPre A s items.toList items2.toList ns ms ∧
       R (.ok (.ret (.bool (llLt ns ms)))) s) := by
 intro prog w A R s h
 obtain ⟨hp, g, d, tk, os⟩ := s; obtain ⟨hl, hb, hP, h⟩ := h
 have f3 := AutoSeq1.sub_list_list
 wp_walk using wpAny_loadPart' hl, wpAny_loadPart' hb
 exact ⟨plainId_quiet plain_eq_loop _, codeAny_builtin entry_eq_loop (by
   rw [Around.under_plainId plain_eq_loop _]
   exact ltl_loop l b items items2 n n2 dd dd2 sl sl2 ns ms _ 0 rfl prog w A R _ ⟨hl, hb, hP, Nat.zero_le _, Nat.zero_le _, by simpa using h⟩)⟩
end
end HT
namespace L2
open PySem PySem.Spec PyProof.Rows
def TupsAt (H : Hp) (ts : List Addr) (ns : List (List Int)) : Prop := ts.length = ns.length ∧ ∀ (i : Nat) (n : List Int), ns[i]? = some n → ∃ t, ts[i]? = some t ∧ H t = some (.tup (n.map V.int))
theorem TupsAt.tsame {H H' : Hp} {ts : List Addr} {ns : List (List Int)} (h : TupsAt H ts ns) (s : TSame H H') : TupsAt H' ts ns := ⟨h.1, fun i n e => by
 obtain ⟨t, h1, h2⟩ := h.2 i n e
 exact ⟨t, h1, s _ _ h2⟩⟩
theorem dints_at {K : W.Frag} {H : Hp} : ∀ ns : List Int, DsAt K H (ns.map V.int) (ns.map PyData.int)
 | [] => .nil
 | n :: ns => .cons (.int n) (dints_at ns)
theorem dints_lay : ∀ ns : List Int, PyData.canLayAll0 (ns.map PyData.int) = true
 | [] => rfl
 | n :: ns => by
   rw [List.map_cons, PyData.canLayAll0, dints_lay ns]
   rfl
theorem dints_depth : ∀ ns : List Int, PyData.depthAll (ns.map PyData.int) = 0
 | [] => rfl
 | n :: ns => by
   rw [List.map_cons, PyData.depthAll, dints_depth ns]
   rfl
theorem eqvs_ints : ∀ a c : List Int, PyData.eqvAll (a.map PyData.int) (c.map PyData.int) = decide (a = c)
 | [], [] => by simp [PyData.eqvAll]
 | [], _ :: _ => by simp [PyData.eqvAll]
 | _ :: _, [] => by simp [PyData.eqvAll]
 | x :: a, y :: c => by
   rw [List.map_cons, List.map_cons, PyData.eqvAll, eqvs_ints a c]
   show ((x == y) && _) = _
   by_cases e : x = y
   · subst e
     simp
   · simp [e]
section
variable {X : Cx}
def rLtLL (K : W.Frag) : R2 := fun x y H Q => ∃ a b ts us ns ms, x = .ref a ∧ y = .ref b ∧ SqL K H a (ts.map V.ref) ∧ SqL K H b (us.map V.ref) ∧ TupsAt H ts ns ∧ TupsAt H us ms ∧ Q (.bl (HT.llLt ns ms)) H
theorem refs_at {ts : List Addr} : ∀ {us : List Value} {i : Nat} {x : Value}, Vals (ts.map V.ref) us → us[i]? = some x → ∃ t, ts[i]? = some t ∧ x = .ref t := by
 induction ts with
 | nil => intro us i x r h; cases r; simp at h
 | cons t ts ih =>
   intro us i x r h
   cases r with
   | cons r1 r2 =>
     cases i with
     | zero =>
       cases h
       exact ⟨t, rfl, r1⟩
     | succ i =>
       obtain ⟨t', h1, h2⟩ := ih r2 (by simpa using h)
       exact ⟨t', by simpa using h1, h2⟩
theorem op_ltLL (hu : X.A.units + 64 < cLine) : OpR X (compareOp .Lt) (rLtLL X.K) := by
 intro pins s σ H x y v u Q I rx ry h
 obtain ⟨a, b, ts, ys, ns, ms, rfl, rfl, ha, hb, hT, hU, q⟩ := h
 cases rx
 cases ry
 obtain ⟨us, ru, pu, _⟩ := I.list ha
 obtain ⟨ws, rw', pw, _⟩ := I.list hb
 obtain ⟨⟨cls, dd, data, sl⟩, n, ho, hc, hn, hd⟩ := id pu
 obtain ⟨⟨cls2, dd2, data2, sl2⟩, n2, ho2, hc2, hn2, hd2⟩ := id pw
 have l1 := ru.length
 have l2 := rw'.length
 rw [List.length_map] at l1 l2
 simp only at hc hd hc2 hd2
 subst hc hd hc2 hd2
 have hP : ∀ A : Around, A.units < X.A.units + 3 → HT.LtPre A s us.toArray.toList ws.toArray.toList ns ms := by
   intro A hA
   refine ⟨by simp; rw [← l1, hT.1], by simp; rw [← l2, hU.1], fun i x y p c hx hy hp hcc => ?_⟩
   obtain ⟨t, e1, rfl⟩ := refs_at ru (by simpa using hx)
   obtain ⟨z, e2, rfl⟩ := refs_at rw' (by simpa using hy)
   obtain ⟨t', f1, f2⟩ := hT.2 i p hp
   obtain ⟨z', g1, g2⟩ := hU.2 i c hcc
   rw [e1] at f1
   cases f1
   rw [e2] at g1
   cases g1
   obtain ⟨as, r1⟩ := (DAt.tup (SqT.of f2) (dints_at p) : DAt X.K H (.ref t) _).reads I (u := .ref t) rfl
   obtain ⟨bs, r2⟩ := (DAt.tup (SqT.of g2) (dints_at c) : DAt X.K H (.ref z) _).reads I (u := .ref z) rfl
   have hA1 : A.in1.units < X.A.units + 4 := by
     show A.units + 1 < _
     omega
   constructor
   · have he := SeqAt.eqAt_reads _ _ A.in1 s _ _ _ _ r1 r2 (dints_lay p) (dints_lay c) (by
       rw [PyData.depth, PyData.depth, dints_depth, dints_depth]
       have : min (0 + 1) (0 + 1) = 1 := rfl
       omega)
     have ee : PyData.eqv (.tuple (p.map PyData.int)) (.tuple (c.map PyData.int)) = decide (p = c) := by
       show PyData.eqvAll _ _ = _
       exact eqvs_ints p c
     rw [ee] at he
     exact he
   · intro prog w E Q' hq
     obtain ⟨its, rv, p1, _⟩ := I.tuple (SqT.of f2)
     obtain ⟨jts, rv2, p2, _⟩ := I.tuple (SqT.of g2)
     exact (HT.lt_tupInts p1 p2 (by simpa using intsAre_of rv) (by simpa using intsAre_of rv2) (by omega) hq : wpAny (model prog w) A.in1 (compareOp .Lt (.ref t) (.ref z)) Q' E s)
 refine richCompare_meets_room (op := .Lt) ⟨_, ho, rfl⟩ ⟨_, ho2, rfl⟩ PySem.F.slot_list_lt PySem.F.entry_list_lt (PySem.F.args_list_lt_2 _ _) (HT.list_lt_lists a b us.toArray ws.toArray n n2 dd dd2 sl sl2 ns ms)
   ⟨ho, ho2, hP _ ?_, (fun x => nomatch x), .bl (HT.llLt ns ms), H, I, rfl, q⟩ (by omega)
 show _ < _
 first | omega | (simp; omega) | skip
def tTNotIn (P : Program) (w : World) (ty td : TE) : TE := fun σ H Q => ty σ H fun y H1 => td σ H1 fun x H2 => ∃ a xs o b k, x = .ref a ∧ H2 a = some (TD P w a xs o) ∧ TKs H2 xs ∧ y = .ref b ∧ TKy H2 k b ∧ Q (.bl (!(xs.any fun x => decide (x.1 = k)))) H2
theorem trel_some {xs : List (KTu × Addr × V)} {us : List (KTu × Addr × Value)} (r : Paired TRel xs us) (k : KTu) : (atKey us k).isSome = xs.any fun x => decide (x.1 = k) := by
 induction r with
 | nil => rfl
 | @cons p q ps qs h' t ih =>
   rw [List.any_cons, ← ih, h'.1]
   by_cases e : q.1 = k
   · simp [atKey, List.find?_cons, e]
   · simp [atKey, List.find?_cons, e]
theorem pc_tnotin {i o : Expr} {ty td : TE} (hu : X.A.units + 1 < cLine) (hi : PE X i ty) (ho : PE X o td) : PC X .NotIn i o (tTNotIn X.prog X.w ty td) := by
 intro pins s σ H Q I h
 refine thn (hi pins s σ H _ I h) fun iv s1 ⟨y, H1, I1, ry, q1⟩ => thn (ho pins s1 σ H1 _ I1 q1) fun u s2 ⟨x, H2, I2, rx, a, xs, ob, b, k, ex, g, hk, ey, kb, q2⟩ => ?_
 subst ex ey
 obtain rfl : u = Value.ref a := rx
 obtain rfl : iv = Value.ref b := ry
 obtain ⟨z, hd, us, rel, dd⟩ := td_of I2 g hk
 refine wpAny_notIn_heap (by show X.A.units + 1 < cLine; exact hu) (tk_is I2.hok kb) hd dd ?_
 rw [trel_some rel k]
 exact ⟨.bl _, H2, I2.tok _, rfl, q2⟩
end
end L2
namespace SL
open PySem L2
theorem iteTK {c : Bool} {A B : Prop} (h : c = true) (a : A) : if c = true then A else B := by
 rw [if_pos h]
 exact a
theorem iteFK {c : Bool} {A B : Prop} (h : c = false) (b : B) : if c = true then A else B := by
 rw [h]
 exact iteF b
theorem len_sm {n : Nat} {z : Str} (h : Tx n z) (hn : n ≤ 1000) : z.length ≤ sizeLine := Nat.le_of_lt (small1000 (Nat.le_trans h.1 hn))
theorem cps_len (z : Str) : z.cps.toList.length = z.length := by
 rw [Array.length_toList]
 rfl
theorem at0 {z : Str} (h : 1 ≤ z.length) : atI z.cps.toList 0 = some (hd z) := by
 have e := cps_len z
 unfold hd
 cases g : z.cps.toList with
 | nil =>
   rw [g] at e
   have : z.length = 0 := e.symm
   omega
 | cons c r =>
   exact atI_nat (j := 0) rfl
structure TS (mg : Str → Option Value) : Prop where
 len : mg "len" = none
 all : mg "all" = none
 fig : ∃ u, mg "FIGURES" = some u ∧ RelV (.str FIG) u
 sma : ∃ u, mg "SMALL_LETTERS" = some u ∧ RelV (.str SMA) u
 nam : ∃ u, mg "NAME_SIGNS" = some u ∧ RelV (.str NAM) u
 mar : ∃ u, mg "MARK_SIGNS" = some u ∧ RelV (.str MAR) u
 mf : ∃ u, mg "MOST_FIGURES" = some u ∧ RelV (.int 9) u
 ms : ∃ u, mg "MOST_SIGNS" = some u ∧ RelV (.int 12) u
 mi : ∃ u, mg "MOST_ITEMS" = some u ∧ RelV (.int 4) u
def spMo : Sp := fun vs H Q _ => ∃ (S z : Str), vs = [.str S, .str z] ∧ Tx 1000 z ∧ ∀ H', Same H H' → Q (.bl (madeM S z)) H'
def spTk (p : Str → Bool) : Sp := fun vs H Q _ => ∃ (v : V) (z : Str), vs = [v, .str z] ∧ Tx 1000 z ∧ ∀ H', Same H H' → Q (.bl (p z)) H'
def spWo (x : Str) : Sp := fun vs H Q _ => ∃ v : V, vs = [v] ∧ Q (.str x) H
def spIi : Sp := fun vs H Q _ => ∃ z : Str, vs = [.str z] ∧ Tx 1000 z ∧ ∀ H', Same H H' → Q (.bl (isItem z)) H'
section
variable {P : Program} {w : World} {K : W.Frag} {mg : Str → Option Value} {base : Heap}
theorem scMo : FnScope ["signs", "text"] ["signs", "text"] (defScope sMo) := .of (by decide +kernel)
def scopeM : Scope := ⟨.function, [(".0", .local), ("sign", .local), ("signs", .free)], false, false, []⟩
theorem scM : BlkScope (defScope sMo) ["signs", "text"] ["sign"] ["signs"] [0] scopeM := .of (by decide +kernel)
theorem ok_mo {f : Addr} {fd : FuncData} (F : Fun K "made_of" "made_of" sMo f fd) (T : TS mg) : FnOk P w K mg base CX0 1 f fd ["signs", "text"] spMo := by
 refine F.ok scMo (fun vs H Q E h => ?_) (fun cdv A outer s H vs Q E hr h => ?_)
 · obtain ⟨S, z, rfl, _⟩ := h
   rfl
 · obtain ⟨S, z, rfl, tz, k⟩ := h
   refine ⟨_, pss_one (ps_ret (pe_callB (call_allB rfl) (by rfl) T.all boot_all (pa_cons (pe_lc scM rfl rfl rfl (pi_str (pv 1)) (fun fp C s1 H1 => pg_name (i := 0) scM.nd rfl (Or.inl rfl)) (fun fp C s1 H1 => pts_nil)
     (fun fp C s1 H1 => pe_cmpR op_in_str (pv 0) (pv 1) (by with_unfolding_all rfl))) pa_nil))), ?_⟩
   refine ⟨_, rfl, z, 1000, rfl, tz, fun D hD => ?_⟩
   refine lc_str (z := z) (fun i ys H2 => ys = ((z.cps.toList.take i).map (hasC S)).map V.bl ∧ Same H H2 ∧ H2 D = some (.lst ys)) (len_sm tz (by decide)) ⟨rfl, (Same.refl H).upd_free hD, upd_same⟩
     (fun i ys H2 h => by rw [h.1, List.length_map, List.length_map, List.length_take]; exact Nat.min_le_left _ _) ?_ ?_
   · rintro i ys H2 c N M hc ⟨rfl, s2, hD2⟩ hN hM
     refine ⟨_, rfl, _, rfl, _, _, rfl, rfl, ?_⟩
     rw [StrLaws.found_one]
     refine hN _ H2 hD2 ⟨?_, s2.upd_free hD, upd_same⟩
     have hc' : z.cps.toList[i]? = some c := by simpa using hc
     rw [List.take_add_one, hc', List.map_append, List.map_append]
     rfl
   · rintro ys H2 ⟨rfl, s2, hD2⟩
     refine ⟨D, _, rfl, SqL.of hD2, ?_⟩
     rw [← cps_len, List.take_length, List.all_map]
     exact k H2 s2
theorem scNt : FnScope ["self", "text"] ["self", "text"] (defScope sNt) := .of (by decide +kernel)
theorem ok_nt {f fM : Addr} {fd fdM : FuncData} (F : Fun K "takes" "Number.takes" sNt f fd) (T : TS mg) (FM : Fun K "made_of" "made_of" sMo fM fdM) (bM : Binds K fdM ["signs", "text"] []) (gM : mg "made_of" = some (.ref fM)) : FnOk P w K mg base CX0 2 f fd ["self", "text"] (spTk isNum) := by
 have GM : FnOk P w K mg base CX0 1 fM fdM ["signs", "text"] spMo := ok_mo FM T
 refine F.ok scNt (fun vs H Q E h => ?_) (fun cdv A outer s H vs Q E hr h => ?_)
 · obtain ⟨v, z, rfl, _⟩ := h
   rfl
 · obtain ⟨v, z, rfl, tz, k⟩ := h
   obtain ⟨u1, g1, r1⟩ := T.mf
   obtain ⟨u2, g2, r2⟩ := T.fig
   refine ⟨_, pss_cons (ps_if (pt_not (pt_chain op_le op_le pe_int (pe_callB call_len_str (by rfl) T.len PySem.boot_len (pa_cons (pv 1) pa_nil)) (pe_glob (v := .int 9) (by rfl) g1 r1))) (pss_one (ps_ret pe_bl)) pss_nil)
     (pss_one (ps_ret (pe_and (pe_call GM hr rfl gM FM.kp bM .nil pass0 (pa_cons (pe_glob (v := .str FIG) (by rfl) g2 r2) (pa_cons (pv 1) pa_nil))) (pe_one (pe_or (pe_cmpR op_eq (pv 1) pe_str (nomark _)) (pe_one (pe_cmpR op_ne (pe_ix ix_str (pv 1) pe_int (fun _ _ => rfl)) pe_str (nomark _)))))))), ?_⟩
   refine ⟨_, rfl, z, rfl, len_sm tz (by decide), _, _, rfl, rfl, _, rfl, ?_⟩
   have out : ∀ c : Bool, c = false → isNum z = c → Q (.bl false) H := fun c hc e => by
     have q := k H (Same.refl H)
     rw [e, hc] at q
     exact q
   by_cases h1 : 1 ≤ z.length
   · refine iteTK (decide_eq_true (by omega)) ?_
     refine ⟨_, _, rfl, rfl, _, rfl, ?_⟩
     by_cases h2 : z.length ≤ 9
     · refine iteFK (by rw [decide_eq_true (by omega)]; rfl) ?_
       refine ⟨_, rfl, FIG, z, rfl, tz, fun H1 s1 => ⟨_, rfl, ?_⟩⟩
       have ek : isNum z = (madeM FIG z && (decide (z = Str.ofString "0") || !decide ((⟨#[hd z]⟩ : Str) = Str.ofString "0"))) := by
         unfold isNum
         rw [decide_eq_true ⟨h1, h2⟩, Bool.true_and]
       have q := k H1 s1
       rw [ek] at q
       cases hm : madeM FIG z with
       | false =>
         rw [hm] at q
         exact iteF q
       | true =>
         rw [hm, Bool.true_and] at q
         refine iteT ⟨_, rfl, rfl, _, rfl, ?_⟩
         by_cases hz : z = Str.ofString "0"
         · rw [decide_eq_true hz, Bool.true_or] at q
           exact iteTK (decide_eq_true (by rw [hz])) q
         · rw [decide_eq_false hz, Bool.false_or] at q
           refine iteFK (decide_eq_false (fun y => hz (by injection y))) ?_
           refine ⟨_, rfl, _, _, hd z, rfl, rfl, len_sm tz (by decide), at0 h1, rfl, ?_⟩
           have e2 : decide (V.str (⟨#[hd z]⟩ : Str) = V.str (Str.ofString "0")) = decide ((⟨#[hd z]⟩ : Str) = Str.ofString "0") := decide_eq_decide.mpr ⟨fun y => by injection y, fun y => by rw [y]⟩
           rw [e2]
           exact q
     · refine iteTK (by rw [decide_eq_false (by omega)]; rfl) ?_
       refine out _ rfl ?_
       unfold isNum
       rw [decide_eq_false (fun y => h2 y.2)]
       rfl
   · refine iteFK (decide_eq_false (by omega)) ⟨_, rfl, iteT ?_⟩
     refine out _ rfl ?_
     unfold isNum
     rw [decide_eq_false (fun y => h1 y.1)]
     rfl
theorem scAt : FnScope ["self", "text"] ["self", "text"] (defScope sAt) := .of (by decide +kernel)
theorem ok_at {f fM : Addr} {fd fdM : FuncData} (F : Fun K "takes" "Name.takes" sAt f fd) (T : TS mg) (FM : Fun K "made_of" "made_of" sMo fM fdM) (bM : Binds K fdM ["signs", "text"] []) (gM : mg "made_of" = some (.ref fM)) : FnOk P w K mg base CX0 2 f fd ["self", "text"] (spTk isName) := by
 have GM : FnOk P w K mg base CX0 1 fM fdM ["signs", "text"] spMo := ok_mo FM T
 refine F.ok scAt (fun vs H Q E h => ?_) (fun cdv A outer s H vs Q E hr h => ?_)
 · obtain ⟨v, z, rfl, _⟩ := h
   rfl
 · obtain ⟨v, z, rfl, tz, k⟩ := h
   obtain ⟨u1, g1, r1⟩ := T.ms
   obtain ⟨u2, g2, r2⟩ := T.sma
   obtain ⟨u3, g3, r3⟩ := T.nam
   refine ⟨_, pss_cons (ps_if (pt_not (pt_chain op_le op_le pe_int (pe_callB call_len_str (by rfl) T.len PySem.boot_len (pa_cons (pv 1) pa_nil)) (pe_glob (v := .int 12) (by rfl) g1 r1))) (pss_one (ps_ret pe_bl)) pss_nil)
     (pss_one (ps_ret (pe_and (pe_cmpR op_in_str (pe_ix ix_str (pv 1) pe_int (fun _ _ => rfl)) (pe_glob (v := .str SMA) (by rfl) g2 r2) (by with_unfolding_all rfl)) (pe_one (pe_call GM hr rfl gM FM.kp bM .nil pass0 (pa_cons (pe_glob (v := .str NAM) (by rfl) g3 r3) (pa_cons (pv 1) pa_nil))))))), ?_⟩
   refine ⟨_, rfl, z, rfl, len_sm tz (by decide), _, _, rfl, rfl, _, rfl, ?_⟩
   have out : ∀ c : Bool, c = false → isName z = c → Q (.bl false) H := fun c hc e => by
     have q := k H (Same.refl H)
     rw [e, hc] at q
     exact q
   by_cases h1 : 1 ≤ z.length
   · refine iteTK (decide_eq_true (by omega)) ?_
     refine ⟨_, _, rfl, rfl, _, rfl, ?_⟩
     by_cases h2 : z.length ≤ 12
     · refine iteFK (by rw [decide_eq_true (by omega)]; rfl) ?_
       refine ⟨_, rfl, _, _, hd z, rfl, rfl, len_sm tz (by decide), at0 h1, _, _, rfl, rfl, ?_⟩
       rw [StrLaws.found_one]
       have ek : isName z = (hasC SMA (hd z) && madeM NAM z) := by
         unfold isName
         rw [decide_eq_true ⟨h1, h2⟩, Bool.true_and]
       have e1 : decide (hd z ∈ SMA.cps.toList) = hasC SMA (hd z) := rfl
       rw [e1]
       refine ⟨_, rfl, ?_⟩
       cases hm : hasC SMA (hd z) with
       | false =>
         have q := k H (Same.refl H)
         rw [ek, hm] at q
         exact iteF q
       | true =>
         refine iteT ⟨_, rfl, NAM, z, rfl, tz, fun H1 s1 => ?_⟩
         have q := k H1 s1
         rw [ek, hm, Bool.true_and] at q
         exact q
     · refine iteTK (by rw [decide_eq_false (by omega)]; rfl) ?_
       refine out _ rfl ?_
       unfold isName
       rw [decide_eq_false (fun y => h2 y.2)]
       rfl
   · refine iteFK (decide_eq_false (by omega)) ⟨_, rfl, iteT ?_⟩
     refine out _ rfl ?_
     unfold isName
     rw [decide_eq_false (fun y => h1 y.1)]
     rfl
end
end SL
namespace SL
open PySem L2
structure Kd (K : W.Frag) (mg : Str → Option Value) (nm : Str) (C ft fw : Addr) (fdt fdw : FuncData) : Prop where
 mkn : MkN K C
 g : mg nm = some (.ref C)
 cls : Cls K C
 mt : Meth K C "takes" ft
 bt : Binds K fdt ["self", "text"] []
 mw : Meth K C "word" fw
 bw : Binds K fdw ["self"] []
section
variable {P : Program} {w : World} {K : W.Frag} {mg : Str → Option Value} {base : Heap}
theorem scIi : FnScope ["text"] ["text"] (defScope sIi) := .of (by decide +kernel)
theorem ok_ii {f CN CA ftN fwN ftA fwA : Addr} {fd fdtN fdwN fdtA fdwA : FuncData} (F : Fun K "is_item" "is_item" sIi f fd)
   (N : Kd K mg "Number" CN ftN fwN fdtN fdwN) (A : Kd K mg "Name" CA ftA fwA fdtA fdwA)
   (GN : FnOk P w K mg base CX0 2 ftN fdtN ["self", "text"] (spTk isNum)) (GA : FnOk P w K mg base CX0 2 ftA fdtA ["self", "text"] (spTk isName)) :
   FnOk P w K mg base CX0 3 f fd ["text"] spIi := by
 refine F.ok scIi (fun vs H Q E h => ?_) (fun cdv A1 outer s H vs Q E hr h => ?_)
 · obtain ⟨z, rfl, _⟩ := h
   rfl
 · obtain ⟨z, rfl, tz, k⟩ := h
   refine ⟨_, pss_one (ps_ret (pe_or (pe_methD (CX := CX0) (pe_makeN N.mkn rfl N.g) hr pass0 (pa_cons (pv 0) pa_nil)) (pe_one (pe_methD (CX := CX0) (pe_makeN A.mkn rfl A.g) hr pass0 (pa_cons (pv 0) pa_nil))))), ?_⟩
   intro x dx h1 h2 h3
   have s0 : Same H (upd (upd H dx (.own x)) x (.ins CN dx [])) := ((Same.refl H).upd_free h2).upd_free h1
   refine ⟨x, CN, dx, [], ftN, fdtN, _, _, rfl, upd_same, rfl, N.cls, N.mt, GN, N.bt, _, rfl, .ref x, z, rfl, tz, fun H1 s1 => ⟨_, rfl, ?_⟩⟩
   cases e : isNum z with
   | true =>
     have q := k H1 (s0.trans s1)
     unfold isItem at q
     rw [e] at q
     exact iteT q
   | false =>
     refine iteF ?_
     intro x2 dx2 g1 g2 g3
     have s2 : Same H1 (upd (upd H1 dx2 (.own x2)) x2 (.ins CA dx2 [])) := ((Same.refl H1).upd_free g2).upd_free g1
     refine ⟨x2, CA, dx2, [], ftA, fdtA, _, _, rfl, upd_same, rfl, A.cls, A.mt, GA, A.bt, _, rfl, .ref x2, z, rfl, tz, fun H2 s3 => ?_⟩
     have q := k H2 (((s0.trans s1).trans s2).trans s3)
     unfold isItem at q
     rw [e, Bool.false_or] at q
     exact q
theorem scKt : FnScope ["self", "text"] ["self", "text"] (defScope sKt) := .of (by decide +kernel)
theorem ok_kt {f fM fI : Addr} {fd fdM fdI : FuncData} (F : Fun K "takes" "Mark.takes" sKt f fd) (T : TS mg) (FM : Fun K "made_of" "made_of" sMo fM fdM) (bM : Binds K fdM ["signs", "text"] []) (gM : mg "made_of" = some (.ref fM))
   (FI : Fun K "is_item" "is_item" sIi fI fdI) (bI : Binds K fdI ["text"] []) (gI : mg "is_item" = some (.ref fI)) (GI : FnOk P w K mg base CX0 3 fI fdI ["text"] spIi) : FnOk P w K mg base CX0 4 f fd ["self", "text"] (spTk isMark) := by
 have GM : FnOk P w K mg base CX0 1 fM fdM ["signs", "text"] spMo := ok_mo FM T
 refine F.ok scKt (fun vs H Q E h => ?_) (fun cdv A outer s H vs Q E hr h => ?_)
 · obtain ⟨v, z, rfl, _⟩ := h
   rfl
 · obtain ⟨v, z, rfl, tz, k⟩ := h
   have hr1 : Room 1 _ := hr.mono (by decide)
   obtain ⟨u1, g1, r1⟩ := T.ms
   obtain ⟨u2, g2, r2⟩ := T.mar
   refine ⟨_, pss_cons (ps_if (pt_not (pt_chain op_le op_le pe_int (pe_callB call_len_str (by rfl) T.len PySem.boot_len (pa_cons (pv 1) pa_nil)) (pe_glob (v := .int 12) (by rfl) g1 r1))) (pss_one (ps_ret pe_bl)) pss_nil)
     (pss_one (ps_ret (pe_and (pe_call GM hr1 rfl gM FM.kp bM .nil pass0 (pa_cons (pe_glob (v := .str MAR) (by rfl) g2 r2) (pa_cons (pv 1) pa_nil))) (pe_one (pe_not (pe_call GI hr rfl gI FI.kp bI .nil pass0 (pa_cons (pv 1) pa_nil))))))), ?_⟩
   refine ⟨_, rfl, z, rfl, len_sm tz (by decide), _, _, rfl, rfl, _, rfl, ?_⟩
   have out : ∀ c : Bool, c = false → isMark z = c → Q (.bl false) H := fun c hc e => by
     have q := k H (Same.refl H)
     rw [e, hc] at q
     exact q
   by_cases h1 : 1 ≤ z.length
   · refine iteTK (decide_eq_true (by omega)) ?_
     refine ⟨_, _, rfl, rfl, _, rfl, ?_⟩
     by_cases h2 : z.length ≤ 12
     · refine iteFK (by rw [decide_eq_true (by omega)]; rfl) ?_
       refine ⟨_, rfl, MAR, z, rfl, tz, fun H1 s1 => ⟨_, rfl, ?_⟩⟩
       have ek : isMark z = (madeM MAR z && !isItem z) := by
         unfold isMark
         rw [decide_eq_true ⟨h1, h2⟩, Bool.true_and]
       cases hm : madeM MAR z with
       | false =>
         have q := k H1 s1
         rw [ek, hm] at q
         exact iteF q
       | true =>
         refine iteT ⟨_, rfl, z, rfl, tz, fun H2 s2 => ⟨_, rfl, ?_⟩⟩
         have q := k H2 (s1.trans s2)
         rw [ek, hm, Bool.true_and] at q
         exact q
     · refine iteTK (by rw [decide_eq_false (by omega)]; rfl) ?_
       refine out _ rfl ?_
       unfold isMark
       rw [decide_eq_false (fun y => h2 y.2)]
       rfl
   · refine iteFK (decide_eq_false (by omega)) ⟨_, rfl, iteT ?_⟩
     refine out _ rfl ?_
     unfold isMark
     rw [decide_eq_false (fun y => h1 y.1)]
     rfl
end
end SL
namespace SL
open PySem L2
theorem walk_tx (c : Nat) : ∀ (l : List Nat) (s : List Str × Str) (n : Nat), (∀ x ∈ l, x < 128) → (∀ p ∈ s.1, Tx n p) → Tx n s.2 → (∀ p ∈ (l.foldl (spStep c) s).1, Tx (n + l.length) p) ∧ Tx (n + l.length) (l.foldl (spStep c) s).2
 | [], s, n, _, h1, h2 => ⟨h1, h2⟩
 | x :: l, s, n, h, h1, h2 => by
   rw [List.foldl_cons, List.length_cons, show n + (l.length + 1) = (n + 1) + l.length by omega]
   refine walk_tx c l _ (n + 1) (fun y hy => h y (List.mem_cons_of_mem _ hy)) ?_ ?_
   · unfold spStep
     split
     · intro p hp
       rcases List.mem_append.mp hp with hp | hp
       · exact (h1 p hp).mono (Nat.le_succ _)
       · rw [List.mem_singleton] at hp
         subst hp
         exact h2.mono (Nat.le_succ _)
     · exact fun p hp => (h1 p hp).mono (Nat.le_succ _)
   · unfold spStep
     split
     · exact ⟨Nat.zero_le _, fun y hy => by cases hy⟩
     · exact h2.app (Tx.one (h x (List.mem_cons_self ..)))
theorem spl_tx {n : Nat} {z : Str} (c : Nat) (h : Tx n z) : ∀ p ∈ spl c z.cps.toList, Tx n p := by
 have q := walk_tx c z.cps.toList ([], Str.empty) 0 h.2 (fun p hp => by cases hp) ⟨Nat.zero_le _, fun y hy => by cases hy⟩
 have e : 0 + z.cps.toList.length ≤ n := by
   rw [cps_len]
   have := h.1
   omega
 intro p hp
 unfold spl at hp
 rcases List.mem_append.mp hp with hp | hp
 · exact (q.1 p hp).mono e
 · rw [List.mem_singleton] at hp
   subst hp
   exact q.2.mono e
section
variable {P : Program} {w : World} {K : W.Frag} {mg : Str → Option Value} {base : Heap}
theorem scIt : FnScope ["self", "text", "pieces"] ["self", "text"] (defScope sIt) := .of (by decide +kernel)
def scopeI : Scope := ⟨.function, [(".0", .local), ("piece", .local), ("is_item", .globalImplicit)], false, false, []⟩
theorem scI : BlkScope (defScope sIt) ["self", "text", "pieces"] ["piece"] [] [] scopeI := .of (by decide +kernel)
theorem ok_it {f fI : Addr} {fd fdI : FuncData} (F : Fun K "takes" "Items.takes" sIt f fd) (T : TS mg)
   (FI : Fun K "is_item" "is_item" sIi fI fdI) (bI : Binds K fdI ["text"] []) (gI : mg "is_item" = some (.ref fI)) (GI : FnOk P w K mg base CX0 3 fI fdI ["text"] spIi) : FnOk P w K mg base CX0 4 f fd ["self", "text"] (spTk isList) := by
 refine F.ok scIt (fun vs H Q E h => ?_) (fun cdv A outer s H vs Q E hr h => ?_)
 · obtain ⟨v, z, rfl, _⟩ := h
   rfl
 · obtain ⟨v, z, rfl, tz, k⟩ := h
   obtain ⟨u1, g1, r1⟩ := T.mi
   refine ⟨_, pss_cons (ps_if (pt_not (PW.pt (pw_and (pt_val (pe_bm PySem.F.plainAttrs_str PySem.F.slot_str_startswith PySem.F.type_str_startswith mt_starts (pv 1) (pa_cons pe_str pa_nil))) (pw_and1 (pt_val (pe_bm PySem.F.plainAttrs_str PySem.F.slot_str_endswith PySem.F.type_str_endswith mt_ends (pv 1) (pa_cons pe_str pa_nil))))))) (pss_one (ps_ret pe_bl)) pss_nil)
     (pss_cons (ps_if (pt_cmpR op_eq (pv 1) pe_str (nomark _)) (pss_one (ps_ret pe_bl)) pss_nil)
     (pss_cons (ps_set (i := 2) scIt.nd rfl (Or.inl rfl) (pe_bm PySem.F.plainAttrs_str PySem.F.slot_str_split PySem.F.type_str_split mt_split (pe_slice sl_str (pv 1) (po_some pe_int) (po_some (pe_un un_neg pe_int))) (pa_cons pe_str pa_nil)))
     (pss_one (ps_ret (pe_and (pe_cmpR op_le (pe_callB call_len_seq (by rfl) T.len PySem.boot_len (pa_cons (pv 2) pa_nil)) (pe_glob (v := .int 4) (by rfl) g1 r1) (nomark _))
       (pe_one (pe_callB (call_allB rfl) (by rfl) T.all boot_all (pa_cons (pe_lc scI rfl rfl rfl (pi_list (pv 2)) (fun fp C s1 H1 => pg_name (i := 0) scI.nd rfl (Or.inl rfl)) (fun fp C s1 H1 => pts_nil)
         (fun fp C s1 H1 => pe_call GI hr rfl gI FI.kp bI .nil pass0 (pa_cons (pv 0) pa_nil))) pa_nil)))))))), ?_⟩
   have fal : isList z = false → Q (.bl false) H := fun e => by
     have q := k H (Same.refl H)
     rw [e] at q
     exact q
   refine ⟨_, rfl, rfl, z, _, rfl, rfl, _, rfl, ?_⟩
   cases e1 : Txt.startswith z (Str.ofString "[") with
   | false =>
     refine iteF (iteT (fal ?_))
     unfold isList
     rw [e1]
     rfl
   | true =>
     refine iteT ⟨_, rfl, rfl, z, _, rfl, rfl, _, rfl, ?_⟩
     cases e2 : Txt.endswith z (Str.ofString "]") with
     | false =>
       refine iteT (fal ?_)
       unfold isList
       rw [e1, e2]
       rfl
     | true =>
       refine iteF ⟨_, rfl, rfl, _, rfl, ?_⟩
       by_cases hz : z = Str.ofString "[]"
       · refine iteTK (decide_eq_true (by rw [hz])) ?_
         have q := k H (Same.refl H)
         have e : isList z = true := by
           unfold isList
           rw [e1, e2, decide_eq_true hz]
           rfl
         rw [e] at q
         exact q
       · refine iteFK (decide_eq_false (fun y => hz (by injection y))) ?_
         have tz' : Tx 1000 (Txt.slice z (some 1) (some (-1))) := tz.slice _ _
         have l1 := split_len (Txt.slice z (some 1) (some (-1))) (Str.ofString ",")
         have l2 := parts_len (Txt.slice z (some 1) (some (-1))) (Str.ofString ",")
         have l3 := tz'.1
         have big : 1002 ≤ sizeLine := by decide
         refine ⟨_, rfl, _, rfl, _, rfl, _, rfl, z, rfl, len_sm tz (by decide), rfl, _, _, rfl, rfl, rfl, len_sm tz' (by decide), by omega, by omega, fun p hp => ?_⟩
         have tl : ∀ y ∈ Txt.split (Txt.slice z (some 1) (some (-1))) (Str.ofString ","), Tx 1000 y := fun y hy => by
           rw [show Str.ofString "," = (⟨#[44]⟩ : Str) from rfl, split_spl _ (by decide)] at hy
           exact spl_tx 44 tz' y hy
         have ek : isList z = (decide ((Txt.split (Txt.slice z (some 1) (some (-1))) (Str.ofString ",")).length ≤ 4) && (Txt.split (Txt.slice z (some 1) (some (-1))) (Str.ofString ",")).all isItem) := by
           unfold isList
           rw [e1, e2, decide_eq_false hz]
           rfl
         generalize hL : Txt.split (Txt.slice z (some 1) (some (-1))) (Str.ofString ",") = L at hp l1 tl ek ⊢
         have s0 : Same H (upd H p (.lst (L.map V.str))) := (Same.refl H).upd_free hp
         refine ⟨_, rfl, p, _, rfl, .inl (SqL.of upd_same), _, _, rfl, rfl, _, rfl, ?_⟩
         by_cases h4 : L.length ≤ 4
         · refine iteTK (decide_eq_true (by rw [List.length_map]; omega)) ?_
           refine ⟨_, rfl, p, rfl, ⟨_, SqL.of upd_same⟩, fun D hD => ?_⟩
           refine lc_list (K := K) (a := p) (xs := L.map V.str) (fun i ys H2 => ys = ((L.take i).map isItem).map V.bl ∧ Same (upd H p (.lst (L.map V.str))) H2 ∧ H2 D = some (.lst ys)) (by rw [List.length_map]; omega) ⟨rfl, (Same.refl _).upd_free hD, upd_same⟩
             (fun i ys H2 h => by rw [h.1, List.length_map, List.length_map, List.length_take]; exact Nat.min_le_left _ _) (fun i ys H2 h => SqL.of (h.2.1 _ _ upd_same)) ?_ ?_
           · rintro i ys H2 x N M hx ⟨rfl, s2, hD2⟩ hN hM
             rw [List.getElem?_map] at hx
             cases el : L[i]? with
             | none => rw [el] at hx; cases hx
             | some y =>
               rw [el] at hx
               cases hx
               refine ⟨_, rfl, y, rfl, tl y (List.mem_of_getElem? el), fun H3 s3 => hN _ H3 (s3 _ _ hD2) ⟨?_, (s2.trans s3).upd_free hD, upd_same⟩⟩
               rw [List.take_add_one, el, List.map_append, List.map_append]
               rfl
           · rintro ys H2 ⟨rfl, s2, hD2⟩
             refine ⟨D, _, rfl, SqL.of hD2, ?_⟩
             have q := k H2 (s0.trans s2)
             rw [ek, decide_eq_true h4, Bool.true_and] at q
             rw [List.length_map, List.take_length, List.all_map]
             exact q
         · refine iteFK (decide_eq_false (by rw [List.length_map]; omega)) ?_
           have q := k _ s0
           rw [ek, decide_eq_false h4] at q
           exact q
end
end SL
namespace SL
open PySem L2
def SoAt (H : Hp) (C p : Addr) : Prop := ∃ dx, H p = some (.ins C dx [])
theorem SoAt.same {H H' : Hp} {C p : Addr} (h : SoAt H C p) (s : Same H H') : SoAt H' C p := by
 obtain ⟨dx, h⟩ := h
 exact ⟨dx, s _ _ h⟩
def restM (z : Str) : Nat → Option So
 | 0 => sortM z
 | 1 => if isName z then some .nam else if isList z then some .lis else if isMark z then some .mar else none
 | 2 => if isList z then some .lis else if isMark z then some .mar else none
 | 3 => if isMark z then some .mar else none
 | _ => none
def spAl (C1 C2 C3 C4 : Addr) : Sp := fun vs H Q _ => vs = [] ∧ ∀ (a x1 x2 x3 x4 : Addr) H', Same H H' → SoAt H' C1 x1 → SoAt H' C2 x2 → SoAt H' C3 x3 → SoAt H' C4 x4 → H' a = some (.tup [.ref x1, .ref x2, .ref x3, .ref x4]) → Q (.ref a) H'
def spSo : Sp := fun vs H Q _ => ∃ z : Str, vs = [.str z] ∧ Tx 1000 z ∧ ∀ H', Same H H' → Q (vS (sortM z)) H'
structure SK (P : Program) (w : World) (K : W.Frag) (mg : Str → Option Value) (base : Heap) (C : Addr) (p : Str → Bool) (x : Str) : Prop where
 cls : Cls K C
 tk : ∃ f fd, Meth K C "takes" f ∧ Binds K fd ["self", "text"] [] ∧ FnOk P w K mg base CX0 4 f fd ["self", "text"] (spTk p)
 wd : ∃ f fd, Meth K C "word" f ∧ Binds K fd ["self"] [] ∧ FnOk P w K mg base CX0 4 f fd ["self"] (spWo x)
section
variable {P : Program} {w : World} {K : W.Frag} {mg : Str → Option Value} {base : Heap}
theorem ok_wo {n q : Str} {st : Stmt} {x : Str} {f : Addr} {fd : FuncData} {p1 p2 : Pos} {k0 : Nat} (F : Fun K n q st f fd) (sc : FnScope ["self"] ["self"] (defScope st)) (hb : defBody st = [.Return (some (.Constant (.str x) k0 p1)) p2]) : FnOk P w K mg base CX0 1 f fd ["self"] (spWo x) := by
 refine F.ok sc (fun vs H Q E h => ?_) (fun cdv A outer s H vs Q E hr h => ?_)
 · obtain ⟨v, rfl, _⟩ := h
   rfl
 · obtain ⟨v, rfl, k⟩ := h
   rw [hb]
   exact ⟨_, pss_one (ps_ret pe_str), k⟩
theorem scAl : FnScope [] [] (defScope sAl) := .of (by decide +kernel)
theorem ok_al {f C1 C2 C3 C4 t1 w1 t2 w2 t3 w3 t4 w4 : Addr} {fd ft1 fw1 ft2 fw2 ft3 fw3 ft4 fw4 : FuncData} (F : Fun K "all_sorts" "all_sorts" sAl f fd)
   (N : Kd K mg "Number" C1 t1 w1 ft1 fw1) (A : Kd K mg "Name" C2 t2 w2 ft2 fw2) (I : Kd K mg "Items" C3 t3 w3 ft3 fw3) (M : Kd K mg "Mark" C4 t4 w4 ft4 fw4) : FnOk P w K mg base CX0 1 f fd [] (spAl C1 C2 C3 C4) := by
 refine F.ok scAl (fun vs H Q E h => ?_) (fun cdv A1 outer s H vs Q E hr h => ?_)
 · rw [h.1]
   rfl
 · obtain ⟨rfl, k⟩ := h
   refine ⟨_, pss_one (ps_ret (pe_tup (pa_cons (pe_makeN N.mkn rfl N.g) (pa_cons (pe_makeN A.mkn rfl A.g) (pa_cons (pe_makeN I.mkn rfl I.g) (pa_cons (pe_makeN M.mkn rfl M.g) pa_nil)))))), ?_⟩
   intro x1 d1 a1 b1 _ x2 d2 a2 b2 _ x3 d3 a3 b3 _ x4 d4 a4 b4 _
   refine ⟨(by show 4 ≤ sizeLine; decide), fun p hp => ?_⟩
   have s1 := ((Same.refl H).upd_free (o := .own x1) b1).upd_free (o := .ins C1 d1 []) a1
   have s2 := ((Same.refl _).upd_free (o := .own x2) b2).upd_free (o := .ins C2 d2 []) a2
   have s3 := ((Same.refl _).upd_free (o := .own x3) b3).upd_free (o := .ins C3 d3 []) a3
   have s4 := ((Same.refl _).upd_free (o := .own x4) b4).upd_free (o := .ins C4 d4 []) a4
   have s5 := (Same.refl _).upd_free (o := .tup [.ref x1, .ref x2, .ref x3, .ref x4]) hp
   refine k p x1 x2 x3 x4 _ ((((s1.trans s2).trans s3).trans s4).trans s5) ⟨d1, ((s2.trans s3).trans (s4.trans s5)) _ _ upd_same⟩ ⟨d2, (s3.trans (s4.trans s5)) _ _ upd_same⟩ ⟨d3, (s4.trans s5) _ _ upd_same⟩ ⟨d4, s5 _ _ upd_same⟩ upd_same
theorem scSo : FnScope ["text", "sort"] ["text"] (defScope sSo) := .of (by decide +kernel)
theorem ok_so {f fA C1 C2 C3 C4 : Addr} {fd fdA : FuncData} (F : Fun K "sort_of" "sort_of" sSo f fd) (FA : Fun K "all_sorts" "all_sorts" sAl fA fdA) (bA : Binds K fdA [] []) (gA : mg "all_sorts" = some (.ref fA)) (GA : FnOk P w K mg base CX0 1 fA fdA [] (spAl C1 C2 C3 C4))
   (S1 : SK P w K mg base C1 isNum (So.str .num)) (S2 : SK P w K mg base C2 isName (So.str .nam)) (S3 : SK P w K mg base C3 isList (So.str .lis)) (S4 : SK P w K mg base C4 isMark (So.str .mar)) : FnOk P w K mg base CX0 5 f fd ["text"] spSo := by
 refine F.ok scSo (fun vs H Q E h => ?_) (fun cdv A outer s H vs Q E hr h => ?_)
 · obtain ⟨z, rfl, _⟩ := h
   rfl
 · obtain ⟨z, rfl, tz, k⟩ := h
   have hr1 : Room 1 _ := hr.mono (by decide)
   refine ⟨_, pss_cons (ps_for PassesOwn.never rfl (pi_tup (pe_call0 GA hr1 rfl gA FA.kp bA .nil pass0)) (pg_name (i := 1) scSo.nd rfl (Or.inl rfl))
       (pss_one (ps_if (pt_val (pe_methD (CX := CX0) (pv 1) hr pass0 (pa_cons (pv 0) pa_nil))) (pss_one (ps_ret (pe_methD0 (CX := CX0) (pv 1) hr pass0))) pss_nil)))
     (pss_one (ps_ret pe_non)), ?_⟩
   refine ⟨rfl, fun a x1 x2 x3 x4 H1 s1 y1 y2 y3 y4 ha => ?_⟩
   refine ⟨a, rfl, ⟨_, SqT.of ha⟩, ?_⟩
   refine for_tup (xs := [.ref x1, .ref x2, .ref x3, .ref x4]) (fun i σ H2 => (∃ v, σ = [some (.str z), v]) ∧ Same H1 H2 ∧ sortM z = restM z i) ⟨⟨none, rfl⟩, Same.refl _, rfl⟩ (fun i σ H2 _ h => SqT.of (h.2.1 _ _ ha)) ?_ ?_
   · rintro i x σ H2 hx ⟨⟨v, rfl⟩, s2, er⟩
     have row : ∃ (C y : Addr) (p : Str → Bool) (o : So), x = .ref y ∧ SoAt H2 C y ∧ SK P w K mg base C p o.str ∧ (p z = true → restM z i = some o) ∧ (p z = false → restM z i = restM z (i + 1)) := by
       rcases i with _ | _ | _ | _ | i
       · cases hx
         exact ⟨C1, x1, isNum, .num, rfl, y1.same s2, S1, fun e => if_pos e, fun e => if_neg (by rw [e]; nofun)⟩
       · cases hx
         exact ⟨C2, x2, isName, .nam, rfl, y2.same s2, S2, fun e => if_pos e, fun e => if_neg (by rw [e]; nofun)⟩
       · cases hx
         exact ⟨C3, x3, isList, .lis, rfl, y3.same s2, S3, fun e => if_pos e, fun e => if_neg (by rw [e]; nofun)⟩
       · cases hx
         exact ⟨C4, x4, isMark, .mar, rfl, y4.same s2, S4, fun e => if_pos e, fun e => if_neg (by rw [e]; nofun)⟩
       · cases hx
     obtain ⟨C, y, p, o, rfl, ⟨dx, hy⟩, S, hT, hF⟩ := row
     obtain ⟨ft, fdt, mt, bt, ot⟩ := S.tk
     obtain ⟨fw, fdw, mw, bw, ow⟩ := S.wd
     refine ⟨_, rfl, y, C, dx, [], ft, fdt, _, _, rfl, hy, rfl, S.cls, mt, ot, bt, _, rfl, .ref y, z, rfl, tz, fun H3 s3 => ⟨_, rfl, ?_⟩⟩
     cases e : p z with
     | true =>
       refine iteT ⟨_, rfl, y, C, dx, [], fw, fdw, _, _, rfl, s3 _ _ hy, rfl, S.cls, mw, ow, bw, .ref y, rfl, ?_⟩
       have q := k H3 ((s1.trans s2).trans s3)
       rw [er, hT e] at q
       exact q
     | false => exact iteF ⟨⟨_, rfl⟩, s2.trans s3, er.trans (hF e)⟩
   · rintro σ H2 ⟨⟨v, rfl⟩, s2, er⟩
     have q := k H2 (s1.trans s2)
     rw [er] at q
     exact q
end
end SL
namespace SL
open PySem L2
def okMark (z : Str) : Prop := 1 ≤ z.length ∧ z.length ≤ 12 ∧ madeM MAR z = true
def lisOf (xs : List Str) : Str := Str.ofString "[" ++ Str.join (Str.ofString ",") xs ++ Str.ofString "]"
inductive Wd (z : Str) : Prop where
 | mar (h : okMark z)
 | lis (xs : List Str) (h : xs.length ≤ 4) (hi : ∀ x ∈ xs, isItem x = true) (e : z = lisOf xs)
def numS (z : Str) : Bool := madeM FIG z && (decide (z.length < 10) && (decide (z = Str.ofString "0") || !decide ((⟨#[hd z]⟩ : Str) = Str.ofString "0")))
def namS (z : Str) : Bool := hasC SMA (hd z) && (z.cps.toList.filter fun c => !hasC FIG c).all (hasC SMA)
def lawS (z : Str) : So := if (⟨#[hd z]⟩ : Str) = Str.ofString "[" then .lis else if numS z then .num else if namS z then .nam else .mar
theorem app_list (y z : Str) : (y ++ z).cps.toList = y.cps.toList ++ z.cps.toList := by
 rw [Str.cps_append, Array.toList_append]
theorem one_inj {c d : Nat} (h : (⟨#[c]⟩ : Str) = ⟨#[d]⟩) : c = d := by
 injection h with h
 injection h with h
 injection h
theorem nam_or (c : Nat) : hasC NAM c = (hasC SMA c || hasC FIG c) := by
 have e : NAM.cps.toList = SMA.cps.toList ++ FIG.cps.toList := by decide +kernel
 unfold hasC
 rw [e]
 by_cases h1 : c ∈ SMA.cps.toList
 · rw [decide_eq_true h1, decide_eq_true (List.mem_append_left _ h1)]
   rfl
 · by_cases h2 : c ∈ FIG.cps.toList
   · rw [decide_eq_true h2, decide_eq_true (List.mem_append_right _ h2), Bool.or_true]
   · rw [decide_eq_false h1, decide_eq_false h2, decide_eq_false (fun y => (List.mem_append.mp y).elim h1 h2)]
     rfl
theorem nam_all (l : List Nat) : (l.filter fun c => !hasC FIG c).all (hasC SMA) = l.all (hasC NAM) := by
 induction l with
 | nil => rfl
 | cons c l ih =>
   rw [List.filter_cons, List.all_cons, nam_or]
   cases h : hasC FIG c with
   | true =>
     rw [if_neg (by nofun), ih, Bool.or_true, Bool.true_and]
   | false =>
     rw [if_pos (show (!false) = true from rfl), List.all_cons, ih, Bool.or_false]
theorem hd_mem {z : Str} (h : 1 ≤ z.length) : hd z ∈ z.cps.toList := by
 unfold hd
 have e := cps_len z
 cases g : z.cps.toList with
 | nil =>
   rw [g] at e
   have : z.length = 0 := e.symm
   omega
 | cons c r => exact List.mem_cons_self ..
theorem made_hd {S z : Str} (h : 1 ≤ z.length) (m : madeM S z = true) : hd z ∈ S.cps.toList := of_decide_eq_true (List.all_eq_true.mp m _ (hd_mem h))
theorem starts_hd {z : Str} {c : Nat} (h : 1 ≤ z.length) (s : Txt.startswith z ⟨#[c]⟩ = true) : hd z = c := by
 unfold Txt.startswith at s
 have s2 := (Bool.and_eq_true_iff.mp s).2
 have q := (StrLaws.subAt_one z c 0).mp ⟨by show 0 + 1 ≤ _; omega, s2⟩
 unfold hd
 cases g : z.cps.toList with
 | nil => rw [g] at q; cases q
 | cons d r =>
   rw [g] at q
   cases q
   rfl
theorem sort_mark {z : Str} (h : okMark z) : sortM z = some (lawS z) := by
 obtain ⟨h1, h2, h3⟩ := h
 have hm := made_hd h1 h3
 have nb : ¬ (⟨#[hd z]⟩ : Str) = Str.ofString "[" := fun e => by
   have e2 : hd z = 91 := one_inj e
   rw [e2] at hm
   revert hm
   decide +kernel
 have en : isNum z = numS z := by
   unfold isNum numS
   by_cases h9 : z.length ≤ 9
   · rw [decide_eq_true ⟨h1, h9⟩, decide_eq_true (show z.length < 10 by omega), Bool.true_and, Bool.true_and]
   · rw [decide_eq_false (fun y => h9 y.2), decide_eq_false (show ¬ z.length < 10 by omega), Bool.false_and, Bool.false_and, Bool.and_false]
 have ea : isName z = namS z := by
   unfold isName namS
   rw [decide_eq_true ⟨h1, h2⟩, Bool.true_and, nam_all]
   rfl
 have el : isList z = false := by
   unfold isList
   cases hs : Txt.startswith z (Str.ofString "[") with
   | false => rfl
   | true =>
     have q := starts_hd (c := 91) h1 hs
     exact absurd (by rw [q]; rfl) nb
 unfold sortM lawS
 rw [if_neg nb, en, ea, el]
 cases a : numS z with
 | true => rfl
 | false =>
   cases b : namS z with
   | true => rfl
   | false =>
     have em : isMark z = true := by
       unfold isMark isItem
       rw [decide_eq_true ⟨h1, h2⟩, h3, en, ea, a, b]
       rfl
     rw [em]
     rfl
theorem item_plain {x : Str} (h : isItem x = true) : 1 ≤ x.length ∧ x.length ≤ 12 ∧ madeM NAM x = true := by
 unfold isItem at h
 rcases Bool.or_eq_true_iff.mp h with h | h
 · unfold isNum at h
   have a := of_decide_eq_true (Bool.and_eq_true_iff.mp h).1
   have b := (Bool.and_eq_true_iff.mp (Bool.and_eq_true_iff.mp h).2).1
   refine ⟨a.1, by omega, List.all_eq_true.mpr fun c hc => ?_⟩
   rw [nam_or, List.all_eq_true.mp b c hc, Bool.or_true]
 · unfold isName at h
   have a := of_decide_eq_true (Bool.and_eq_true_iff.mp h).1
   exact ⟨a.1, a.2, (Bool.and_eq_true_iff.mp (Bool.and_eq_true_iff.mp h).2).2⟩
theorem item_comma {x : Str} (h : isItem x = true) : ∀ c ∈ x.cps.toList, c ≠ 44 := fun c hc e => by
 have q : hasC NAM c = true := List.all_eq_true.mp (item_plain h).2.2 c hc
 rw [e] at q
 revert q
 decide +kernel
theorem walk_plain (c : Nat) : ∀ (l : List Nat) (s : List Str × Str), (∀ x ∈ l, x ≠ c) → l.foldl (spStep c) s = (s.1, s.2 ++ ⟨l.toArray⟩)
 | [], s, _ => by
   have e : s.2 ++ (⟨#[]⟩ : Str) = s.2 := Str.ext' (by rw [Str.cps_append]; exact Array.append_empty)
   rw [show ([] : List Nat).toArray = #[] from rfl, e]
   rfl
 | x :: l, s, h => by
   rw [List.foldl_cons, walk_plain c l _ fun y hy => h y (List.mem_cons_of_mem _ hy)]
   unfold spStep
   rw [if_neg (h x (List.mem_cons_self ..))]
   refine Prod.ext rfl (Str.ext' ?_)
   show ((s.2 ++ ⟨#[x]⟩) ++ (⟨l.toArray⟩ : Str)).cps = (s.2 ++ (⟨(x :: l).toArray⟩ : Str)).cps
   rw [Str.cps_append, Str.cps_append, Str.cps_append]
   apply Array.toList_inj.mp
   simp
theorem spl_join {c : Nat} : ∀ (xs : List Str) (d : List Str), xs ≠ [] → (∀ x ∈ xs, ∀ k ∈ x.cps.toList, k ≠ c) →
   ((Str.join ⟨#[c]⟩ xs).cps.toList.foldl (spStep c) (d, Str.empty)).1 ++ [((Str.join ⟨#[c]⟩ xs).cps.toList.foldl (spStep c) (d, Str.empty)).2] = d ++ xs
 | [], d, h, _ => absurd rfl h
 | [x], d, _, hx => by
   rw [show Str.join ⟨#[c]⟩ [x] = x from rfl, walk_plain c _ _ (hx x (List.mem_cons_self ..))]
   have e : Str.empty ++ (⟨x.cps.toList.toArray⟩ : Str) = x := Str.ext' (by rw [Str.cps_append]; exact (Array.empty_append).trans (Array.toArray_toList))
   show d ++ [Str.empty ++ (⟨x.cps.toList.toArray⟩ : Str)] = _
   rw [e]
 | x :: y :: r, d, _, hx => by
   have ej : Str.join ⟨#[c]⟩ (x :: y :: r) = x ++ ⟨#[c]⟩ ++ Str.join ⟨#[c]⟩ (y :: r) := rfl
   have e : Str.empty ++ (⟨x.cps.toList.toArray⟩ : Str) = x := Str.ext' (by rw [Str.cps_append]; exact (Array.empty_append).trans (Array.toArray_toList))
   rw [ej, app_list, app_list, List.foldl_append, List.foldl_append, walk_plain c _ _ (hx x (List.mem_cons_self ..))]
   have e2 : ([c] : List Nat).foldl (spStep c) (d, Str.empty ++ (⟨x.cps.toList.toArray⟩ : Str)) = (d ++ [x], Str.empty) := by
     rw [e]
     exact if_pos rfl
   rw [show (⟨#[c]⟩ : Str).cps.toList = [c] from rfl, e2]
   have q := spl_join (c := c) (y :: r) (d ++ [x]) (by nofun) fun z hz => hx z (List.mem_cons_of_mem _ hz)
   rw [List.append_assoc] at q
   exact q
theorem split_join {xs : List Str} (h : xs ≠ []) (hi : ∀ x ∈ xs, isItem x = true) : Txt.split (Str.join (Str.ofString ",") xs) (Str.ofString ",") = xs := by
 rw [show Str.ofString "," = (⟨#[44]⟩ : Str) from rfl, split_spl _ (by decide)]
 exact spl_join xs [] h fun x hx => item_comma (hi x hx)
theorem slice_mid (x : Str) : Txt.slice (Str.ofString "[" ++ x ++ Str.ofString "]") (some 1) (some (-1)) = x := by
 have hl : (Str.ofString "[" ++ x ++ Str.ofString "]").length = x.length + 2 := by
   rw [Str.length_append, Str.length_append, show (Str.ofString "[").length = 1 from rfl, show (Str.ofString "]").length = 1 from rfl]
   omega
 have e1 : Txt.slice (Str.ofString "[" ++ x ++ Str.ofString "]") (some 1) (some (-1)) = StrLaws.sliceText (Str.ofString "[" ++ x ++ Str.ofString "]") (some 1) (some (-1)) := rfl
 rw [e1, StrLaws.sliceText_neg_hi _ _ (by decide) (by rw [hl]; omega), StrLaws.sliceText_plain ⟨by decide, by rw [hl]; omega, by rw [cps_len, hl]; omega⟩, hl]
 refine Str.ext' (Array.toList_inj.mp ?_)
 rw [app_list, app_list]
 have e2 : (-1 + ((x.length + 2 : Nat) : Int) - 1).toNat = x.cps.toList.length := by rw [cps_len]; omega
 rw [e2]
 show ((([91] ++ x.cps.toList) ++ [93]).drop 1).take x.cps.toList.length = x.cps.toList
 rw [List.append_assoc]
 show (x.cps.toList ++ [93]).take x.cps.toList.length = _
 exact List.take_left' rfl
theorem lis_hd (xs : List Str) : hd (lisOf xs) = 91 := by
 unfold hd lisOf
 rw [app_list, app_list]
 rfl
theorem lis_len (xs : List Str) : 2 ≤ (lisOf xs).length := by
 unfold lisOf
 rw [Str.length_append, Str.length_append, show (Str.ofString "[").length = 1 from rfl, show (Str.ofString "]").length = 1 from rfl]
 omega
theorem sort_lis {xs : List Str} (h : xs.length ≤ 4) (hi : ∀ x ∈ xs, isItem x = true) : sortM (lisOf xs) = some (lawS (lisOf xs)) := by
 have l2 := lis_len xs
 have eh := lis_hd xs
 have en : isNum (lisOf xs) = false := by
   cases q : isNum (lisOf xs) with
   | false => rfl
   | true =>
     unfold isNum at q
     have b := made_hd (by omega) (Bool.and_eq_true_iff.mp (Bool.and_eq_true_iff.mp q).2).1
     rw [eh] at b
     revert b
     decide +kernel
 have ea : isName (lisOf xs) = false := by
   unfold isName
   rw [eh, show hasC SMA 91 = false by decide +kernel, Bool.false_and, Bool.and_false]
 have el : isList (lisOf xs) = true := by
   unfold isList
   have e1 : Txt.startswith (lisOf xs) (Str.ofString "[") = true := by
     unfold lisOf
     rw [W.KAf.starts_left (by rw [Str.length_append]; omega)]
     exact W.KT.starts_app _ _
   have e2 : Txt.endswith (lisOf xs) (Str.ofString "]") = true := W.KT.ends_app _ _
   rw [e1, e2]
   by_cases hx : xs = []
   · rw [hx]
     decide +kernel
   · have es : Txt.slice (lisOf xs) (some 1) (some (-1)) = Str.join (Str.ofString ",") xs := slice_mid _
     rw [es, split_join hx hi, decide_eq_true h, List.all_eq_true.mpr hi, Bool.and_self, Bool.or_true]
     rfl
 unfold sortM lawS
 rw [en, ea, el, eh]
 rfl
theorem Wd.sort {z : Str} (h : Wd z) : sortM z = some (lawS z) := by
 cases h with
 | mar h => exact sort_mark h
 | lis xs h hi e =>
   rw [e]
   exact sort_lis h hi
end SL
namespace SL
open PySem L2
structure Txt (mg : Str → Option Value) : Prop where
 len : mg "len" = none
 range : mg "range" = none
 tuple : mg "tuple" = none
 isin : mg "isinstance" = none
 str : mg "str" = none
 list : mg "list" = none
theorem some_at {α : Type} (l : List α) (i : Int) (h0 : 0 ≤ i) (h : i < (l.length : Int)) : ∃ x, l[i.toNat]? = some x := by
 have h' : i.toNat < l.length := by omega
 exact ⟨l[i.toNat], by simp [h']⟩
theorem atI_some {α : Type} (l : List α) (i : Int) (h0 : 0 ≤ i) (h : i < (l.length : Int)) : ∃ x, x ∈ l ∧ atI l i = some x := by
 obtain ⟨x, e⟩ := some_at l i h0 h
 refine ⟨x, List.mem_of_getElem? e, ?_⟩
 have z : i = ((i.toNat : Nat) : Int) := by omega
 rw [z]
 exact atI_nat e
def spCe (K : W.Frag) : Sp := fun vs H Q _ => ∃ (a : Addr) (ns : List Int) (k : Int), vs = [.ref a, .int k] ∧ SqL K H a (ns.map V.int) ∧ ns.length ≤ 1000 ∧ 0 ≤ k ∧ k ≤ 2000 ∧ ∀ (z : Int) (H' : Hp), Same H H' → Q (.int z) H'
def spPi : Sp := fun vs H Q _ => ∃ (c k m : Int), vs = [.int c, .int k, .int m] ∧ 0 ≤ k ∧ k ≤ 1000 ∧ 0 < m ∧ ∀ z : Int, 0 ≤ z → z < m → Q (.int z) H
def spSi : Sp := fun vs H Q _ => ∃ (c m : Int) (z : Str), vs = [.int c, .int m, .str z] ∧ 0 ≤ m ∧ m ≤ 20 ∧ Tx 100 z ∧ 0 < z.length ∧ ∀ (cs : List Nat) (H' : Hp), cs.length = m.toNat → (∀ c ∈ cs, c ∈ z.cps.toList) → Same H H' → Q (.str ⟨cs.toArray⟩) H'
def spMk : Sp := fun vs H Q _ => ∃ c : Int, vs = [.int c] ∧ ∀ (y : Str) (H' : Hp), okMark y → Same H H' → Q (.str y) H'
def spNa : Sp := fun vs H Q _ => ∃ c : Int, vs = [.int c] ∧ ∀ (y : Str) (H' : Hp), isName y = true → Same H H' → Q (.str y) H'
def spWd : Sp := fun vs H Q _ => ∃ (t : Str) (c : Int), vs = [.str t, .int c] ∧ ∀ (y : Str) (H' : Hp), Wd y → Same H H' → Q (.str y) H'
def txB (n : Nat) (z : Str) : Bool := decide (z.length ≤ n) && z.cps.toList.all fun c => decide (c < 128)
theorem txK {n : Nat} {z : Str} (h : txB n z = true) : Tx n z := by
 unfold txB at h
 rw [Bool.and_eq_true] at h
 exact ⟨of_decide_eq_true h.1, fun c hc => of_decide_eq_true (List.all_eq_true.mp h.2 c hc)⟩
theorem ifb {c : Bool} {A B : Prop} (h1 : A) (h2 : B) : if c = true then A else B := by
 cases c with
 | true => exact iteT h1
 | false => exact iteF h2
theorem log_ok {i : Int} (h0 : 0 ≤ i) (h1 : i < 10 ^ 10) : i.natAbs.log2 < 1920 := by
 by_cases z : i.natAbs = 0
 · rw [z]
   decide
 · have q : i.natAbs.log2 < 34 := (Nat.log2_lt z).mpr (by
     have : i.natAbs < 10 ^ 10 := by omega
     exact Nat.lt_trans this (by decide))
   omega
theorem len2_sm {n m : Nat} {y z : Str} (h : Tx n y) (k : Tx m z) (hn : n + m ≤ 1000) : y.length + z.length ≤ sizeLine := Nat.le_of_lt (small1000 (Nat.le_trans (Nat.add_le_add h.1 k.1) hn))
theorem sum_len {n : Nat} : ∀ {ys : List Str}, (∀ y ∈ ys, y.length ≤ n) → (ys.map (·.length)).sum ≤ ys.length * n
 | [], _ => Nat.zero_le _
 | y :: ys, h => by
   have q := sum_len (n := n) (ys := ys) fun z hz => h z (List.mem_cons_of_mem _ hz)
   have q1 := h y List.mem_cons_self
   rw [List.map_cons, List.sum_cons, List.length_cons, Nat.succ_mul]
   omega
theorem join_ones : ∀ cs : List Nat, Str.join (Str.ofString "") (cs.map fun c => (⟨#[c]⟩ : Str)) = ⟨cs.toArray⟩
 | [] => rfl
 | [c] => rfl
 | c :: d :: r => by
   have ej : Str.join (Str.ofString "") ((c :: d :: r).map fun c => (⟨#[c]⟩ : Str)) = (⟨#[c]⟩ : Str) ++ Str.ofString "" ++ Str.join (Str.ofString "") ((d :: r).map fun c => (⟨#[c]⟩ : Str)) := rfl
   rw [ej, join_ones (d :: r)]
   refine Str.ext' (Array.toList_inj.mp ?_)
   rw [app_list, app_list]
   rfl
section
variable {P : Program} {w : World} {K : W.Frag} {mg : Str → Option Value} {base : Heap}
theorem scCe : FnScope ["_law_script", "_law_k"] ["_law_script", "_law_k"] (defScope sCe) := .of (by decide +kernel)
theorem ok_ce {f : Addr} {fd : FuncData} (F : Fun K "_law_cell_at" "_law_cell_at" sCe f fd) (T : Txt mg) : FnOk P w K mg base CX0 1 f fd ["_law_script", "_law_k"] (spCe K) := by
 refine F.ok scCe (fun vs H Q E h => ?_) (fun cdv A outer s H vs Q E hr h => ?_)
 · obtain ⟨a, ns, k, rfl, _⟩ := h
   rfl
 · obtain ⟨a, ns, k, rfl, hS, hln, k0, k1, kk⟩ := h
   refine ⟨_, pss_cons (ps_if (pt_cmpR op_lt (pv 1) (pe_callB call_len_seq (by rfl) T.len PySem.boot_len (pa_cons (pv 0) pa_nil)) (nomark _)) (pss_one (ps_ret (pe_ix ix_list (pv 0) (pv 1) (fun _ _ => rfl)))) pss_nil)
     (pss_one (ps_ret (pe_op op_mod (pe_op op_mul (pe_op op_add (pe_op op_mod (pe_ix ix_list (pe_op op_catL (pv 0) (pe_lst (pa_cons pe_int pa_nil))) pe_int (fun _ _ => rfl)) pe_int) pe_int) (pe_op op_add (pe_op op_mul (pv 1) (pv 1)) pe_int)) pe_int))), ?_⟩
   refine ⟨_, rfl, _, rfl, a, _, rfl, .inl hS, _, _, rfl, rfl, _, rfl, ?_⟩
   refine ite2 (fun hlt => ?_) (fun hge => ?_)
   · have hlt' : k < ((ns.map V.int).length : Int) := of_decide_eq_true hlt
     obtain ⟨x, hx, ex⟩ := atI_some (ns.map V.int) k k0 hlt'
     obtain ⟨z, _, rfl⟩ := List.mem_map.mp hx
     exact ⟨_, rfl, _, rfl, a, _, _, _, rfl, rfl, hS, ex, kk z H (Same.refl H)⟩
   · refine ⟨_, rfl, (by show 1 ≤ sizeLine; decide), fun l hl => ?_⟩
     have s1 : Same H (upd H l (.lst [.int 0])) := (Same.refl H).upd_free hl
     refine ⟨a, l, _, _, rfl, rfl, s1.seq hS, SqL.of upd_same, ?_, fun p hp => ?_⟩
     · rw [List.length_map]
       exact Nat.le_of_lt (small9 (by show ns.length + 1 ≤ 100000; omega))
     have s2 : Same H (upd (upd H l (.lst [.int 0])) p (.lst (ns.map V.int ++ [.int 0]))) := s1.upd_free (s1.free hp)
     obtain ⟨x, hx, ex⟩ := atI_some (ns.map V.int ++ [V.int 0]) 0 (Int.le_refl 0) (by simp)
     obtain ⟨z, rfl⟩ : ∃ z, x = V.int z := by
       rcases List.mem_append.mp hx with q | q
       · obtain ⟨z, _, e⟩ := List.mem_map.mp q
         exact ⟨z, e.symm⟩
       · exact ⟨0, by simpa using q⟩
     refine ⟨p, _, _, .int z, rfl, rfl, SqL.of upd_same, ex, _, _, rfl, rfl, (by show (0 : Int) < 1000003; decide), _, _, rfl, rfl, _, rfl, _, rfl, _, _, rfl, rfl, .inl ⟨by omega, by omega⟩, _, _, rfl, rfl, _, _, rfl, rfl, .inl ⟨by omega, by omega⟩, _, _, rfl, rfl, (by show (0 : Int) < 2147483647; decide), kk _ _ s2⟩
theorem scPi : FnScope ["_law_cell", "_law_k", "_law_many"] ["_law_cell", "_law_k", "_law_many"] (defScope sPi) := .of (by decide +kernel)
theorem ok_pi {f : Addr} {fd : FuncData} (F : Fun K "_law_pick" "_law_pick" sPi f fd) : FnOk P w K mg base CX0 1 f fd ["_law_cell", "_law_k", "_law_many"] spPi := by
 refine F.ok scPi (fun vs H Q E h => ?_) (fun cdv A outer s H vs Q E hr h => ?_)
 · obtain ⟨c, k, m, rfl, _⟩ := h
   rfl
 · obtain ⟨c, k, m, rfl, k0, k1, hm, kk⟩ := h
   refine ⟨_, pss_one (ps_ret (pe_op op_mod (pe_op op_mod (pe_op op_mul (pe_op op_add (pe_op op_mod (pv 0) pe_int) pe_int) (pe_op op_add (pe_op op_mul (pe_op op_mul (pv 1) (pv 1)) (pv 1)) pe_int)) pe_int) (pv 2))), ?_⟩
   refine ⟨_, rfl, _, _, rfl, rfl, (by show (0 : Int) < 1000003; decide), _, _, rfl, rfl, _, rfl, _, rfl, _, _, rfl, rfl, .inl ⟨by omega, by omega⟩, _, rfl, _, _, rfl, rfl, .inr ⟨by omega, by omega⟩, _, _, rfl, rfl, _, _, rfl, rfl, .inl ⟨by omega, by omega⟩, _, _, rfl, rfl, (by show (0 : Int) < 65537; decide), _, rfl, _, _, rfl, rfl, hm, ?_⟩
   exact kk _ (Int.emod_nonneg _ (by omega)) (Int.emod_lt_of_pos _ hm)
theorem scSi : FnScope ["_law_cell", "_law_many", "_law_signs_here"] ["_law_cell", "_law_many", "_law_signs_here"] (defScope sSi) := .of (by decide +kernel)
def scopeS : Scope := ⟨.function, [(".0", .local), ("_law_k", .local), ("_law_pick", .globalImplicit), ("len", .globalImplicit), ("_law_cell", .free), ("_law_signs_here", .free)], false, false, []⟩
theorem scS : BlkScope (defScope sSi) ["_law_cell", "_law_many", "_law_signs_here"] ["_law_k"] ["_law_cell", "_law_signs_here"] [0, 2] scopeS := .of (by decide +kernel)
theorem ok_si {f fP : Addr} {fd fdP : FuncData} (F : Fun K "_law_signs" "_law_signs" sSi f fd) (T : Txt mg) (FP : Fun K "_law_pick" "_law_pick" sPi fP fdP) (bP : Binds K fdP ["_law_cell", "_law_k", "_law_many"] []) (gP : mg "_law_pick" = some (.ref fP)) :
   FnOk P w K mg base CX0 2 f fd ["_law_cell", "_law_many", "_law_signs_here"] spSi := by
 have GP : FnOk P w K mg base CX0 1 fP fdP ["_law_cell", "_law_k", "_law_many"] spPi := ok_pi FP
 refine F.ok scSi (fun vs H Q E h => ?_) (fun cdv A outer s H vs Q E hr h => ?_)
 · obtain ⟨c, m, z, rfl, _⟩ := h
   rfl
 · obtain ⟨c, m, z, rfl, m0, m1, tz, pz, k⟩ := h
   refine ⟨_, pss_one (ps_ret (pe_bm PySem.F.plainAttrs_str PySem.F.slot_str_join PySem.F.type_str_join mt_join pe_str (pa_cons (pe_lc scS rfl rfl rfl (pi_range1 rfl T.range (pa_cons (pv 1) pa_nil)) (fun fp C s1 H1 => pg_name (i := 0) scS.nd rfl (Or.inl rfl)) (fun fp C s1 H1 => pts_nil)
     (fun fp C s1 H1 => pe_ix (r := rIxS) ix_str (pv 2) (pe_call GP hr rfl gP FP.kp bP .nil pass0 (pa_cons (pv 1) (pa_cons (pe_op op_add pe_int (pv 0)) (pa_cons (pe_callB call_len_str (by rfl) T.len PySem.boot_len (pa_cons (pv 2) pa_nil)) pa_nil)))) (fun _ _ => rfl))) pa_nil))), ?_⟩
   refine ⟨rfl, _, rfl, _, rfl, by omega, by omega, fun D hD => ?_⟩
   refine lc_range (n := m.toNat) (fun j ys H3 => Same H H3 ∧ H3 D = some (.lst ys) ∧ ys.length = j ∧ ∃ cs : List Nat, ys = (cs.map fun c => (⟨#[c]⟩ : Str)).map V.str ∧ ∀ x ∈ cs, x ∈ z.cps.toList) (Nat.le_of_lt (small1000 (by omega)))
     ⟨(Same.refl H).upd_free hD, upd_same, rfl, [], rfl, fun x hx => by simp at hx⟩ (fun j ys H3 h => Nat.le_of_eq h.2.2.1) ?_ ?_
   · rintro j ys H3 N M hj ⟨u1, u2, u3, cs, rfl, u5⟩ hN hM
     refine ⟨_, rfl, _, rfl, _, rfl, _, _, rfl, rfl, _, rfl, z, rfl, len_sm tz (by decide), c, _, _, rfl, by omega, by omega, by omega, fun q q0 q1 => ?_⟩
     obtain ⟨ch, hch, ech⟩ := atI_some z.cps.toList q q0 (by rw [cps_len]; exact q1)
     refine ⟨z, _, ch, rfl, rfl, len_sm tz (by decide), ech, ?_⟩
     refine hN _ H3 u2 ⟨u1.upd_free hD, upd_same, by rw [List.length_append, List.length_singleton, u3], cs ++ [ch], by rw [List.map_append, List.map_append]; rfl, fun x hx => ?_⟩
     rcases List.mem_append.mp hx with hx | hx
     · exact u5 x hx
     · rw [List.mem_singleton] at hx
       subst hx
       exact hch
   · rintro ys H3 ⟨u1, u2, u3, cs, rfl, u5⟩
     rw [List.length_map, List.length_map] at u3
     have q := k cs H3 u3 u5 u1
     rw [← join_ones] at q
     refine ⟨_, D, _, rfl, rfl, SqL.of u2, ?_, q⟩
     have e1 : ((cs.map fun c => (⟨#[c]⟩ : Str)).map (·.length)).sum ≤ (cs.map fun c => (⟨#[c]⟩ : Str)).length * 1 := by
       refine sum_len fun y hy => ?_
       obtain ⟨c', _, rfl⟩ := List.mem_map.mp hy
       exact Nat.le_refl _
     have e0 : (Str.ofString "").length = 0 := rfl
     show ((cs.map fun c => (⟨#[c]⟩ : Str)).map (·.length)).sum + (cs.map fun c => (⟨#[c]⟩ : Str)).length * (Str.ofString "").length ≤ 16777216
     rw [e0]
     rw [List.length_map] at e1 ⊢
     omega
end
end SL
namespace SL
open PySem L2
def Ms (n : Nat) (z : Str) : Prop := z.length = n ∧ madeM MAR z = true
theorem mar_small : ∀ c ∈ MAR.cps.toList, c < 128 := by
 have e : MAR.cps.toList.all (fun c => decide (c < 128)) = true := by decide +kernel
 exact fun c hc => of_decide_eq_true (List.all_eq_true.mp e c hc)
theorem made_mem {S z : Str} (h : madeM S z = true) : ∀ c ∈ z.cps.toList, c ∈ S.cps.toList := fun c hc => of_decide_eq_true (List.all_eq_true.mp h c hc)
theorem made_of_mem {S z : Str} (h : ∀ c ∈ z.cps.toList, c ∈ S.cps.toList) : madeM S z = true := List.all_eq_true.mpr fun c hc => decide_eq_true (h c hc)
theorem Ms.tx {n : Nat} {z : Str} (h : Ms n z) : Tx n z := ⟨Nat.le_of_eq h.1, fun c hc => mar_small c (made_mem h.2 c hc)⟩
theorem made_app {S y z : Str} (h : madeM S y = true) (k : madeM S z = true) : madeM S (y ++ z) = true := made_of_mem fun c hc => by
 rw [app_list] at hc
 exact (List.mem_append.mp hc).elim (made_mem h c) (made_mem k c)
theorem Ms.app {n m : Nat} {y z : Str} (h : Ms n y) (k : Ms m z) : Ms (n + m) (y ++ z) := ⟨by rw [Str.length_append, h.1, k.1], made_app h.2 k.2⟩
theorem Ms.of {A : Str} {cs : List Nat} {n : Nat} (hA : madeM MAR A = true) (hl : cs.length = n) (hin : ∀ c ∈ cs, c ∈ A.cps.toList) : Ms n ⟨cs.toArray⟩ := ⟨hl, made_of_mem fun c hc => made_mem hA c (hin c hc)⟩
theorem Ms.mark {n : Nat} {z : Str} (h : Ms n z) (h1 : 1 ≤ n) (h2 : n ≤ 12) : okMark z := ⟨by rw [h.1]; exact h1, by rw [h.1]; exact h2, h.2⟩
theorem Ms.sl {n : Nat} {y : Str} {i : Int} (h : Ms n y) (h0 : 0 ≤ i) (h1 : i ≤ n) : Ms i.toNat (Txt.slice y none (some i)) ∧ Ms (n - i.toNat) (Txt.slice y (some i) none) := by
 have hl : (y.cps.toList.length : Int) = n := by rw [cps_len, h.1]
 have e1 : Txt.slice y none (some i) = ⟨((y.cps.toList.drop 0).take (i - 0).toNat).toArray⟩ := StrLaws.sliceText_to ⟨h0, by omega⟩
 have e2 : Txt.slice y (some i) none = ⟨((y.cps.toList.drop i.toNat).take ((y.cps.toList.length : Int) - i).toNat).toArray⟩ := StrLaws.sliceText_from ⟨h0, by omega⟩
 rw [e1, e2]
 refine ⟨⟨?_, made_of_mem fun c hc => ?_⟩, ⟨?_, made_of_mem fun c hc => ?_⟩⟩
 · show ((y.cps.toList.drop 0).take (i - 0).toNat).toArray.size = _
   rw [List.size_toArray, List.length_take, List.length_drop]
   omega
 · exact made_mem h.2 c (List.mem_of_mem_drop (List.mem_of_mem_take hc))
 · show ((y.cps.toList.drop i.toNat).take ((y.cps.toList.length : Int) - i).toNat).toArray.size = _
   rw [List.size_toArray, List.length_take, List.length_drop]
   omega
 · exact made_mem h.2 c (List.mem_of_mem_drop (List.mem_of_mem_take hc))
section
variable {P : Program} {w : World} {K : W.Frag} {mg : Str → Option Value} {base : Heap}
theorem scMk : FnScope ["_law_cell", "_law_small", "_law_rare", "_law_more", "_law_at"] ["_law_cell"] (defScope sMk) := .of (by decide +kernel)
theorem app_pos {y z : Str} (h : 0 < y.length) : 0 < (y ++ z).length := by
 rw [Str.length_append]
 omega
theorem ok_mk {f fP fS : Addr} {fd fdP fdS : FuncData} (F : Fun K "_law_mark" "_law_mark" sMk f fd) (T : Txt mg) (FP : Fun K "_law_pick" "_law_pick" sPi fP fdP) (bP : Binds K fdP ["_law_cell", "_law_k", "_law_many"] []) (gP : mg "_law_pick" = some (.ref fP))
   (FS : Fun K "_law_signs" "_law_signs" sSi fS fdS) (bS : Binds K fdS ["_law_cell", "_law_many", "_law_signs_here"] []) (gS : mg "_law_signs" = some (.ref fS)) :
   FnOk P w K mg base CX0 3 f fd ["_law_cell"] spMk := by
 have GP : FnOk P w K mg base CX0 1 fP fdP ["_law_cell", "_law_k", "_law_many"] spPi := ok_pi FP
 have GS : FnOk P w K mg base CX0 2 fS fdS ["_law_cell", "_law_many", "_law_signs_here"] spSi := ok_si FS T FP bP gP
 refine F.ok scMk (fun vs H Q E h => ?_) (fun cdv A outer s H vs Q E hr h => ?_)
 · obtain ⟨c, rfl, _⟩ := h
   rfl
 · obtain ⟨c, rfl, k⟩ := h
   have hr1 : Room 1 _ := hr.mono (by decide)
   refine ⟨_, pss_cons (ps_set (i := 1) scMk.nd rfl (Or.inl rfl) pe_str)
     (pss_cons (ps_set (i := 2) scMk.nd rfl (Or.inl rfl) pe_str)
     (pss_cons (ps_if (pt_cmpR op_eq (pe_op op_mod (pv 0) pe_int) pe_int (nomark _)) (pss_one (ps_ret (pe_op op_add_str pe_str (pe_call GS hr rfl gS FS.kp bS .nil pass0 (pa_cons (pe_op op_fdiv (pv 0) pe_int) (pa_cons (pe_op op_add pe_int (pe_op op_mod (pe_op op_fdiv (pv 0) pe_int) pe_int)) (pa_cons pe_str pa_nil))))))) pss_nil)
     (pss_cons (ps_if (pt_cmpR op_eq (pe_op op_mod (pv 0) pe_int) pe_int (nomark _)) (pss_one (ps_ret (pe_op op_add_str pe_str (pe_call GS hr rfl gS FS.kp bS .nil pass0 (pa_cons (pe_op op_fdiv (pv 0) pe_int) (pa_cons (pe_op op_add pe_int (pe_op op_mod (pe_op op_fdiv (pv 0) pe_int) pe_int)) (pa_cons pe_str pa_nil))))))) pss_nil)
     (pss_cons (ps_if (pt_cmpR op_eq (pe_op op_mod (pv 0) pe_int) pe_int (nomark _)) (pss_one (ps_ret (pe_op op_add_str (pe_op op_add_str pe_str (pe_call GS hr rfl gS FS.kp bS .nil pass0 (pa_cons (pe_op op_fdiv (pv 0) pe_int) (pa_cons (pe_op op_mod (pe_op op_fdiv (pv 0) pe_int) pe_int) (pa_cons (pe_op op_add_str pe_str (pv 1)) pa_nil))))) pe_str))) pss_nil)
     (pss_cons (ps_set (i := 3) scMk.nd rfl (Or.inl rfl) (pe_call GS hr rfl gS FS.kp bS .nil pass0 (pa_cons (pe_op op_fdiv (pv 0) pe_int) (pa_cons (pe_op op_mod (pe_op op_fdiv (pv 0) pe_int) pe_int) (pa_cons (pe_op op_add_str (pe_op op_add_str (pv 1) (pv 2)) pe_str) pa_nil)))))
     (pss_cons (ps_set (i := 4) scMk.nd rfl (Or.inl rfl) (pe_call GP hr1 rfl gP FP.kp bP .nil pass0 (pa_cons (pv 0) (pa_cons pe_int (pa_cons (pe_op op_add (pe_callB call_len_str (by rfl) T.len PySem.boot_len (pa_cons (pv 3) pa_nil)) pe_int) pa_nil)))))
     (pss_one (ps_ret (pe_op op_add_str (pe_op op_add_str (pe_slice sl_str (pv 3) po_none (po_some (pv 4))) (pe_ix ix_str (pv 2) (pe_op op_mod (pe_op op_fdiv (pv 0) pe_int) pe_int) (fun _ _ => rfl))) (pe_slice sl_str (pv 3) (po_some (pv 4)) po_none)))))))))), ?_⟩
   have dig : Tx 10 (Str.ofString "0123456789") := txK (by decide +kernel)
   have sml : Tx 26 (Str.ofString "abcdefghijklmnopqrstuvwxyz") := txK (by decide +kernel)
   have rar : Tx 32 (Str.ofString "ABCDEFGHIJKLMNOPQRSTUVWXYZ.:-_/=") := txK (by decide +kernel)
   have mdig : madeM MAR (Str.ofString "0123456789") = true := by decide +kernel
   have msml : madeM MAR (Str.ofString "abcdefghijklmnopqrstuvwxyz") = true := by decide +kernel
   have mrar : madeM MAR (Str.ofString "ABCDEFGHIJKLMNOPQRSTUVWXYZ.:-_/=") = true := by decide +kernel
   refine ⟨_, rfl, _, _, rfl, rfl, (by show (0 : Int) < 5; decide), rfl, _, rfl, ?_⟩
   refine ifb ?_ ?_
   · refine ⟨_, rfl, _, _, rfl, rfl, ⟨by decide, by decide⟩, _, rfl, _, _, rfl, rfl, ⟨by decide, by decide⟩, _, _, rfl, rfl, (by show (0 : Int) < 11; decide), _, _, rfl, rfl, _, _, _, rfl, by omega, by omega, dig.mono (by decide), by decide +kernel, fun cs H1 hl hin s1 => ?_⟩
     have t1 : Ms 1 (Str.ofString "0") := ⟨rfl, by decide +kernel⟩
     have ty := Ms.of mdig hl hin
     exact ⟨_, _, rfl, rfl, len2_sm t1.tx ty.tx (by omega), k _ _ ((t1.app ty).mark (by omega) (by omega)) s1⟩
   refine ⟨_, rfl, _, _, rfl, rfl, (by show (0 : Int) < 5; decide), rfl, _, rfl, ?_⟩
   refine ifb ?_ ?_
   · refine ⟨_, rfl, _, _, rfl, rfl, ⟨by decide, by decide⟩, _, rfl, _, _, rfl, rfl, ⟨by decide, by decide⟩, _, _, rfl, rfl, (by show (0 : Int) < 3; decide), _, _, rfl, rfl, _, _, _, rfl, by omega, by omega, dig.mono (by decide), by decide +kernel, fun cs H1 hl hin s1 => ?_⟩
     have t1 : Ms 1 (Str.ofString "1") := ⟨rfl, by decide +kernel⟩
     have ty := Ms.of mdig hl hin
     exact ⟨_, _, rfl, rfl, len2_sm t1.tx ty.tx (by omega), k _ _ ((t1.app ty).mark (by omega) (by omega)) s1⟩
   refine ⟨_, rfl, _, _, rfl, rfl, (by show (0 : Int) < 5; decide), rfl, _, rfl, ?_⟩
   refine ifb ?_ ?_
   · refine ⟨_, rfl, _, _, rfl, rfl, ⟨by decide, by decide⟩, _, rfl, _, _, rfl, rfl, ⟨by decide, by decide⟩, _, _, rfl, rfl, (by show (0 : Int) < 11; decide), _, rfl, _, _, rfl, rfl, len2_sm dig sml (by decide), _, _, _, rfl, by omega, by omega, (dig.app sml).mono (by decide), app_pos (by decide +kernel), fun cs H1 hl hin s1 => ?_⟩
     have t1 : Ms 1 (Str.ofString "7") := ⟨rfl, by decide +kernel⟩
     have t2 : Ms 1 (Str.ofString "a") := ⟨rfl, by decide +kernel⟩
     have ty := Ms.of (made_app mdig msml) hl hin
     exact ⟨_, _, rfl, rfl, len2_sm t1.tx ty.tx (by omega), _, _, rfl, rfl, len2_sm (t1.app ty).tx t2.tx (by omega), k _ _ (((t1.app ty).app t2).mark (by omega) (by omega)) s1⟩
   refine ⟨_, rfl, _, _, rfl, rfl, ⟨by decide, by decide⟩, _, rfl, _, _, rfl, rfl, ⟨by decide, by decide⟩, _, _, rfl, rfl, (by show (0 : Int) < 12; decide), _, rfl, _, rfl, _, _, rfl, rfl, len2_sm sml rar (by decide), _, _, rfl, rfl, len2_sm (sml.app rar) dig (by decide), _, _, _, rfl, by omega, by omega, ((sml.app rar).app dig).mono (by decide), app_pos (app_pos (by decide +kernel)), fun cs H1 hl hin s1 => ?_⟩
   have ty := Ms.of (made_app (made_app msml mrar) mdig) hl hin
   have ty' : Tx 12 (⟨cs.toArray⟩ : Str) := ty.tx.mono (by omega)
   refine ⟨_, rfl, _, rfl, _, rfl, len_sm ty' (by decide), _, _, rfl, rfl, c, 7, _, rfl, by decide, by decide, by omega, fun at' a0 a1 => ?_⟩
   refine ⟨_, rfl, _, rfl, _, rfl, _, rfl, len_sm ty' (by decide), ?_⟩
   have a2 : at' < ((⟨cs.toArray⟩ : Str).length : Int) + 1 := a1
   rw [ty.1] at a2
   have sl := ty.sl a0 (by omega)
   have b0 : 0 ≤ c / 60 % 32 := by omega
   have b1 : c / 60 % 32 < 32 := by omega
   have e32 : (Str.ofString "ABCDEFGHIJKLMNOPQRSTUVWXYZ.:-_/=").length = 32 := by decide +kernel
   obtain ⟨ch, hch, ech⟩ := atI_some (Str.ofString "ABCDEFGHIJKLMNOPQRSTUVWXYZ.:-_/=").cps.toList (c / 60 % 32) b0 (by rw [cps_len, e32]; exact b1)
   refine ⟨_, rfl, _, rfl, _, _, rfl, rfl, ⟨by decide, by decide⟩, _, _, rfl, rfl, (by show (0 : Int) < 32; decide), _, _, ch, rfl, rfl, len_sm rar (by decide), ech, ?_⟩
   have tc : Ms 1 (⟨#[ch]⟩ : Str) := Ms.of mrar (cs := [ch]) rfl (fun c hc => by rw [List.mem_singleton] at hc; rw [hc]; exact hch)
   refine ⟨_, _, rfl, rfl, len2_sm sl.1.tx tc.tx (by omega), _, rfl, _, rfl, _, rfl, _, rfl, len_sm ty' (by decide), _, _, rfl, rfl, len2_sm (sl.1.app tc).tx sl.2.tx (by omega), ?_⟩
   exact k _ _ (((sl.1.app tc).app sl.2).mark (by omega) (by omega)) s1
theorem scNa : FnScope ["_law_cell", "_law_small"] ["_law_cell"] (defScope sNa) := .of (by decide +kernel)
theorem ok_na {f fP fS : Addr} {fd fdP fdS : FuncData} (F : Fun K "_law_name" "_law_name" sNa f fd) (T : Txt mg) (FP : Fun K "_law_pick" "_law_pick" sPi fP fdP) (bP : Binds K fdP ["_law_cell", "_law_k", "_law_many"] []) (gP : mg "_law_pick" = some (.ref fP))
   (FS : Fun K "_law_signs" "_law_signs" sSi fS fdS) (bS : Binds K fdS ["_law_cell", "_law_many", "_law_signs_here"] []) (gS : mg "_law_signs" = some (.ref fS)) :
   FnOk P w K mg base CX0 3 f fd ["_law_cell"] spNa := by
 have GS : FnOk P w K mg base CX0 2 fS fdS ["_law_cell", "_law_many", "_law_signs_here"] spSi := ok_si FS T FP bP gP
 refine F.ok scNa (fun vs H Q E h => ?_) (fun cdv A outer s H vs Q E hr h => ?_)
 · obtain ⟨c, rfl, _⟩ := h
   rfl
 · obtain ⟨c, rfl, k⟩ := h
   have dig : Tx 10 (Str.ofString "0123456789") := txK (by decide +kernel)
   have sml : Tx 26 (Str.ofString "abcdefghijklmnopqrstuvwxyz") := txK (by decide +kernel)
   refine ⟨_, pss_cons (ps_set (i := 1) scNa.nd rfl (Or.inl rfl) pe_str)
     (pss_one (ps_ret (pe_op op_add_str (pe_ix ix_str (pv 1) (pe_op op_mod (pv 0) pe_int) (fun _ _ => rfl)) (pe_call GS hr rfl gS FS.kp bS .nil pass0 (pa_cons (pe_op op_fdiv (pv 0) pe_int) (pa_cons (pe_op op_mod (pe_op op_fdiv (pv 0) pe_int) pe_int) (pa_cons (pe_op op_add_str (pv 1) pe_str) pa_nil))))))), ?_⟩
   have b0 : 0 ≤ c % 26 := by omega
   have b1 : c % 26 < 26 := by omega
   have e26 : (Str.ofString "abcdefghijklmnopqrstuvwxyz").length = 26 := by decide +kernel
   obtain ⟨ch, hch, ech⟩ := atI_some (Str.ofString "abcdefghijklmnopqrstuvwxyz").cps.toList (c % 26) b0 (by rw [cps_len, e26]; exact b1)
   refine ⟨_, rfl, _, rfl, _, _, rfl, rfl, (by show (0 : Int) < 26; decide), _, _, ch, rfl, rfl, len_sm sml (by decide), ech, ?_⟩
   refine ⟨_, rfl, _, _, rfl, rfl, ⟨by decide, by decide⟩, _, rfl, _, _, rfl, rfl, ⟨by decide, by decide⟩, _, _, rfl, rfl, (by show (0 : Int) < 12; decide), _, rfl, _, _, rfl, rfl, len2_sm sml dig (by decide), _, _, _, rfl, by omega, by omega, (sml.app dig).mono (by decide), app_pos (by decide +kernel), fun cs H1 hl hin s1 => ?_⟩
   have mdig : madeM NAM (Str.ofString "0123456789") = true := by decide +kernel
   have msml : madeM NAM (Str.ofString "abcdefghijklmnopqrstuvwxyz") = true := by decide +kernel
   have ty : madeM NAM (⟨cs.toArray⟩ : Str) = true := made_of_mem fun c hc => made_mem (made_app msml mdig) c (hin c hc)
   have tc : madeM NAM (⟨#[ch]⟩ : Str) = true := made_of_mem fun c hc => by
     have e : c = ch := by simpa using hc
     rw [e]
     exact made_mem msml ch hch
   have hlen : ((⟨#[ch]⟩ : Str) ++ (⟨cs.toArray⟩ : Str)).length = 1 + cs.length := by
     rw [Str.length_append]
     rfl
   have big : 1000 ≤ sizeLine := by decide
   refine ⟨_, _, rfl, rfl, (by show 1 + cs.length ≤ sizeLine; omega), k _ _ ?_ s1⟩
   unfold isName
   rw [decide_eq_true ⟨by omega, by omega⟩, made_app tc ty, Bool.true_and, Bool.and_true]
   have eh : hd ((⟨#[ch]⟩ : Str) ++ (⟨cs.toArray⟩ : Str)) = ch := by
     unfold hd
     rw [app_list]
     rfl
   rw [eh]
   exact decide_eq_true hch
end
end SL
namespace SL
open PySem L2
theorem nam_mar : ∀ c ∈ NAM.cps.toList, c ∈ MAR.cps.toList := by
 have e : NAM.cps.toList.all (fun c => decide (c ∈ MAR.cps.toList)) = true := by decide +kernel
 exact fun c hc => of_decide_eq_true (List.all_eq_true.mp e c hc)
theorem item_mark {x : Str} (h : isItem x = true) : okMark x := by
 obtain ⟨a, b, c⟩ := item_plain h
 exact ⟨a, b, made_of_mem fun d hd => nam_mar d (made_mem c d hd)⟩
theorem okMark.tx {x : Str} (h : okMark x) : Tx 12 x := ⟨h.2.1, fun c hc => mar_small c (made_mem h.2.2 c hc)⟩
theorem fig_mar : ∀ c : Nat, c < 58 → 48 ≤ c → c ∈ MAR.cps.toList := by decide +kernel
theorem num_mark {m : Int} (h0 : 0 ≤ m) (h1 : m < 10 ^ 10) : okMark (Str.ofString (toString m)) := by
 refine ⟨W.KLn.one_le h0, Nat.le_trans (W.KT.len_num h0 h1) (by decide), made_of_mem fun c hc => ?_⟩
 obtain ⟨k, rfl⟩ := Int.eq_ofNat_of_zero_le h0
 rw [W.KIN.signs_num] at hc
 obtain ⟨ch, hch, e⟩ := List.mem_map.mp hc
 have r := Nat.isDigit_of_mem_toDigits (by decide) (by decide) hch
 unfold Char.isDigit at r
 simp only [Bool.and_eq_true, decide_eq_true_eq] at r
 have r2 : ch.toNat ≤ 57 := r.2
 have r1 : 48 ≤ ch.toNat := r.1
 exact fig_mar c (by omega) (by omega)
theorem num_item : ∀ n : Nat, n < 300 → isItem (Str.ofString (toString (n : Int))) = true := by decide +kernel
theorem num_itemI {m : Int} (h0 : 0 ≤ m) (h1 : m < 300) : isItem (Str.ofString (toString m)) = true := by
 obtain ⟨k, rfl⟩ := Int.eq_ofNat_of_zero_le h0
 exact num_item k (by omega)
section
variable {P : Program} {w : World} {K : W.Frag} {mg : Str → Option Value} {base : Heap}
theorem scWo : FnScope ["_law_sort_here", "_law_cell", "_law_items", "_law_k"] ["_law_sort_here", "_law_cell"] (defScope sWo) := .of (by decide +kernel)
theorem ok_wd {f fP fS fM fN : Addr} {fd fdP fdS fdM fdN : FuncData} (F : Fun K "_law_word" "_law_word" sWo f fd) (T : Txt mg) (FP : Fun K "_law_pick" "_law_pick" sPi fP fdP) (bP : Binds K fdP ["_law_cell", "_law_k", "_law_many"] []) (gP : mg "_law_pick" = some (.ref fP))
   (FS : Fun K "_law_signs" "_law_signs" sSi fS fdS) (bS : Binds K fdS ["_law_cell", "_law_many", "_law_signs_here"] []) (gS : mg "_law_signs" = some (.ref fS))
   (FM : Fun K "_law_mark" "_law_mark" sMk fM fdM) (bM : Binds K fdM ["_law_cell"] []) (gM : mg "_law_mark" = some (.ref fM))
   (FN : Fun K "_law_name" "_law_name" sNa fN fdN) (bN : Binds K fdN ["_law_cell"] []) (gN : mg "_law_name" = some (.ref fN)) :
   FnOk P w K mg base CX0 4 f fd ["_law_sort_here", "_law_cell"] spWd := by
 have GP : FnOk P w K mg base CX0 1 fP fdP ["_law_cell", "_law_k", "_law_many"] spPi := ok_pi FP
 have GM : FnOk P w K mg base CX0 3 fM fdM ["_law_cell"] spMk := ok_mk FM T FP bP gP FS bS gS
 have GN : FnOk P w K mg base CX0 3 fN fdN ["_law_cell"] spNa := ok_na FN T FP bP gP FS bS gS
 refine F.ok scWo (fun vs H Q E h => ?_) (fun cdv A outer s H vs Q E hr h => ?_)
 · obtain ⟨t, c, rfl, _⟩ := h
   rfl
 · obtain ⟨t, c, rfl, k⟩ := h
   have hr1 : Room 1 _ := hr.mono (by decide)
   refine ⟨_, pss_cons (ps_if (pt_cmpR op_eq (pv 0) pe_str (nomark _)) (pss_one (ps_ret (pe_callTy call_str_int (by rfl) T.str PyProof.Rows.boot_str (pa_cons (pe_ix ix_list (pe_lst (pa_cons (pe_op op_mod (pv 1) pe_int) (pa_cons (pe_op op_mod (pv 1) pe_int) (pa_cons pe_int (pa_cons pe_int pa_nil))))) (pe_op op_mod (pe_op op_fdiv (pv 1) pe_int) pe_int) (fun _ _ => rfl)) pa_nil)))) pss_nil)
     (pss_cons (ps_if (pt_cmpR op_eq (pv 0) pe_str (nomark _)) (pss_one (ps_ret (pe_call GN hr rfl gN FN.kp bN .nil pass0 (pa_cons (pv 1) pa_nil)))) pss_nil)
     (pss_cons (ps_if (pt_cmpR op_eq (pv 0) pe_str (nomark _)) (pss_one (ps_ret (pe_call GM hr rfl gM FM.kp bM .nil pass0 (pa_cons (pv 1) pa_nil)))) pss_nil)
     (pss_cons (ps_set (i := 2) scWo.nd rfl (Or.inl rfl) (pe_lst pa_nil))
     (pss_cons (ps_for PassesOwn.never rfl (pi_range1 rfl T.range (pa_cons (pe_op op_mod (pv 1) pe_int) pa_nil)) (pg_name (i := 3) scWo.nd rfl (Or.inl rfl))
       (pss_one (ps_if (pt_cmpR op_eq (pe_call GP hr1 rfl gP FP.kp bP .nil pass0 (pa_cons (pv 1) (pa_cons (pv 3) (pa_cons pe_int pa_nil)))) pe_int (nomark _))
         (pss_one (ps_expr (pe_bm PySem.F.plainAttrs_list PySem.F.slot_list_append PySem.F.type_list_append mt_append (pv 2) (pa_cons (pe_callTy call_str_int (by rfl) T.str PyProof.Rows.boot_str (pa_cons (pe_call GP hr1 rfl gP FP.kp bP .nil pass0 (pa_cons (pv 1) (pa_cons (pe_op op_add pe_int (pv 3)) (pa_cons pe_int pa_nil)))) pa_nil)) pa_nil))))
         (pss_one (ps_expr (pe_bm PySem.F.plainAttrs_list PySem.F.slot_list_append PySem.F.type_list_append mt_append (pv 2) (pa_cons (pe_call GN hr rfl gN FN.kp bN .nil pass0 (pa_cons (pe_op op_add (pe_op op_fdiv (pv 1) pe_int) (pe_op op_mul pe_int (pv 3))) pa_nil)) pa_nil)))))))
     (pss_one (ps_ret (pe_op op_add_str (pe_op op_add_str pe_str (pe_bm PySem.F.plainAttrs_str PySem.F.slot_str_join PySem.F.type_str_join mt_join pe_str (pa_cons (pv 2) pa_nil))) pe_str))))))), ?_⟩
   refine ⟨_, rfl, rfl, _, rfl, ?_⟩
   refine ifb ?_ ?_
   · refine ⟨_, rfl, _, _, rfl, rfl, (by show (0 : Int) < 12; decide), _, rfl, _, _, rfl, rfl, (by show (0 : Int) < 1000000000; decide), (by show 4 ≤ sizeLine; decide), fun l hl => ?_⟩
     have s1 : Same H (upd H l (.lst [.int (c % 12), .int (c % 1000000000), .int 999999999, .int 0])) := (Same.refl H).upd_free hl
     obtain ⟨x, hx, ex⟩ := atI_some [V.int (c % 12), V.int (c % 1000000000), V.int 999999999, V.int 0] (c / 12 % 4) (by omega) (by show c / 12 % 4 < 4; omega)
     obtain ⟨n, rfl, n0, n1⟩ : ∃ n : Int, x = .int n ∧ 0 ≤ n ∧ n < 10 ^ 10 := by
       simp only [List.mem_cons, List.not_mem_nil, or_false] at hx
       rcases hx with rfl | rfl | rfl | rfl
       · exact ⟨_, rfl, by omega, by omega⟩
       · exact ⟨_, rfl, by omega, by omega⟩
       · exact ⟨_, rfl, by decide, by decide⟩
       · exact ⟨_, rfl, by decide, by decide⟩
     refine ⟨_, rfl, _, _, rfl, rfl, ⟨by decide, by decide⟩, _, _, rfl, rfl, (by show (0 : Int) < 4; decide), l, _, _, _, rfl, rfl, SqL.of upd_same, ex, n, rfl, log_ok n0 n1, ?_⟩
     exact k _ _ (.mar (num_mark n0 n1)) s1
   refine ⟨_, rfl, rfl, _, rfl, ?_⟩
   refine ifb ?_ ?_
   · exact ⟨_, rfl, c, rfl, fun y H1 ty s1 => k y H1 (.mar (item_mark (by unfold isItem; rw [ty, Bool.or_true]))) s1⟩
   refine ⟨_, rfl, rfl, _, rfl, ?_⟩
   refine ifb ?_ ?_
   · exact ⟨_, rfl, c, rfl, fun y H1 ty s1 => k y H1 (.mar ty) s1⟩
   refine ⟨Nat.zero_le _, fun l hl => ?_⟩
   refine ⟨_, rfl, _, _, rfl, rfl, (by show (0 : Int) < 5; decide), _, rfl, by omega, by omega, ?_⟩
   refine for_range (n := (c % 5).toNat) (fun i σ H2 => ∃ (zs : List Str) (v : Option V), σ = [some (.str t), some (.int c), some (.ref l), v] ∧ Same H H2 ∧ H2 l = some (.lst (zs.map V.str)) ∧ zs.length ≤ i ∧ ∀ x ∈ zs, isItem x = true)
     ⟨[], none, rfl, (Same.refl H).upd_free hl, upd_same, Nat.le_refl _, fun x hx => by simp at hx⟩ ?_ ?_
   · rintro i σ H2 hi ⟨zs, v, rfl, s2, hL, hlen, hin⟩
     refine ⟨_, rfl, _, rfl, c, _, 2, rfl, by omega, by omega, by decide, fun q q0 q1 => ⟨rfl, _, rfl, ?_⟩⟩
     have put : ∀ (y : Str) (H3 : Hp), isItem y = true → Same H2 H3 → ∃ (zs' : List Str) (v : Option V), [some (.str t), some (.int c), some (.ref l), some (.int (0 + (i : Int)))] = [some (.str t), some (.int c), some (.ref l), v] ∧ Same H (upd H3 l (.lst (zs.map V.str ++ [.str y]))) ∧ (upd H3 l (.lst (zs.map V.str ++ [.str y]))) l = some (.lst (zs'.map V.str)) ∧ zs'.length ≤ i + 1 ∧ ∀ x ∈ zs', isItem x = true := fun y H3 ty s3 => by
       refine ⟨zs ++ [y], _, rfl, (s2.trans s3).upd_free hl, ?_, ?_, fun x hx => ?_⟩
       · rw [upd_same, List.map_append]
         rfl
       · rw [List.length_append, List.length_singleton]
         omega
       · rcases List.mem_append.mp hx with hx | hx
         · exact hin x hx
         · rw [List.mem_singleton] at hx
           subst hx
           exact ty
     have hsm : (zs.map V.str).length < sizeLine := by
       rw [List.length_map]
       exact small1000 (by omega)
     refine ifb ?_ ?_
     · refine ⟨_, rfl, .inl ⟨rfl, _, SqL.of hL⟩, _, rfl, _, rfl, _, _, rfl, rfl, c, _, 300, rfl, by omega, by omega, by decide, fun n n0 n1 => ?_⟩
       refine ⟨n, rfl, log_ok n0 (by omega), l, _, _, rfl, rfl, hL, hsm, ?_⟩
       exact put _ H2 (num_itemI n0 n1) (Same.refl H2)
     · refine ⟨_, rfl, .inl ⟨rfl, _, SqL.of hL⟩, _, rfl, _, _, rfl, rfl, ⟨by decide, by decide⟩, _, rfl, _, _, rfl, rfl, .inl ⟨by decide, by decide⟩, _, _, rfl, rfl, _, rfl, fun y H3 ty s3 => ?_⟩
       refine ⟨l, _, _, rfl, rfl, s3 _ _ hL, hsm, ?_⟩
       exact put y H3 (by unfold isItem; rw [ty, Bool.or_true]) s3
   · rintro σ H2 ⟨zs, v, rfl, s2, hL, hlen, hin⟩
     have tc : Tx 1 (Str.ofString ",") := txK (by decide +kernel)
     have tl : Tx 1 (Str.ofString "[") := txK (by decide +kernel)
     have tr : Tx 1 (Str.ofString "]") := txK (by decide +kernel)
     have hin' : ∀ x ∈ zs, Tx 12 x := fun x hx => (item_mark (hin x hx)).tx
     have h4' : zs.length ≤ 4 := by omega
     have tj := (join_tx (Str.ofString ",") tc hin').mono (m := 58) (by have h4 : zs.length ≤ 4 := (by omega); omega)
     have hs := sum_le hin'
     refine ⟨rfl, _, rfl, _, l, zs, rfl, rfl, SqL.of hL, ?_, ?_⟩
     · have e1 : (Str.ofString ",").length = 1 := by decide +kernel
       show (zs.map (·.length)).sum + zs.length * (Str.ofString ",").length ≤ 16777216
       rw [e1]
       omega
     refine ⟨_, _, rfl, rfl, len2_sm tl tj (by decide), _, _, rfl, rfl, len2_sm (tl.app tj) tr (by decide), ?_⟩
     exact k _ _ (.lis zs h4' hin rfl) s2
end
end SL
namespace SL
open PySem L2
theorem strs_at {K : W.Frag} {H : Hp} : ∀ zs : List Str, DsAt K H (zs.map V.str) (zs.map PyData.str)
 | [] => .nil
 | z :: zs => .cons (.str z) (strs_at zs)
theorem strs_lay {n : Nat} : ∀ zs : List Str, (∀ z ∈ zs, Tx n z) → PyData.canLayAll0 (zs.map PyData.str) = true
 | [], _ => rfl
 | z :: zs, h => by
   rw [List.map_cons, PyData.canLayAll0, strs_lay zs fun x hx => h x (List.mem_cons_of_mem _ hx), (h z List.mem_cons_self).ok]
   rfl
theorem strs_depth : ∀ zs : List Str, PyData.depthAll (zs.map PyData.str) = 0
 | [] => rfl
 | z :: zs => by
   rw [List.map_cons, PyData.depthAll, strs_depth zs]
   rfl
theorem strs_okL {n : Nat} {zs : List Str} (h : ∀ z ∈ zs, Tx n z) : DOk (.list (zs.map PyData.str)) := ⟨strs_lay zs h, by
 rw [PyData.depth, strs_depth]
 decide⟩
theorem strs_okT {n : Nat} {zs : List Str} (h : ∀ z ∈ zs, Tx n z) : DOk (.tuple (zs.map PyData.str)) := ⟨strs_lay zs h, by
 rw [PyData.depth, strs_depth]
 decide⟩
theorem nil_ok : DOk (.list []) := ⟨rfl, by decide⟩
def RowsAt (H : Hp) (qs : List Addr) (rows : List (List Str)) : Prop := qs.length = rows.length ∧ ∀ (i : Nat) (r : List Str), rows[i]? = some r → ∃ q, qs[i]? = some q ∧ H q = some (.tup (r.map V.str)) ∧ (r.length ≤ 8 ∧ ∀ z ∈ r, Tx 60 z)
theorem RowsAt.tsame {H H' : Hp} {qs : List Addr} {rows : List (List Str)} (h : RowsAt H qs rows) (s : TSame H H') : RowsAt H' qs rows := ⟨h.1, fun i r e => by
 obtain ⟨q, h1, h2, h3⟩ := h.2 i r e
 exact ⟨q, h1, s _ _ h2, h3⟩⟩
theorem RowsAt.nil {H : Hp} : RowsAt H [] [] := ⟨rfl, fun i r e => by simp at e⟩
theorem RowsAt.snoc {H : Hp} {qs : List Addr} {rows : List (List Str)} {r : List Str} {q : Addr} (h : RowsAt H qs rows) (h1 : H q = some (.tup (r.map V.str))) (h2 : r.length ≤ 8 ∧ ∀ z ∈ r, Tx 60 z) : RowsAt H (qs ++ [q]) (rows ++ [r]) := by
 refine ⟨by rw [List.length_append, List.length_append, h.1]; rfl, fun i x ex => ?_⟩
 by_cases hlt : i < rows.length
 · rw [List.getElem?_append_left hlt] at ex
   obtain ⟨q', g1, g2, g3⟩ := h.2 i x ex
   exact ⟨q', by rw [List.getElem?_append_left (by rw [h.1]; exact hlt)]; exact g1, g2, g3⟩
 · rw [List.getElem?_append_right (by omega)] at ex
   have hi : i - rows.length = 0 := by
     cases g : i - rows.length with
     | zero => rfl
     | succ n => rw [g] at ex; simp at ex
   rw [hi] at ex
   cases ex
   refine ⟨q, ?_, h1, h2⟩
   have : i = qs.length := by rw [h.1]; omega
   rw [this, List.getElem?_append_right (Nat.le_refl _), Nat.sub_self]
   rfl
theorem RowsAt.take {H : Hp} {qs : List Addr} {rows : List (List Str)} (h : RowsAt H qs rows) (n : Nat) : RowsAt H (qs.take n) (rows.take n) := by
 refine ⟨by rw [List.length_take, List.length_take, h.1], fun i r e => ?_⟩
 rw [List.getElem?_take] at e
 by_cases hi : i < n
 · rw [if_pos hi] at e
   obtain ⟨q, g1, g2⟩ := h.2 i r e
   exact ⟨q, by rw [List.getElem?_take, if_pos hi]; exact g1, g2⟩
 · rw [if_neg hi] at e
   cases e
def dRow (r : List Str) : PyData := .tuple (r.map PyData.str)
theorem rows_data {K : W.Frag} {H : Hp} : ∀ (rows : List (List Str)) (qs : List Addr), RowsAt H qs rows → DsAt K H (qs.map V.ref) (rows.map dRow) ∧ PyData.canLayAll0 (rows.map dRow) = true
 | [], [], _ => ⟨.nil, rfl⟩
 | [], _ :: _, h => by have := h.1; simp at this
 | _ :: _, [], h => by have := h.1; simp at this
 | r :: rows, q :: qs, h => by
   obtain ⟨q', g1, g2, g3⟩ := h.2 0 r rfl
   cases g1
   have ih := rows_data (K := K) rows qs ⟨by simpa using h.1, fun i x ex => by
     obtain ⟨q', g1, g2⟩ := h.2 (i + 1) x (by simpa using ex)
     exact ⟨q', by simpa using g1, g2⟩⟩
   refine ⟨.cons (.tup (SqT.of g2) (strs_at r)) ih.1, ?_⟩
   rw [List.map_cons, PyData.canLayAll0, ih.2]
   have e : (dRow r).canLay0 = true := strs_lay r g3.2
   rw [e]
   rfl
theorem strs_eqv : ∀ a b : List Str, PyData.eqvAll (a.map PyData.str) (b.map PyData.str) = decide (a = b)
 | [], [] => rfl
 | [], _ :: _ => by simp [PyData.eqvAll]
 | _ :: _, [] => by simp [PyData.eqvAll]
 | x :: a, y :: b => by
   rw [List.map_cons, List.map_cons, PyData.eqvAll, strs_eqv a b]
   have e : PyData.eqv (.str x) (.str y) = decide (x = y) := by
     rw [PyData.eqv]
     by_cases h : x = y
     · subst h; simp
     · simp [h]
   rw [e]
   by_cases h1 : x = y
   · by_cases h2 : a = b
     · simp [h1, h2]
     · simp [h1, h2]
   · simp [h1]
theorem row_eqv (a b : List Str) : PyData.eqv (dRow a) (dRow b) = decide (a = b) := by
 unfold dRow
 rw [PyData.eqv]
 exact strs_eqv a b
theorem any_row (r : List Str) : ∀ rows : List (List Str), ((rows.map dRow).any fun d => PyData.eqv d (dRow r)) = decide (r ∈ rows)
 | [] => by simp
 | x :: rows => by
   rw [List.map_cons, List.any_cons, any_row r rows, row_eqv]
   by_cases h1 : x = r
   · subst h1; simp
   · have h1' : ¬ r = x := fun z => h1 z.symm
     simp [h1, h1']
theorem row_ok {r : List Str} (h : ∀ z ∈ r, Tx 60 z) : DOk (dRow r) := strs_okT h
theorem cut_take (xs : List V) (k : Nat) : cutV xs none (some (k : Int)) = xs.take k := by
 unfold cutV
 rw [HT.sIx_none, HT.sIx_nat, List.drop_zero, Nat.sub_zero]
 by_cases h : k ≤ xs.length
 · rw [Nat.min_eq_left h]
 · rw [Nat.min_eq_right (by omega), List.take_of_length_le (Nat.le_refl _), List.take_of_length_le (by omega)]
theorem row_get {H : Hp} {qs : List Addr} {rows : List (List Str)} (h : RowsAt H qs rows) {i : Nat} (hi : i < rows.length) : ∃ r q, rows[i]? = some r ∧ qs[i]? = some q ∧ H q = some (.tup (r.map V.str)) ∧ (r.length ≤ 8 ∧ ∀ z ∈ r, Tx 60 z) := by
 obtain ⟨q, g⟩ := h.2 i rows[i] (by simp [hi])
 exact ⟨rows[i], q, by simp [hi], g⟩
def sg (c : Nat) : Str := ⟨#[c]⟩
theorem eqvL_strs (zs : List Str) : PyData.eqv (.list (zs.map PyData.str)) (.list []) = decide (zs = []) := by
 cases zs with
 | nil => rfl
 | cons n zs => rfl
theorem sg_tx {l : List Nat} (h : ∀ c ∈ l, c < 128) : ∀ z ∈ l.map sg, Tx 1 z := fun z hz => by
 obtain ⟨c, hc, rfl⟩ := List.mem_map.mp hz
 exact Tx.one (h c hc)
def spLs : Sp := fun vs H Q _ => ∃ z : Str, vs = [.str z] ∧ Wd z ∧ ∀ H', Same H H' → Q (.str (lawS z).str) H'
end SL
namespace SL
open PySem L2
theorem Wd.tx {z : Str} (h : Wd z) : Tx 60 z ∧ 1 ≤ z.length := by
 cases h with
 | mar h => exact ⟨h.tx.mono (by decide), h.1⟩
 | lis xs h hi e =>
   subst e
   have tc : Tx 1 (Str.ofString ",") := txK (by decide +kernel)
   have tl : Tx 1 (Str.ofString "[") := txK (by decide +kernel)
   have tr : Tx 1 (Str.ofString "]") := txK (by decide +kernel)
   have hin' : ∀ x ∈ xs, Tx 12 x := fun x hx => (item_mark (hi x hx)).tx
   have tj := (join_tx (Str.ofString ",") tc hin').mono (m := 52) (by omega)
   have := lis_len xs
   exact ⟨((tl.app tj).app tr).mono (by decide), by omega⟩
theorem lawS_of {z : Str} (h0 : ¬ (⟨#[hd z]⟩ : Str) = Str.ofString "[") : lawS z = if numS z then .num else if namS z then .nam else .mar := if_neg h0
theorem made_nil (z : Str) : madeM FIG z = decide (((z.cps.toList.filter fun c => !hasC FIG c).map sg) = []) := by
 rw [Bool.eq_iff_iff, decide_eq_true_iff, List.map_eq_nil_iff, List.filter_eq_nil_iff]
 unfold madeM
 rw [List.all_eq_true]
 exact ⟨fun h c hc => by rw [h c hc]; decide, fun h c hc => by
   cases q : hasC FIG c with
   | true => rfl
   | false => exact absurd (by rw [q]; rfl) (h c hc)⟩
theorem all_nil (S : Str) (l : List Nat) : l.all (hasC S) = decide (((l.filter fun c => !hasC S c).map sg) = []) := by
 rw [Bool.eq_iff_iff, decide_eq_true_iff, List.map_eq_nil_iff, List.filter_eq_nil_iff, List.all_eq_true]
 exact ⟨fun h c hc => by rw [h c hc]; decide, fun h c hc => by
   cases q : hasC S c with
   | true => rfl
   | false => exact absurd (by rw [q]; rfl) (h c hc)⟩
section
variable {P : Program} {w : World} {K : W.Frag} {mg : Str → Option Value} {base : Heap}
theorem scLs : FnScope ["_law_word_here", "_law_signs_here", "_law_small"] ["_law_word_here"] (defScope sLs) := .of (by decide +kernel)
def scopeO1 : Scope := ⟨.function, [(".0", .local), ("_law_sign", .local)], false, false, []⟩
def scopeO2 : Scope := ⟨.function, [(".0", .local), ("_law_sign", .local), ("_law_small", .free)], false, false, []⟩
theorem scO1 : BlkScope (defScope sLs) ["_law_word_here", "_law_signs_here", "_law_small"] ["_law_sign"] [] [] scopeO1 := .of (by decide +kernel)
theorem scO2 : BlkScope (defScope sLs) ["_law_word_here", "_law_signs_here", "_law_small"] ["_law_sign"] ["_law_small"] [2] scopeO2 := .of (by decide +kernel)
theorem ok_ls {f : Addr} {fd : FuncData} (F : Fun K "_law_sort" "_law_sort" sLs f fd) (T : Txt mg) : FnOk P w K mg base CX0 1 f fd ["_law_word_here"] spLs := by
 refine F.ok scLs (fun vs H Q E h => ?_) (fun cdv A outer s H vs Q E hr h => ?_)
 · obtain ⟨z, rfl, _⟩ := h
   rfl
 · obtain ⟨z, rfl, wz, k⟩ := h
   obtain ⟨tz, pz⟩ := wz.tx
   have hu := hr.units
   have hzl := len_sm tz (by decide)
   refine ⟨_, pss_cons (ps_if (pt_cmpR op_eq (pe_ix ix_str (pv 0) pe_int (fun _ _ => rfl)) pe_str (nomark _)) (pss_one (ps_ret pe_str)) pss_nil)
     (pss_cons (ps_setlc (i := 1) scO1 rfl rfl rfl (pi_str (pv 0)) (fun fp C s1 H1 => pg_name (i := 0) scO1.nd rfl (Or.inl rfl)) (fun fp C s1 H1 => pts_one (pt_cmpR op_notIn_str (pv 0) pe_str (by with_unfolding_all rfl))) (fun fp C s1 H1 => pv 0) scLs.nd rfl rfl rfl)
     (pss_cons (ps_cut (ps_if (PW.pt (pw_and (pt_cmpR (op_eqD hu) (pv 1) (pe_lst pa_nil) (nomark _)) (pw_and (pt_cmpR op_lt (pe_callB call_len_str (by rfl) T.len PySem.boot_len (pa_cons (pv 0) pa_nil)) pe_int (nomark _)) (pw_and1 (PW.pt (pw_or (pt_cmpR op_eq (pv 0) pe_str (nomark _)) (pw_or1 (pt_cmpR op_ne (pe_ix ix_str (pv 0) pe_int (fun _ _ => rfl)) pe_str (nomark _))))))))) (pss_one (ps_ret pe_str)) pss_nil))
     (pss_cons (ps_set (i := 2) scLs.nd rfl (Or.inr rfl) pe_str)
     (pss_cons (ps_cut (ps_if (PW.pt (pw_and (pt_cmpR op_in_str (pe_ix ix_str (pv 0) pe_int (fun _ _ => rfl)) (pv 2) (by with_unfolding_all rfl)) (pw_and1 (pt_cmpR (op_eqD hu) (pe_lc scO2 rfl rfl rfl (pi_list (pv 1)) (fun fp C s1 H1 => pg_name (i := 0) scO2.nd rfl (Or.inl rfl)) (fun fp C s1 H1 => pts_one (pt_cmpR op_notIn_str (pv 0) (pv 1) (by with_unfolding_all rfl))) (fun fp C s1 H1 => pv 0)) (pe_lst pa_nil) (nomark _))))) (pss_one (ps_ret pe_str)) pss_nil))
     (pss_one (ps_ret pe_str)))))), ?_⟩
   refine ⟨_, rfl, z, _, hd z, rfl, rfl, hzl, at0 pz, rfl, _, rfl, ?_⟩
   by_cases h0 : (⟨#[hd z]⟩ : Str) = Str.ofString "["
   · refine iteTK (decide_eq_true (by rw [h0])) ?_
     have q := k H (Same.refl H)
     rw [show lawS z = .lis from if_pos h0] at q
     exact q
   refine iteFK (decide_eq_false (fun q => h0 (by injection q))) ?_
   have hL := lawS_of h0
   refine ⟨_, rfl, z, 60, rfl, tz, fun D hD => ?_⟩
   have small : ∀ l : List Nat, (∀ c ∈ l, c ∈ z.cps.toList) → ∀ x ∈ l.map sg, Tx 1 x := fun l hl => sg_tx fun c hc => tz.2 c (hl c hc)
   refine lc_str (z := z) (fun j ys H3 => Same H H3 ∧ H3 D = some (.lst ys) ∧ ys = (((z.cps.toList.take j).filter fun c => !hasC FIG c).map sg).map V.str) hzl ⟨(Same.refl H).upd_free hD, upd_same, by simp⟩ (fun j ys H3 h => ?_) ?_ ?_
   · rw [h.2.2, List.length_map, List.length_map]
     refine Nat.le_trans (List.length_filter_le _ _) ?_
     rw [List.length_take]
     exact Nat.min_le_left _ _
   · rintro j ys H3 c N M hc ⟨u1, u2, rfl⟩ hN hM
     have hc' : z.cps.toList[j]? = some c := by simpa using hc
     refine ⟨_, rfl, _, _, rfl, rfl, !hasC FIG c, by rw [StrLaws.found_one]; rfl, ?_⟩
     cases hf : hasC FIG c with
     | false =>
       refine iteT ⟨_, rfl, hN _ H3 u2 ⟨u1.upd_free hD, upd_same, ?_⟩⟩
       rw [List.take_add_one, hc', List.filter_append, List.map_append, List.map_append]
       simp [hf, sg]
     | true =>
       refine iteF (hM H3 ⟨u1, u2, ?_⟩)
       rw [List.take_add_one, hc', List.filter_append, List.map_append, List.map_append]
       simp [hf]
   rintro ys H3 ⟨u1, u2, rfl⟩
   rw [← cps_len, List.take_length] at u2
   have hss := small (z.cps.toList.filter fun c => !hasC FIG c) fun c hc => (List.mem_filter.mp hc).1
   have hflen : (z.cps.toList.filter fun c => !hasC FIG c).length ≤ 60 := Nat.le_trans (List.length_filter_le _ _) (by rw [cps_len]; exact tz.1)
   have hmade := made_nil z
   have hall := all_nil SMA (z.cps.toList.filter fun c => !hasC FIG c)
   have hsub : ∀ c ∈ (z.cps.toList.filter fun c => !hasC FIG c), c ∈ z.cps.toList := fun c hc => (List.mem_filter.mp hc).1
   have enm : numS z = (decide (((z.cps.toList.filter fun c => !hasC FIG c).map sg) = []) && (decide (z.length < 10) && (decide (z = Str.ofString "0") || !decide ((⟨#[hd z]⟩ : Str) = Str.ofString "0")))) := by
     unfold numS
     rw [hmade]
   have enn : namS z = (hasC SMA (hd z) && (z.cps.toList.filter fun c => !hasC FIG c).all (hasC SMA)) := rfl
   generalize (z.cps.toList.filter fun c => !hasC FIG c) = fl at u2 hss hflen enm enn hall hsub
   -- a number
   refine ⟨fun σ' H' => σ' = [some (.str z), some (.ref D), none] ∧ Same H H' ∧ H' D = some (.lst ((fl.map sg).map V.str)) ∧ numS z = false, ?_, ?_⟩
   · refine ⟨_, rfl, Nat.zero_le _, fun l hl => ?_⟩
     have s1 : Same H3 (upd H3 l (.lst [])) := (Same.refl H3).upd_free hl
     have fin : numS z = false → [some (V.str z), some (.ref D), none] = [some (V.str z), some (.ref D), (none : Option V)] ∧ Same H (upd H3 l (.lst [])) ∧ (upd H3 l (.lst [])) D = some (.lst ((fl.map sg).map V.str)) ∧ numS z = false := fun e => ⟨rfl, u1.trans s1, s1 _ _ u2, e⟩
     have yes : numS z = true → Q (.str (Str.ofString "number")) (upd H3 l (.lst [])) := fun e => by
       have q := k _ (u1.trans s1)
       rw [hL, e] at q
       exact q
     refine ⟨_, _, .lst (SqL.of (s1 _ _ u2)) (strs_at _), .lst (SqL.of upd_same) .nil, strs_okL hss, nil_ok, decide (fl.map sg = []), by rw [← eqvL_strs]; rfl, ?_⟩
     by_cases e1 : fl.map sg = []
     · rw [decide_eq_true e1] at enm ⊢
       refine iteT ?_
       refine ⟨_, rfl, z, rfl, hzl, _, _, rfl, rfl, decide (z.length < 10), by (show V.bl (decide ((z.length : Int) < 10)) = _); rw [show decide ((z.length : Int) < 10) = decide (z.length < 10) from decide_eq_decide.mpr (by omega)], ?_⟩
       by_cases e2 : z.length < 10
       · rw [decide_eq_true e2] at enm ⊢
         refine iteT ?_
         refine ⟨_, rfl, rfl, decide (z = Str.ofString "0"), by congr 1; exact decide_eq_decide.mpr ⟨fun q => by injection q, fun q => by rw [q]⟩, ?_⟩
         by_cases e3 : z = Str.ofString "0"
         · rw [decide_eq_true e3] at enm ⊢
           exact iteT (iteT (yes (by rw [enm]; rfl)))
         · rw [decide_eq_false e3] at enm ⊢
           refine iteF ?_
           refine ⟨_, rfl, z, _, hd z, rfl, rfl, hzl, at0 pz, rfl, !decide ((⟨#[hd z]⟩ : Str) = Str.ofString "0"), by congr 2; exact decide_eq_decide.mpr ⟨fun q => by injection q, fun q => by rw [q]⟩, ?_⟩
           by_cases e4 : (⟨#[hd z]⟩ : Str) = Str.ofString "0"
           · rw [decide_eq_true e4] at enm ⊢
             exact iteF (fin (by rw [enm]; rfl))
           · rw [decide_eq_false e4] at enm ⊢
             exact iteT (yes (by rw [enm]; rfl))
       · rw [decide_eq_false e2] at enm ⊢
         exact iteF (iteF (fin (by rw [enm]; rfl)))
     · rw [decide_eq_false e1] at enm ⊢
       exact iteF (iteF (fin (by rw [enm]; rfl)))
   rintro σ' H4 ⟨rfl, s4, hD4, en0⟩
   -- a name
   refine ⟨fun σ' H' => Same H H' ∧ namS z = false, ?_, ?_⟩
   · have yes : ∀ H', Same H H' → namS z = true → Q (.str (Str.ofString "name")) H' := fun H' s' e => by
       have q := k _ s'
       rw [hL, en0, e] at q
       exact q
     refine ⟨_, rfl, z, _, hd z, rfl, rfl, hzl, at0 pz, _, rfl, _, _, rfl, rfl, hasC SMA (hd z), by rw [StrLaws.found_one]; rfl, ?_⟩
     cases e1 : hasC SMA (hd z) with
     | false =>
       rw [e1] at enn
       exact iteF (iteF ⟨s4, enn⟩)
     | true =>
       rw [e1] at enn
       refine iteT ?_
       refine ⟨_, rfl, D, rfl, ⟨_, SqL.of hD4⟩, fun D2 hD2 => ?_⟩
       refine lc_list (K := K) (a := D) (xs := (fl.map sg).map V.str) (fun j ys H5 => Same H4 H5 ∧ H5 D2 = some (.lst ys) ∧ ys = (((fl.take j).filter fun c => !hasC SMA c).map sg).map V.str) (Nat.le_of_lt (small1000 (by rw [List.length_map, List.length_map]; omega))) ⟨(Same.refl H4).upd_free hD2, upd_same, by simp⟩ (fun j ys H5 h => ?_) (fun j ys H5 h => SqL.of (h.1 _ _ hD4)) ?_ ?_
       · rw [h.2.2, List.length_map, List.length_map]
         refine Nat.le_trans (List.length_filter_le _ _) ?_
         rw [List.length_take]
         exact Nat.min_le_left _ _
       · rintro j ys H5 x N M hx ⟨v1, v2, rfl⟩ hN hM
         rw [List.getElem?_map, List.getElem?_map] at hx
         cases el : fl[j]? with
         | none => rw [el] at hx; cases hx
         | some c =>
           rw [el] at hx
           cases hx
           refine ⟨_, rfl, _, rfl, _, _, rfl, rfl, !hasC SMA c, by unfold sg; rw [StrLaws.found_one]; rfl, ?_⟩
           cases hf : hasC SMA c with
           | false =>
             refine iteT ⟨_, rfl, hN _ H5 v2 ⟨v1.upd_free hD2, upd_same, ?_⟩⟩
             rw [List.take_add_one, el, List.filter_append, List.map_append, List.map_append]
             simp [hf]
           | true =>
             refine iteF (hM H5 ⟨v1, v2, ?_⟩)
             rw [List.take_add_one, el, List.filter_append, List.map_append, List.map_append]
             simp [hf]
       rintro ys H5 ⟨v1, v2, rfl⟩
       rw [List.length_map, List.length_map, List.take_of_length_le (Nat.le_refl _)] at v2
       refine ⟨Nat.zero_le _, fun l hl => ?_⟩
       have s1 : Same H5 (upd H5 l (.lst [])) := (Same.refl H5).upd_free hl
       have hss2 := small (fl.filter fun c => !hasC SMA c) fun c hc => hsub c (List.mem_filter.mp hc).1
       refine ⟨_, _, .lst (SqL.of (s1 _ _ v2)) (strs_at _), .lst (SqL.of upd_same) .nil, strs_okL hss2, nil_ok, decide ((fl.filter fun c => !hasC SMA c).map sg = []), by rw [← eqvL_strs]; rfl, ?_⟩
       rw [hall] at enn
       by_cases e2 : (fl.filter fun c => !hasC SMA c).map sg = []
       · rw [decide_eq_true e2] at enn ⊢
         exact iteT (yes _ ((s4.trans v1).trans s1) enn)
       · rw [decide_eq_false e2] at enn ⊢
         exact iteF ⟨(s4.trans v1).trans s1, enn⟩
   rintro σ' H5 ⟨s5, en1⟩
   have q := k H5 s5
   rw [hL, en0, en1] at q
   exact q
end
end SL
namespace SL
open PySem L2
def RowOk (zs : List Str) : Prop := 1 ≤ zs.length ∧ zs.length ≤ 8 ∧ ∀ z ∈ zs, Wd z
def spTu : Sp := fun vs H Q _ => ∃ (a : Addr) (c t : Int) (zs : List Str), vs = [.ref a, .int c, .int t] ∧ H a = some (.tup (zs.map V.str)) ∧ RowOk zs ∧ ∀ (p : Addr) (ys : List Str) (H' : Hp), Same H H' → H' p = some (.tup (ys.map V.str)) → RowOk ys → Q (.ref p) H'
theorem ixN_in {n : Nat} {i : Int} (h0 : 0 ≤ i) (h1 : i < (n : Int)) : ixN n i = some i.toNat := by
 unfold ixN
 rw [if_pos h0, if_pos h1]
theorem set_map (zs : List Str) (j : Nat) (y : Str) : (zs.map V.str).set j (.str y) = (zs.set j y).map V.str := by
 rw [List.map_set]
section
variable {P : Program} {w : World} {K : W.Frag} {mg : Str → Option Value} {base : Heap}
theorem scTu : FnScope ["_law_row", "_law_cell", "_law_salt", "_law_turn", "_law_at", "_law_sort_here", "_law_number"] ["_law_row", "_law_cell", "_law_salt"] (defScope sTu) := .of (by decide +kernel)
theorem ok_tu {f fP fO fW : Addr} {fd fdP fdO fdW : FuncData} (F : Fun K "_law_turned" "_law_turned" sTu f fd) (T : Txt mg) (FP : Fun K "_law_pick" "_law_pick" sPi fP fdP) (bP : Binds K fdP ["_law_cell", "_law_k", "_law_many"] []) (gP : mg "_law_pick" = some (.ref fP))
   (FO : Fun K "_law_sort" "_law_sort" sLs fO fdO) (bO : Binds K fdO ["_law_word_here"] []) (gO : mg "_law_sort" = some (.ref fO))
   (FW : Fun K "_law_word" "_law_word" sWo fW fdW) (bW : Binds K fdW ["_law_sort_here", "_law_cell"] []) (gW : mg "_law_word" = some (.ref fW)) (GW : FnOk P w K mg base CX0 4 fW fdW ["_law_sort_here", "_law_cell"] spWd) :
   FnOk P w K mg base CX0 5 f fd ["_law_row", "_law_cell", "_law_salt"] spTu := by
 have GP : FnOk P w K mg base CX0 1 fP fdP ["_law_cell", "_law_k", "_law_many"] spPi := ok_pi FP
 have GO : FnOk P w K mg base CX0 1 fO fdO ["_law_word_here"] spLs := ok_ls FO T
 refine F.ok scTu (fun vs H Q E h => ?_) (fun cdv A outer s H vs Q E hr h => ?_)
 · obtain ⟨a, c, t, zs, rfl, _⟩ := h
   rfl
 · obtain ⟨a, c, t, zs, rfl, ha, hR, k⟩ := h
   have hr1 : Room 1 _ := hr.mono (by decide)
   refine ⟨_, pss_cons (ps_set (i := 0) scTu.nd rfl (Or.inl rfl) (pe_callTy call_list_of (by rfl) T.list PyProof.Rows.boot_list (pa_cons (pv 0) pa_nil)))
     (pss_cons (ps_for PassesOwn.never rfl (pi_range1 rfl T.range (pa_cons (pe_ix ix_list (pe_lst (pa_cons pe_int (pa_cons pe_int (pa_cons pe_int (pa_cons pe_int (pa_cons pe_int (pa_cons pe_int (pa_cons pe_int (pa_cons pe_int pa_nil))))))))) (pe_call GP hr1 rfl gP FP.kp bP .nil pass0 (pa_cons (pv 1) (pa_cons pe_int (pa_cons pe_int pa_nil)))) (fun _ _ => rfl)) pa_nil)) (pg_name (i := 3) scTu.nd rfl (Or.inl rfl))
       (pss_cons (ps_set (i := 4) scTu.nd rfl (Or.inl rfl) (pe_call GP hr1 rfl gP FP.kp bP .nil pass0 (pa_cons (pv 1) (pa_cons (pe_op op_add pe_int (pv 3)) (pa_cons (pe_callB call_len_seq (by rfl) T.len PySem.boot_len (pa_cons (pv 0) pa_nil)) pa_nil)))))
       (pss_cons (ps_set (i := 5) scTu.nd rfl (Or.inl rfl) (pe_call GO hr1 rfl gO FO.kp bO .nil pass0 (pa_cons (pe_ix ix_list (pv 0) (pv 4) (fun _ _ => rfl)) pa_nil)))
       (pss_cons (ps_cut (ps_if (pt_cmpR op_eq (pe_call GP hr1 rfl gP FP.kp bP .nil pass0 (pa_cons (pv 1) (pa_cons (pe_op op_add pe_int (pv 3)) (pa_cons pe_int pa_nil)))) pe_int (nomark _))
           (pss_one (ps_set (i := 5) scTu.nd rfl (Or.inl rfl) (pe_ix ix_list (pe_lst (pa_cons pe_str (pa_cons pe_str (pa_cons pe_str (pa_cons pe_str pa_nil))))) (pe_call GP hr1 rfl gP FP.kp bP .nil pass0 (pa_cons (pv 1) (pa_cons (pe_op op_add pe_int (pv 3)) (pa_cons pe_int pa_nil)))) (fun _ _ => rfl)))) pss_nil))
       (pss_cons (ps_set (i := 6) scTu.nd rfl (Or.inl rfl) (pe_op op_add (pe_op op_add (pv 2) (pe_op op_mul pe_int (pv 4))) (pe_op op_mul pe_int (pe_call GP hr1 rfl gP FP.kp bP .nil pass0 (pa_cons (pv 1) (pa_cons (pe_op op_add pe_int (pv 3)) (pa_cons pe_int pa_nil)))))))
       (pss_cons (ps_cut (ps_if (pt_cmpR op_eq (pe_call GP hr1 rfl gP FP.kp bP .nil pass0 (pa_cons (pv 1) (pa_cons (pe_op op_add pe_int (pv 3)) (pa_cons pe_int pa_nil)))) pe_int (nomark _))
           (pss_one (ps_set (i := 6) scTu.nd rfl (Or.inl rfl) (pe_op op_add (pe_op op_fdiv (pv 1) pe_int) (pv 3)))) pss_nil))
       (pss_one (ps_asg (pe_call GW hr rfl gW FW.kp bW .nil pass0 (pa_cons (pv 5) (pa_cons (pv 6) pa_nil))) (pg_sub (pv 0) (pv 4) set_list)))))))))
     (pss_cons (ps_cut (ps_if (PW.pt (pw_and (pt_cmpR op_eq (pe_call GP hr1 rfl gP FP.kp bP .nil pass0 (pa_cons (pv 1) (pa_cons pe_int (pa_cons pe_int pa_nil)))) pe_int (nomark _)) (pw_and1 (pt_cmpR op_lt (pe_callB call_len_seq (by rfl) T.len PySem.boot_len (pa_cons (pv 0) pa_nil)) pe_int (nomark _)))))
         (pss_one (ps_expr (pe_bm PySem.F.plainAttrs_list PySem.F.slot_list_append PySem.F.type_list_append mt_append (pv 0) (pa_cons (pe_call GW hr rfl gW FW.kp bW .nil pass0 (pa_cons pe_str (pa_cons (pv 2) pa_nil))) pa_nil)))) pss_nil))
     (pss_cons (ps_cut (ps_if (PW.pt (pw_and (pt_cmpR op_eq (pe_call GP hr1 rfl gP FP.kp bP .nil pass0 (pa_cons (pv 1) (pa_cons pe_int (pa_cons pe_int pa_nil)))) pe_int (nomark _)) (pw_and1 (pt_cmpR op_gt (pe_callB call_len_seq (by rfl) T.len PySem.boot_len (pa_cons (pv 0) pa_nil)) pe_int (nomark _)))))
         (pss_one (ps_expr (pe_bm0 PySem.F.plainAttrs_list PySem.F.slot_list_pop PySem.F.type_list_pop mt_pop (pv 0)))) pss_nil))
     (pss_one (ps_ret (pe_callTy call_tuple_of (by rfl) T.tuple PyProof.Rows.boot_tuple (pa_cons (pv 0) pa_nil))))))), ?_⟩
   refine ⟨_, rfl, a, _, rfl, .inr (SqT.of ha), fun l hl => ?_⟩
   -- how many turns
   refine ⟨(by show 8 ≤ sizeLine; decide), fun l8 hl8 => ?_⟩
   have s0 : Same H (upd H l (.lst (zs.map V.str))) := (Same.refl H).upd_free hl
   have s1 : Same (upd H l (.lst (zs.map V.str))) (upd (upd H l (.lst (zs.map V.str))) l8 (.lst [.int 0, .int 1, .int 1, .int 1, .int 2, .int 2, .int 3, .int 8])) := (Same.refl _).upd_free hl8
   refine ⟨_, rfl, c, 2, 8, rfl, by decide, by decide, by decide, fun q q0 q1 => ?_⟩
   obtain ⟨x, hx, ex⟩ := atI_some [V.int 0, V.int 1, V.int 1, V.int 1, V.int 2, V.int 2, V.int 3, V.int 8] q q0 q1
   obtain ⟨n, rfl, n0, n1⟩ : ∃ n : Int, x = .int n ∧ 0 ≤ n ∧ n ≤ 8 := by
     simp only [List.mem_cons, List.not_mem_nil, or_false] at hx
     rcases hx with rfl | rfl | rfl | rfl | rfl | rfl | rfl | rfl <;> exact ⟨_, rfl, by decide, by decide⟩
   refine ⟨l8, _, _, _, rfl, rfl, SqL.of upd_same, ex, _, rfl, by omega, by omega, ?_⟩
   refine for_range (n := n.toNat) (fun i σ H2 => ∃ (ys : List Str) (v3 v4 v5 v6 : Option V), σ = [some (.ref l), some (.int c), some (.int t), v3, v4, v5, v6] ∧ Same H H2 ∧ H2 l = some (.lst (ys.map V.str)) ∧ RowOk ys)
     ⟨zs, none, none, none, none, rfl, s0.trans s1, s1 _ _ upd_same, hR⟩ ?_ ?_
   · rintro i σ H2 hi ⟨ys, v3, v4, v5, v6, rfl, s2, hL, hY⟩
     have i1 : (i : Int) ≤ 8 := by omega
     have hyl : (ys.map V.str).length = ys.length := List.length_map ..
     -- at
     refine ⟨_, rfl, _, rfl, _, _, rfl, rfl, _, rfl, l, _, rfl, .inl (SqL.of hL), c, _, _, rfl, by omega, by omega, by have := hY.1; omega, fun at' a0 a1 => ?_⟩
     obtain ⟨y, hy, ey⟩ := atI_some (ys.map V.str) at' a0 a1
     obtain ⟨z, hz, rfl⟩ := List.mem_map.mp hy
     -- sort
     refine ⟨_, rfl, _, rfl, l, _, _, _, rfl, rfl, SqL.of hL, ey, z, rfl, hY.2.2 z hz, fun H3 s3 => ?_⟩
     refine ⟨fun σ' H' => ∃ so : Str, σ' = [some (.ref l), some (.int c), some (.int t), some (.int (0 + (i : Int))), some (.int at'), some (.str so), v6] ∧ Same H2 H', ?_, ?_⟩
     · refine ⟨_, rfl, _, rfl, _, _, rfl, rfl, c, _, 6, rfl, by omega, by omega, by decide, fun p p0 p1 => ⟨rfl, _, rfl, ?_⟩⟩
       refine ifb ?_ ⟨_, rfl, s3⟩
       refine ⟨(by show 4 ≤ sizeLine; decide), fun l4 hl4 => ?_⟩
       refine ⟨_, rfl, _, rfl, _, _, rfl, rfl, c, _, 4, rfl, by omega, by omega, by decide, fun p p0 p1 => ?_⟩
       obtain ⟨x, hx, ex⟩ := atI_some [V.str (Str.ofString "number"), V.str (Str.ofString "name"), V.str (Str.ofString "list"), V.str (Str.ofString "mark")] p p0 p1
       obtain ⟨so', rfl⟩ : ∃ so' : Str, x = .str so' := by
         simp only [List.mem_cons, List.not_mem_nil, or_false] at hx
         rcases hx with rfl | rfl | rfl | rfl <;> exact ⟨_, rfl⟩
       refine ⟨l4, _, _, _, rfl, rfl, SqL.of upd_same, ex, so', rfl, s3.upd_free (s3.free hl4)⟩
     rintro σ' H4 ⟨so, rfl, s4⟩
     -- number
     refine ⟨_, rfl, _, rfl, _, _, rfl, rfl, .inl ⟨by decide, by decide⟩, _, _, rfl, rfl, _, rfl, _, rfl, _, _, rfl, rfl, c, _, 3, rfl, by omega, by omega, by decide, fun p p0 p1 => ?_⟩
     refine ⟨_, _, rfl, rfl, .inl ⟨by decide, by decide⟩, _, _, rfl, rfl, ?_⟩
     refine ⟨fun σ' H' => ∃ nu : Int, σ' = [some (.ref l), some (.int c), some (.int t), some (.int (0 + (i : Int))), some (.int at'), some (.str so), some (.int nu)] ∧ Same H2 H', ?_, ?_⟩
     · refine ⟨_, rfl, _, rfl, _, _, rfl, rfl, c, _, 4, rfl, by omega, by omega, by decide, fun p p0 p1 => ⟨rfl, _, rfl, ?_⟩⟩
       refine ifb ?_ ⟨_, rfl, s4⟩
       exact ⟨_, rfl, _, _, rfl, rfl, ⟨by decide, by decide⟩, _, rfl, _, _, rfl, rfl, _, rfl, s4⟩
     rintro σ' H5 ⟨nu, rfl, s5⟩
     refine ⟨_, rfl, _, rfl, so, nu, rfl, fun y H6 wy s6 => ?_⟩
     have s26 : Same H2 H6 := s5.trans s6
     refine ⟨_, rfl, _, rfl, l, _, _, at'.toNat, rfl, rfl, s26 _ _ hL, ixN_in a0 a1, ?_⟩
     refine ⟨ys.set at'.toNat y, _, _, _, _, rfl, (s2.trans s26).upd_free hl, ?_, ?_⟩
     · rw [upd_same, set_map]
     · refine ⟨by rw [List.length_set]; exact hY.1, by rw [List.length_set]; exact hY.2.1, fun x hx => ?_⟩
       rcases List.mem_or_eq_of_mem_set hx with hx | hx
       · exact hY.2.2 x hx
       · rw [hx]
         exact wy
   · rintro σ H2 ⟨ys, v3, v4, v5, v6, rfl, s2, hL, hY⟩
     have hyl : (ys.map V.str).length = ys.length := List.length_map ..
     -- one more
     refine ⟨fun σ' H' => ∃ ys : List Str, σ' = [some (.ref l), some (.int c), some (.int t), v3, v4, v5, v6] ∧ Same H H' ∧ H' l = some (.lst (ys.map V.str)) ∧ RowOk ys, ?_, ?_⟩
     · refine ⟨_, rfl, c, 3, 12, rfl, by decide, by decide, by decide, fun p p0 p1 => ⟨rfl, _, rfl, ?_⟩⟩
       refine ifb ?_ (iteF ⟨ys, rfl, s2, hL, hY⟩)
       refine ⟨_, rfl, l, _, rfl, .inl (SqL.of hL), _, _, rfl, rfl, _, rfl, ?_⟩
       refine ite2 (fun hlt => ?_) (fun _ => ⟨ys, rfl, s2, hL, hY⟩)
       have hlt' : ys.length < 8 := by
         have := of_decide_eq_true hlt
         omega
       refine ⟨_, rfl, .inl ⟨rfl, _, SqL.of hL⟩, _, rfl, _, t, rfl, fun y H3 wy s3 => ?_⟩
       refine ⟨l, _, _, rfl, rfl, s3 _ _ hL, small1000 (by omega), ys ++ [y], rfl, (s2.trans s3).upd_free hl, ?_, ?_⟩
       · rw [upd_same, List.map_append]
         rfl
       · refine ⟨by rw [List.length_append, List.length_singleton]; omega, by rw [List.length_append, List.length_singleton]; omega, fun x hx => ?_⟩
         rcases List.mem_append.mp hx with hx | hx
         · exact hY.2.2 x hx
         · rw [List.mem_singleton] at hx
           rw [hx]
           exact wy
     rintro σ' H3 ⟨ys, rfl, s3, hL3, hY3⟩
     have hyl3 : (ys.map V.str).length = ys.length := List.length_map ..
     -- one less
     refine ⟨fun σ' H' => ∃ ys : List Str, σ' = [some (.ref l), some (.int c), some (.int t), v3, v4, v5, v6] ∧ Same H H' ∧ H' l = some (.lst (ys.map V.str)) ∧ RowOk ys, ?_, ?_⟩
     · refine ⟨_, rfl, c, 3, 12, rfl, by decide, by decide, by decide, fun p p0 p1 => ⟨rfl, _, rfl, ?_⟩⟩
       refine ifb ?_ (iteF ⟨ys, rfl, s3, hL3, hY3⟩)
       refine ⟨_, rfl, l, _, rfl, .inl (SqL.of hL3), _, _, rfl, rfl, _, rfl, ?_⟩
       refine ite2 (fun hgt => ?_) (fun _ => ⟨ys, rfl, s3, hL3, hY3⟩)
       have hgt' : 1 < ys.length := by
         have := of_decide_eq_true hgt
         omega
       obtain ⟨y, ey⟩ : ∃ y, (ys.map V.str)[(ys.map V.str).length - 1]? = some y := ⟨(ys.map V.str)[(ys.map V.str).length - 1]'(by omega), by simp⟩
       refine ⟨_, rfl, .inl ⟨rfl, _, SqL.of hL3⟩, l, _, y, rfl, rfl, hL3, ey, ys.dropLast, rfl, s3.upd_free hl, ?_, ?_⟩
       · rw [upd_same, List.map_dropLast]
       · refine ⟨by rw [List.length_dropLast]; omega, by rw [List.length_dropLast]; have := hY3.2.1; omega, fun x hx => hY3.2.2 x ((List.dropLast_sublist ys).subset hx)⟩
     rintro σ' H4 ⟨ys, rfl, s4, hL4, hY4⟩
     refine ⟨_, rfl, l, _, rfl, .inl ⟨SqL.of hL4, fun p hp => ?_⟩⟩
     exact k p ys _ (s4.upd_free (s4.free hp)) upd_same hY4
end
end SL
namespace SL
open PySem L2
def spRo (K : W.Frag) : Sp := fun vs H Q _ => ∃ (a : Addr) (ns : List Int) (most : Int), vs = [.ref a, .int most] ∧ 1 ≤ most ∧ most ≤ 60 ∧ SqL K H a (ns.map V.int) ∧ ns.length ≤ 63 ∧
 ∀ (l : Addr) (qs : List Addr) (rows : List (List Str)) (H' : Hp), Same H H' → H' l = some (.lst (qs.map V.ref)) → RowsAt H' qs rows → rows.length ≤ 64 → 1 ≤ rows.length → (∀ r ∈ rows, RowOk r) → Q (.ref l) H'
theorem cut_mem {xs : List V} {lo hi : Option Int} {v : V} (h : v ∈ cutV xs lo hi) : v ∈ xs := by
 unfold cutV at h
 exact List.mem_of_mem_drop (List.mem_of_mem_take h)
theorem RowOk.tx {r : List Str} (h : RowOk r) : r.length ≤ 8 ∧ ∀ z ∈ r, Tx 60 z := ⟨h.2.1, fun z hz => (h.2.2 z hz).tx.1⟩
section
variable {P : Program} {w : World} {K : W.Frag} {mg : Str → Option Value} {base : Heap}
theorem scRo : FnScope ["_law_script", "_law_most", "_law_salt", "_law_base", "_law_k", "_law_cell", "_law_rows_here"] ["_law_script", "_law_most"] (defScope sRo) := .of (by decide +kernel)
theorem ok_ro {f fC fP fW fT : Addr} {fd fdC fdP fdW fdT : FuncData} (F : Fun K "_law_rows" "_law_rows" sRo f fd) (T : Txt mg)
   (FC : Fun K "_law_cell_at" "_law_cell_at" sCe fC fdC) (bC : Binds K fdC ["_law_script", "_law_k"] []) (gC : mg "_law_cell_at" = some (.ref fC))
   (FP : Fun K "_law_pick" "_law_pick" sPi fP fdP) (bP : Binds K fdP ["_law_cell", "_law_k", "_law_many"] []) (gP : mg "_law_pick" = some (.ref fP))
   (FW : Fun K "_law_word" "_law_word" sWo fW fdW) (bW : Binds K fdW ["_law_sort_here", "_law_cell"] []) (gW : mg "_law_word" = some (.ref fW)) (GW : FnOk P w K mg base CX0 4 fW fdW ["_law_sort_here", "_law_cell"] spWd)
   (FT : Fun K "_law_turned" "_law_turned" sTu fT fdT) (bT : Binds K fdT ["_law_row", "_law_cell", "_law_salt"] []) (gT : mg "_law_turned" = some (.ref fT)) (GT : FnOk P w K mg base CX0 5 fT fdT ["_law_row", "_law_cell", "_law_salt"] spTu) :
   FnOk P w K mg base CX0 6 f fd ["_law_script", "_law_most"] (spRo K) := by
 have GC : FnOk P w K mg base CX0 1 fC fdC ["_law_script", "_law_k"] (spCe K) := ok_ce FC T
 have GP : FnOk P w K mg base CX0 1 fP fdP ["_law_cell", "_law_k", "_law_many"] spPi := ok_pi FP
 refine F.ok scRo (fun vs H Q E h => ?_) (fun cdv A outer s H vs Q E hr h => ?_)
 · obtain ⟨a, ns, most, rfl, _⟩ := h
   rfl
 · obtain ⟨a, ns, most, rfl, mo0, mo1, hS, hln, k⟩ := h
   have hr1 : Room 1 _ := hr.mono (by decide)
   have hr4 : Room 4 _ := hr.mono (by decide)
   refine ⟨_, pss_cons (ps_set (i := 2) scRo.nd rfl (Or.inl rfl) (pe_op op_mod (pe_call GC hr1 rfl gC FC.kp bC .nil pass0 (pa_cons (pv 0) (pa_cons pe_int pa_nil))) pe_int))
     (pss_cons (ps_set (i := 3) scRo.nd rfl (Or.inl rfl) (pe_lst pa_nil))
     (pss_cons (ps_for PassesOwn.never rfl (pi_range1 rfl T.range (pa_cons (pe_op op_add pe_int (pe_op op_mod (pe_call GC hr1 rfl gC FC.kp bC .nil pass0 (pa_cons (pv 0) (pa_cons pe_int pa_nil))) pe_int)) pa_nil)) (pg_name (i := 4) scRo.nd rfl (Or.inl rfl))
       (pss_cons (ps_set (i := 5) scRo.nd rfl (Or.inl rfl) (pe_call GC hr1 rfl gC FC.kp bC .nil pass0 (pa_cons (pv 0) (pa_cons (pe_op op_add pe_int (pv 4)) pa_nil))))
       (pss_one (ps_expr (pe_bm PySem.F.plainAttrs_list PySem.F.slot_list_append PySem.F.type_list_append mt_append (pv 3) (pa_cons (pe_call GW hr4 rfl gW FW.kp bW .nil pass0 (pa_cons (pe_ix ix_list (pe_lst (pa_cons pe_str (pa_cons pe_str (pa_cons pe_str (pa_cons pe_str pa_nil))))) (pe_op op_mod (pv 5) pe_int) (fun _ _ => rfl)) (pa_cons (pe_op op_fdiv (pv 5) pe_int) pa_nil))) pa_nil))))))
     (pss_cons (ps_set (i := 6) scRo.nd rfl (Or.inl rfl) (pe_lst (pa_cons (pe_callTy call_tuple_of (by rfl) T.tuple PyProof.Rows.boot_tuple (pa_cons (pv 3) pa_nil)) pa_nil)))
     (pss_cons (ps_for PassesOwn.never rfl (pi_list (pe_slice sl_list (pv 0) (po_some pe_int) (po_some (pe_op op_sub (pe_op op_add pe_int (pv 1)) pe_int)))) (pg_name (i := 5) scRo.nd rfl (Or.inl rfl))
       (pss_one (ps_expr (pe_bm PySem.F.plainAttrs_list PySem.F.slot_list_append PySem.F.type_list_append mt_append (pv 6) (pa_cons (pe_call GT hr rfl gT FT.kp bT .nil pass0 (pa_cons (pe_ix ix_list (pv 6) (pe_call GP hr1 rfl gP FP.kp bP .nil pass0 (pa_cons (pv 5) (pa_cons pe_int (pa_cons (pe_callB call_len_seq (by rfl) T.len PySem.boot_len (pa_cons (pv 6) pa_nil)) pa_nil)))) (fun _ _ => rfl)) (pa_cons (pv 5) (pa_cons (pv 2) pa_nil)))) pa_nil)))))
     (pss_one (ps_ret (pv 6))))))), ?_⟩
   -- salt, base
   refine ⟨_, rfl, a, ns, 1, rfl, hS, by omega, by decide, by decide, fun z1 H1 s1 => ?_⟩
   refine ⟨_, _, rfl, rfl, (by show (0 : Int) < 1000003; decide), Nat.zero_le _, fun b hb => ?_⟩
   have s2 : Same H (upd H1 b (.lst [])) := s1.upd_free (s1.free hb)
   have hbH : H b = none := s1.free hb
   refine ⟨_, rfl, a, ns, 0, rfl, s2.seq hS, by omega, by decide, by decide, fun z2 H2 s3 => ?_⟩
   refine ⟨_, _, rfl, rfl, (by show (0 : Int) < 8; decide), _, _, rfl, rfl, _, rfl, by omega, by omega, ?_⟩
   refine for_range (n := (1 + z2 % 8).toNat) (fun i σ H3 => ∃ (zs : List Str) (v4 v5 : Option V), σ = [some (.ref a), some (.int most), some (.int (z1 % 1000003)), some (.ref b), v4, v5, none] ∧ Same H H3 ∧ H3 b = some (.lst (zs.map V.str)) ∧ zs.length = i ∧ ∀ x ∈ zs, Wd x)
     ⟨[], none, none, rfl, s2.trans s3, s3 _ _ upd_same, rfl, fun x hx => by simp at hx⟩ ?_ ?_
   · rintro i σ H3 hi ⟨zs, v4, v5, rfl, t3, hB, hlen, hin⟩
     have i1 : (i : Int) ≤ 8 := by omega
     refine ⟨_, rfl, _, rfl, _, _, rfl, rfl, a, ns, _, rfl, t3.seq hS, by omega, by omega, by omega, fun c H4 t4 => ?_⟩
     refine ⟨_, rfl, .inl ⟨rfl, _, SqL.of (t4 _ _ hB)⟩, (by show 4 ≤ sizeLine; decide), fun l4 hl4 => ?_⟩
     obtain ⟨x, hx, ex⟩ := atI_some [V.str (Str.ofString "number"), V.str (Str.ofString "name"), V.str (Str.ofString "list"), V.str (Str.ofString "mark")] (c % 4) (by omega) (by show c % 4 < 4; omega)
     obtain ⟨so, rfl⟩ : ∃ so : Str, x = .str so := by
       simp only [List.mem_cons, List.not_mem_nil, or_false] at hx
       rcases hx with rfl | rfl | rfl | rfl <;> exact ⟨_, rfl⟩
     have t5 : Same H3 (upd H4 l4 (.lst [V.str (Str.ofString "number"), V.str (Str.ofString "name"), V.str (Str.ofString "list"), V.str (Str.ofString "mark")])) := t4.upd_free (t4.free hl4)
     refine ⟨_, rfl, _, _, rfl, rfl, (by show (0 : Int) < 4; decide), l4, _, _, _, rfl, rfl, SqL.of upd_same, ex, _, rfl, _, _, rfl, rfl, ⟨by decide, by decide⟩, so, _, rfl, fun y H6 wy t6 => ?_⟩
     have t7 : Same H3 H6 := t5.trans t6
     refine ⟨b, _, _, rfl, rfl, t7 _ _ hB, ?_, zs ++ [y], _, _, rfl, (t3.trans t7).upd_free hbH, ?_, ?_, fun x hx => ?_⟩
     · rw [List.length_map]
       exact small1000 (by omega)
     · rw [upd_same, List.map_append]
       rfl
     · rw [List.length_append, List.length_singleton, hlen]
     · rcases List.mem_append.mp hx with hx | hx
       · exact hin x hx
       · rw [List.mem_singleton] at hx
         rw [hx]
         exact wy
   · rintro σ H3 ⟨zs, v4, v5, rfl, t3, hB, hlen, hin⟩
     have hz : RowOk zs := ⟨by omega, by omega, hin⟩
     refine ⟨_, rfl, b, _, rfl, .inl ⟨SqL.of hB, fun q hq => ?_⟩⟩
     have t4 : Same H3 (upd H3 q (.tup (zs.map V.str))) := (Same.refl H3).upd_free hq
     refine ⟨(by show 1 ≤ sizeLine; decide), fun l hl => ?_⟩
     have t5 : Same (upd H3 q (.tup (zs.map V.str))) (upd (upd H3 q (.tup (zs.map V.str))) l (.lst [.ref q])) := (Same.refl _).upd_free hl
     have hlH : H l = none := (t3.trans t4).free hl
     refine ⟨_, rfl, _, rfl, _, rfl, _, _, rfl, rfl, _, _, rfl, rfl, _, rfl, a, _, rfl, ((t3.trans t4).trans t5).seq hS, fun p hp => ?_⟩
     have npl : p ≠ l := fun e => by rw [e, upd_same] at hp; cases hp
     have t6 := (Same.refl (upd (upd H3 q (.tup (zs.map V.str))) l (.lst [.ref q]))).upd_free (o := .lst (cutV (ns.map V.int) (some 10) (some (10 + most - 1)))) hp
     have hcl : (cutV (ns.map V.int) (some 10) (some (10 + most - 1))).length ≤ 63 := by
       have := cutV_length (ns.map V.int) (some 10) (some (10 + most - 1))
       rw [List.length_map] at this
       omega
     refine ⟨p, rfl, ⟨_, SqL.of upd_same⟩, ?_⟩
     refine for_list (K := K) (a := p) (xs := cutV (ns.map V.int) (some 10) (some (10 + most - 1))) (fun i σ H4 => ∃ (qs : List Addr) (rows : List (List Str)) (v4 v5 : Option V), σ = [some (.ref a), some (.int most), some (.int (z1 % 1000003)), some (.ref b), v4, v5, some (.ref l)] ∧ Same H H4 ∧ H4 p = some (.lst (cutV (ns.map V.int) (some 10) (some (10 + most - 1)))) ∧ H4 l = some (.lst (qs.map V.ref)) ∧ RowsAt H4 qs rows ∧ rows.length = 1 + i ∧ ∀ r ∈ rows, RowOk r)
       ⟨[q], [zs], v4, v5, rfl, ((t3.trans t4).trans t5).trans t6, upd_same, t6 _ _ upd_same, ?_, rfl, fun r hr' => by rw [List.mem_singleton] at hr'; rw [hr']; exact hz⟩ (fun i σ H4 _ ⟨_, _, _, _, _, _, hp4, _⟩ => SqL.of hp4) ?_ ?_
     · exact RowsAt.nil.snoc (t6 _ _ (t5 _ _ upd_same)) hz.tx
     · rintro i x σ H4 hx ⟨qs, rows, v4, v5, rfl, u4, hp4, hL, hR, hrl, hok⟩
       obtain ⟨c, _, rfl⟩ := List.mem_map.mp (cut_mem (List.mem_of_getElem? hx))
       have hi : i < 63 := by
         have := (List.getElem?_eq_some_iff.mp hx).1
         omega
       have hql : (qs.map V.ref).length = rows.length := by rw [List.length_map]; exact hR.1
       refine ⟨_, rfl, .inl ⟨rfl, _, SqL.of hL⟩, _, rfl, _, rfl, _, rfl, l, _, rfl, .inl (SqL.of hL), c, 1, _, rfl, by decide, by decide, by omega, fun j j0 j1 => ?_⟩
       obtain ⟨r, q', er, eq, hq', _⟩ := row_get hR (i := j.toNat) (by omega)
       have ex : atI (qs.map V.ref) j = some (.ref q') := atI_int j0 (by rw [List.getElem?_map, eq]; rfl)
       refine ⟨l, _, _, _, rfl, rfl, SqL.of hL, ex, _, rfl, _, rfl, q', c, _, r, rfl, hq', hok r (List.mem_of_getElem? er), fun y ys H5 u5 hy hys => ?_⟩
       have ts : TSame H5 (upd H5 l (.lst (qs.map V.ref ++ [.ref y]))) := TSame.upd_lst (fun _ _ e => e) (u5 _ _ hL)
       refine ⟨l, _, _, rfl, rfl, u5 _ _ hL, ?_, ?_⟩
       · rw [hql]
         exact small1000 (by omega)
       refine ⟨qs ++ [y], rows ++ [ys], _, _, rfl, (u4.trans u5).upd_free hlH, ?_, ?_, ?_, ?_, fun r hr' => ?_⟩
       · rw [upd_ne npl]
         exact u5 _ _ hp4
       · rw [upd_same, List.map_append]
         rfl
       · exact ((hR.tsame u5.tups).tsame ts).snoc (ts _ _ hy) hys.tx
       · rw [List.length_append, List.length_singleton, hrl]
         omega
       · rcases List.mem_append.mp hr' with hr' | hr'
         · exact hok r hr'
         · rw [List.mem_singleton] at hr'
           rw [hr']
           exact hys
     · rintro σ H4 ⟨qs, rows, v4, v5, rfl, u4, hp4, hL, hR, hrl, hok⟩
       exact ⟨_, rfl, k l qs rows H4 u4 hL hR (by omega) (by omega) hok⟩
end
end SL
namespace SL
open PySem L2
def sWord : Str := Str.ofString "word"
def sGap : Str := Str.ofString "gap"
def wAt (p : Nat) (r : List Str) : Str := r.getD p Str.empty
def partF (f : Str) (zs : List Str) : Option (Str × Str) := if zs.all (fun w => decide (w = f)) then some (sWord, f) else if zs.all (fun w => decide (lawS w = lawS f)) then some (sGap, (lawS f).str) else none
def partM (zs : List Str) : Option (Str × Str) := partF (zs.headD Str.empty) zs
def partsM (n : Nat) (rows : List (List Str)) : List (Option (Str × Str)) := (List.range n).map fun p => partM (rows.map (wAt p))
def formM (rows : List (List Str)) : Option (List (Str × Str)) :=
 if rows.all (fun x => decide (x.length = (rows.headD []).length)) then (if none ∈ partsM (rows.headD []).length rows then none else some ((partsM (rows.headD []).length rows).filterMap id)) else none
theorem so_inj : ∀ a b : So, a.str = b.str → a = b := by
 intro a b
 cases a <;> cases b <;> first | exact fun _ => rfl | (intro h; revert h; decide +kernel)
theorem so_tx (a : So) : Tx 60 a.str := by
 cases a <;> exact (txK (n := 60) (by decide +kernel))
theorem part_tx {f : Str} {zs : List Str} {e : Str × Str} (hf : Wd f) (h : partF f zs = some e) : Tx 60 e.1 ∧ Tx 60 e.2 := by
 unfold partF at h
 split at h
 · cases h
   exact ⟨(show Tx 60 sWord from txK (n := 60) (by decide +kernel)), hf.tx.1⟩
 · split at h
   · cases h
     exact ⟨(show Tx 60 sGap from txK (n := 60) (by decide +kernel)), so_tx _⟩
   · cases h
def PtAt (H : Hp) : V → Option (Str × Str) → Prop
 | .non, none => True
 | .ref q, some e => H q = some (.tup [.str e.1, .str e.2])
 | _, _ => False
def PtsAt (H : Hp) : List V → List (Option (Str × Str)) → Prop
 | [], [] => True
 | v :: vs, e :: es => PtAt H v e ∧ PtsAt H vs es
 | _, _ => False
theorem PtAt.tsame {H H' : Hp} (s : TSame H H') : ∀ {v : V} {e : Option (Str × Str)}, PtAt H v e → PtAt H' v e
 | .non, none, _ => True.intro
 | .ref _, some _, h => s _ _ h
 | .non, some _, h => h.elim
 | .ref _, none, h => h.elim
 | .int _, _, h => h.elim
 | .bl _, _, h => h.elim
 | .str _, _, h => h.elim
 | .byt _, _, h => h.elim
 | .ty _, _, h => h.elim
theorem PtsAt.tsame {H H' : Hp} (s : TSame H H') : ∀ {vs : List V} {es : List (Option (Str × Str))}, PtsAt H vs es → PtsAt H' vs es
 | [], [], _ => True.intro
 | _ :: _, _ :: _, ⟨h1, h2⟩ => ⟨h1.tsame s, PtsAt.tsame s h2⟩
 | [], _ :: _, h => h.elim
 | _ :: _, [], h => h.elim
theorem PtsAt.len {H : Hp} : ∀ {vs : List V} {es : List (Option (Str × Str))}, PtsAt H vs es → vs.length = es.length
 | [], [], _ => rfl
 | _ :: _, _ :: _, ⟨_, h2⟩ => by rw [List.length_cons, List.length_cons, PtsAt.len h2]
 | [], _ :: _, h => h.elim
 | _ :: _, [], h => h.elim
theorem PtsAt.snoc {H : Hp} {v : V} {e : Option (Str × Str)} (h : PtAt H v e) : ∀ {vs : List V} {es : List (Option (Str × Str))}, PtsAt H vs es → PtsAt H (vs ++ [v]) (es ++ [e])
 | [], [], _ => ⟨h, True.intro⟩
 | _ :: _, _ :: _, ⟨h1, h2⟩ => ⟨h1, PtsAt.snoc h h2⟩
 | [], _ :: _, h => h.elim
 | _ :: _, [], h => h.elim
theorem PtsAt.get {H : Hp} : ∀ {vs : List V} {es : List (Option (Str × Str))} {i : Nat} {v : V}, PtsAt H vs es → vs[i]? = some v → ∃ e, es[i]? = some e ∧ PtAt H v e
 | [], [], i, v, _, h => by simp at h
 | x :: vs, e :: es, 0, v, ⟨h1, h2⟩, h => by
   cases h
   exact ⟨e, rfl, h1⟩
 | x :: vs, e :: es, i + 1, v, ⟨h1, h2⟩, h => by
   obtain ⟨e', g1, g2⟩ := PtsAt.get (i := i) h2 (by simpa using h)
   exact ⟨e', by simpa using g1, g2⟩
 | [], _ :: _, _, _, h, _ => h.elim
 | _ :: _, [], _, _, h, _ => h.elim
def dPt : Option (Str × Str) → PyData
 | none => .none
 | some e => .tuple [.str e.1, .str e.2]
def PTx (e : Option (Str × Str)) : Prop := ∀ x, e = some x → Tx 60 x.1 ∧ Tx 60 x.2
theorem PtAt.data {K : W.Frag} {H : Hp} : ∀ {v : V} {e : Option (Str × Str)}, PtAt H v e → DAt K H v (dPt e)
 | .non, none, _ => .non
 | .ref _, some _, h => .tup (SqT.of h) (.cons (.str _) (.cons (.str _) .nil))
 | .non, some _, h => h.elim
 | .ref _, none, h => h.elim
 | .int _, _, h => h.elim
 | .bl _, _, h => h.elim
 | .str _, _, h => h.elim
 | .byt _, _, h => h.elim
 | .ty _, _, h => h.elim
theorem PtsAt.data {K : W.Frag} {H : Hp} : ∀ {vs : List V} {es : List (Option (Str × Str))}, PtsAt H vs es → DsAt K H vs (es.map dPt)
 | [], [], _ => .nil
 | _ :: _, _ :: _, ⟨h1, h2⟩ => .cons h1.data (PtsAt.data h2)
 | [], _ :: _, h => h.elim
 | _ :: _, [], h => h.elim
theorem dPt_lay {e : Option (Str × Str)} (h : PTx e) : (dPt e).canLay0 = true := by
 cases e with
 | none => rfl
 | some x =>
   obtain ⟨h1, h2⟩ := h x rfl
   show (PyData.canLay0 (.str x.1) && (PyData.canLay0 (.str x.2) && PyData.canLayAll0 [])) = true
   rw [h1.ok, h2.ok]
   rfl
theorem dPts_lay : ∀ {es : List (Option (Str × Str))}, (∀ e ∈ es, PTx e) → PyData.canLayAll0 (es.map dPt) = true
 | [], _ => rfl
 | e :: es, h => by
   rw [List.map_cons, PyData.canLayAll0, dPt_lay (h e List.mem_cons_self), dPts_lay fun x hx => h x (List.mem_cons_of_mem _ hx)]
   rfl
theorem any_none : ∀ es : List (Option (Str × Str)), ((es.map dPt).any fun d => PyData.eqv d .none) = decide (none ∈ es)
 | [] => by simp
 | none :: es => by
   rw [List.map_cons, List.any_cons]
   show (true || _) = _
   simp
 | some x :: es => by
   rw [List.map_cons, List.any_cons, any_none es]
   show (false || _) = _
   rw [Bool.false_or]
   exact decide_eq_decide.mpr ⟨List.mem_cons_of_mem _, fun h => by simpa using h⟩
def FmAt (H : Hp) (v : V) : Option (List (Str × Str)) → Prop
 | none => v = .non
 | some es => ∃ p vs, v = .ref p ∧ H p = some (.tup vs) ∧ PtsAt H vs (es.map some)
theorem some_filter : ∀ {es : List (Option (Str × Str))}, ¬ none ∈ es → (es.filterMap id).map some = es
 | [], _ => rfl
 | none :: es, h => absurd List.mem_cons_self h
 | some x :: es, h => by
   have e : (some x :: es).filterMap id = x :: es.filterMap id := rfl
   rw [e, List.map_cons, some_filter fun z => h (List.mem_cons_of_mem _ z)]
theorem wAt_mem {p : Nat} {r : List Str} (h : p < r.length) : wAt p r ∈ r := by
 unfold wAt
 have e : r.getD p Str.empty = r[p] := by simp [List.getD, h]
 rw [e]
 exact List.getElem_mem h
theorem parts_tx {n : Nat} {rows : List (List Str)} (hne : 1 ≤ rows.length) (hok : ∀ r ∈ rows, RowOk r) (hlen : ∀ r ∈ rows, r.length = n) : ∀ e ∈ partsM n rows, PTx e := fun e he x ex => by
 obtain ⟨p, hp, q⟩ := List.mem_map.mp he
 have hp' := List.mem_range.mp hp
 subst ex
 refine part_tx (f := (rows.map (wAt p)).headD Str.empty) ?_ q
 cases rows with
 | nil => simp at hne
 | cons r rows =>
   exact (hok r List.mem_cons_self).2.2 _ (wAt_mem (by rw [hlen r List.mem_cons_self]; exact hp'))
theorem form_tx {rows : List (List Str)} {es : List (Str × Str)} (hne : 1 ≤ rows.length) (hok : ∀ r ∈ rows, RowOk r) (h : formM rows = some es) : ∀ e ∈ es.map some, PTx e := by
 unfold formM at h
 split at h
 · rename_i hl
   split at h
   · cases h
   · rename_i hn
     cases h
     rw [some_filter hn]
     exact parts_tx hne hok fun r hr => of_decide_eq_true (List.all_eq_true.mp hl r hr)
 · cases h
def spLp : Sp := fun vs H Q _ => ∃ (l : Addr) (zs : List Str), vs = [.ref l] ∧ H l = some (.lst (zs.map V.str)) ∧ 1 ≤ zs.length ∧ zs.length ≤ 64 ∧ (∀ z ∈ zs, Wd z) ∧ ∀ (v : V) (H' : Hp), Same H H' → PtAt H' v (partM zs) → Q v H'
end SL
namespace SL
open PySem L2
theorem dec_str (a b : Str) : decide (V.str a = V.str b) = decide (a = b) := decide_eq_decide.mpr ⟨fun q => by injection q, fun q => by rw [q]⟩
theorem dec_intV (a b : Int) : decide (V.int a = V.int b) = decide (a = b) := decide_eq_decide.mpr ⟨fun q => by injection q, fun q => by rw [q]⟩
theorem headD_at {zs : List Str} (h : 1 ≤ zs.length) : zs[0]? = some (zs.headD Str.empty) := by
 cases zs with
 | nil => simp at h
 | cons z zs => rfl
theorem headD_mem {zs : List Str} (h : 1 ≤ zs.length) : zs.headD Str.empty ∈ zs := List.mem_of_getElem? (headD_at h)
section
variable {P : Program} {w : World} {K : W.Frag} {mg : Str → Option Value} {base : Heap}
theorem scLp : FnScope ["words", "first", "sort"] ["words"] (defScope sLp) := .of (by decide +kernel)
def scopeP1 : Scope := ⟨.function, [(".0", .local), ("word", .local), ("first", .free)], false, false, []⟩
def scopeP2 : Scope := ⟨.function, [(".0", .local), ("word", .local), ("sort_of", .globalImplicit), ("sort", .free)], false, false, []⟩
theorem scP1 : BlkScope (defScope sLp) ["words", "first", "sort"] ["word"] ["first"] [1] scopeP1 := .of (by decide +kernel)
theorem scP2 : BlkScope (defScope sLp) ["words", "first", "sort"] ["word"] ["sort"] [2] scopeP2 := .of (by decide +kernel)
theorem ok_lp {f fS : Addr} {fd fdS : FuncData} (F : Fun K "least_part" "least_part" sLp f fd) (T : TS mg) (FS : Fun K "sort_of" "sort_of" sSo fS fdS) (bS : Binds K fdS ["text"] []) (gS : mg "sort_of" = some (.ref fS)) (GS : FnOk P w K mg base CX0 5 fS fdS ["text"] spSo) :
   FnOk P w K mg base CX0 6 f fd ["words"] spLp := by
 refine F.ok scLp (fun vs H Q E h => ?_) (fun cdv A outer s H vs Q E hr h => ?_)
 · obtain ⟨l, zs, rfl, _⟩ := h
   rfl
 · obtain ⟨l, zs, rfl, hL, h1, h64, hW, k⟩ := h
   have wf : Wd (zs.headD Str.empty) := hW _ (headD_mem h1)
   have e0 : atI (zs.map V.str) 0 = some (.str (zs.headD Str.empty)) := atI_nat (j := 0) (by rw [List.getElem?_map, headD_at h1]; rfl)
   unfold partM at k
   generalize zs.headD Str.empty = fi at wf e0 k
   have tx : ∀ z ∈ zs, Tx 1000 z := fun z hz => (hW z hz).tx.1.mono (by decide)
   refine ⟨_, pss_cons (ps_set (i := 1) scLp.nd rfl (Or.inr rfl) (pe_ix ix_list (pv 0) pe_int (fun _ _ => rfl)))
     (pss_cons (ps_if (pt_val (pe_callB (call_allB rfl) (by rfl) T.all boot_all (pa_cons (pe_lc scP1 rfl rfl rfl (pi_list (pv 0)) (fun fp C s1 H1 => pg_name (i := 0) scP1.nd rfl (Or.inl rfl)) (fun fp C s1 H1 => pts_nil) (fun fp C s1 H1 => pe_cmpR op_eq (pv 0) (pv 1) (nomark _))) pa_nil)))
       (pss_one (ps_ret (pe_tup (pa_cons pe_str (pa_cons (pv 1) pa_nil))))) pss_nil)
     (pss_cons (ps_set (i := 2) scLp.nd rfl (Or.inr rfl) (pe_call GS hr rfl gS FS.kp bS .nil pass0 (pa_cons (pv 1) pa_nil)))
     (pss_cons (ps_if (pt_val (pe_callB (call_allB rfl) (by rfl) T.all boot_all (pa_cons (pe_lc scP2 rfl rfl rfl (pi_list (pv 0)) (fun fp C s1 H1 => pg_name (i := 0) scP2.nd rfl (Or.inl rfl)) (fun fp C s1 H1 => pts_nil) (fun fp C s1 H1 => pe_cmpR op_eq (pe_call GS hr rfl gS FS.kp bS .nil pass0 (pa_cons (pv 0) pa_nil)) (pv 1) (nomark _))) pa_nil)))
       (pss_one (ps_ret (pe_tup (pa_cons pe_str (pa_cons (pv 2) pa_nil))))) pss_nil)
     (pss_one (ps_ret pe_non))))), ?_⟩
   refine ⟨_, rfl, l, _, _, _, rfl, rfl, SqL.of hL, e0, ?_⟩
   -- all the same word
   refine ⟨_, rfl, l, rfl, ⟨_, SqL.of hL⟩, fun D hD => ?_⟩
   refine lc_list (K := K) (a := l) (xs := zs.map V.str) (fun i ys H2 => ys = ((zs.take i).map fun w => decide (w = fi)).map V.bl ∧ Same H H2 ∧ H2 D = some (.lst ys)) (Nat.le_of_lt (small1000 (by rw [List.length_map]; omega))) ⟨by simp, (Same.refl H).upd_free hD, upd_same⟩
     (fun i ys H2 h => by rw [h.1, List.length_map, List.length_map, List.length_take]; exact Nat.min_le_left _ _) (fun i ys H2 h => SqL.of (h.2.1 _ _ hL)) ?_ ?_
   · rintro i ys H2 x N M hx ⟨rfl, s2, hD2⟩ hN hM
     rw [List.getElem?_map] at hx
     cases et : zs[i]? with
     | none => rw [et] at hx; cases hx
     | some z =>
       rw [et] at hx
       cases hx
       refine ⟨_, rfl, _, rfl, rfl, ?_⟩
       rw [dec_str]
       refine hN _ H2 hD2 ⟨?_, s2.upd_free hD, upd_same⟩
       rw [List.take_add_one, et, List.map_append, List.map_append]
       rfl
   rintro ys H2 ⟨rfl, s2, hD2⟩
   rw [List.length_map, List.take_of_length_le (Nat.le_refl _)] at hD2
   refine ⟨D, _, rfl, SqL.of hD2, zs.all fun w => decide (w = fi), by rw [List.all_map]; rfl, ?_⟩
   unfold partF at k
   cases hA : zs.all fun w => decide (w = fi) with
   | true =>
     rw [hA] at k
     refine iteT ⟨_, rfl, (by show 2 ≤ sizeLine; decide), fun t ht => ?_⟩
     exact k (.ref t) _ (s2.upd_free (s2.free ht)) upd_same
   | false =>
     rw [hA] at k
     refine iteF ?_
     refine ⟨_, rfl, fi, rfl, wf.tx.1.mono (by decide), fun H3 s3 => ?_⟩
     rw [wf.sort]
     have t3 := s2.trans s3
     -- all of the same sort
     refine ⟨_, rfl, l, rfl, ⟨_, SqL.of (t3 _ _ hL)⟩, fun D2 hD2' => ?_⟩
     refine lc_list (K := K) (a := l) (xs := zs.map V.str) (fun i ys H4 => ys = ((zs.take i).map fun w => decide (lawS w = lawS fi)).map V.bl ∧ Same H3 H4 ∧ H4 D2 = some (.lst ys)) (Nat.le_of_lt (small1000 (by rw [List.length_map]; omega))) ⟨by simp, (Same.refl H3).upd_free hD2', upd_same⟩
       (fun i ys H4 h => by rw [h.1, List.length_map, List.length_map, List.length_take]; exact Nat.min_le_left _ _) (fun i ys H4 h => SqL.of (h.2.1 _ _ (t3 _ _ hL))) ?_ ?_
     · rintro i ys H4 x N M hx ⟨rfl, s4, hD4⟩ hN hM
       rw [List.getElem?_map] at hx
       cases et : zs[i]? with
       | none => rw [et] at hx; cases hx
       | some z =>
         rw [et] at hx
         cases hx
         have hz := List.mem_of_getElem? et
         refine ⟨_, rfl, z, rfl, tx z hz, fun H5 s5 => ?_⟩
         rw [(hW z hz).sort]
         refine ⟨_, rfl, rfl, ?_⟩
         have e1 : decide (vS (some (lawS z)) = vS (some (lawS fi))) = decide (lawS z = lawS fi) := by
           show decide (V.str (lawS z).str = V.str (lawS fi).str) = _
           rw [dec_str]
           exact decide_eq_decide.mpr ⟨fun q => so_inj _ _ q, fun q => by rw [q]⟩
         rw [e1]
         refine hN _ H5 (s5 _ _ hD4) ⟨?_, (s4.trans s5).upd_free hD2', upd_same⟩
         rw [List.take_add_one, et, List.map_append, List.map_append]
         rfl
     rintro ys H4 ⟨rfl, s4, hD4⟩
     rw [List.length_map, List.take_of_length_le (Nat.le_refl _)] at hD4
     have t4 := t3.trans s4
     refine ⟨D2, _, rfl, SqL.of hD4, zs.all fun w => decide (lawS w = lawS fi), by rw [List.all_map]; rfl, ?_⟩
     cases hB : zs.all fun w => decide (lawS w = lawS fi) with
     | true =>
       rw [hB] at k
       refine iteT ⟨_, rfl, (by show 2 ≤ sizeLine; decide), fun t ht => ?_⟩
       exact k (.ref t) _ (t4.upd_free (t4.free ht)) upd_same
     | false =>
       rw [hB] at k
       exact iteF (k .non H4 t4 True.intro)
end
end SL
namespace SL
open PySem L2
def spWaL : Sp := fun vs H Q _ => ∃ (p : Nat) (a : Addr) (qs : List Addr) (rows : List (List Str)), vs = [.int (p : Int), .ref a] ∧ H a = some (.lst (qs.map V.ref)) ∧ RowsAt H qs rows ∧ rows.length ≤ 64 ∧ (∀ r ∈ rows, p < r.length) ∧
 ∀ (l : Addr) (H' : Hp), Same H H' → H' l = some (.lst ((rows.map (wAt p)).map V.str)) → Q (.ref l) H'
def spLfL : Sp := fun vs H Q _ => ∃ (a : Addr) (qs : List Addr) (rows : List (List Str)), vs = [.ref a] ∧ H a = some (.lst (qs.map V.ref)) ∧ RowsAt H qs rows ∧ rows.length ≤ 64 ∧ 1 ≤ rows.length ∧ (∀ r ∈ rows, RowOk r) ∧ ∀ (v : V) (H' : Hp), Same H H' → FmAt H' v (formM rows) → Q v H'
section
variable {P : Program} {w : World} {K : W.Frag} {mg : Str → Option Value} {base : Heap}
theorem scWaL : FnScope ["place", "rows"] ["place", "rows"] (defScope sWa) := .of (by decide +kernel)
def scopeWaL : Scope := ⟨.function, [(".0", .local), ("row", .local), ("place", .free)], false, false, []⟩
theorem scWaL1 : BlkScope (defScope sWa) ["place", "rows"] ["row"] ["place"] [0] scopeWaL := .of (by decide +kernel)
theorem ok_waL {f : Addr} {fd : FuncData} (F : Fun K "words_at" "words_at" sWa f fd) : FnOk P w K mg base CX0 1 f fd ["place", "rows"] spWaL := by
 refine F.ok scWaL (fun vs H Q E h => ?_) (fun cdv A outer s H vs Q E hr h => ?_)
 · obtain ⟨p, a, qs, rows, rfl, _⟩ := h
   rfl
 · obtain ⟨p, a, qs, rows, rfl, ha, hR, h64, hp, k⟩ := h
   have hql : (qs.map V.ref).length = rows.length := by rw [List.length_map]; exact hR.1
   refine ⟨_, pss_one (ps_ret (pe_lc scWaL1 rfl rfl rfl (pi_list (pv 1)) (fun fp C s1 H1 => pg_name (i := 0) scWaL1.nd rfl (Or.inl rfl)) (fun fp C s1 H1 => pts_nil)
     (fun fp C s1 H1 => pe_ix (r := rIxT K) ix_tup (pv 0) (pv 1) (fun _ _ => rfl)))), ?_⟩
   refine ⟨_, rfl, a, rfl, ⟨_, SqL.of ha⟩, fun D hD => ?_⟩
   refine lc_list (K := K) (a := a) (xs := qs.map V.ref) (fun i ys H2 => ys = ((rows.take i).map (wAt p)).map V.str ∧ Same H H2 ∧ H2 D = some (.lst ys)) (Nat.le_of_lt (small1000 (by omega))) ⟨by simp, (Same.refl H).upd_free hD, upd_same⟩
     (fun i ys H2 h => by rw [h.1, List.length_map, List.length_map, List.length_take]; exact Nat.min_le_left _ _) (fun i ys H2 h => SqL.of (h.2.1 _ _ ha)) ?_ ?_
   · rintro i ys H2 x N M hx ⟨rfl, s2, hD2⟩ hN hM
     have hi : i < rows.length := by
       have := (List.getElem?_eq_some_iff.mp hx).1
       omega
     obtain ⟨r, q, er, eq, hq, hok⟩ := row_get hR hi
     rw [List.getElem?_map, eq] at hx
     cases hx
     have hpr := hp r (List.mem_of_getElem? er)
     refine ⟨_, rfl, _, rfl, q, _, _, .str (wAt p r), rfl, rfl, SqT.of (s2 _ _ hq), atI_nat ?_, ?_⟩
     · rw [List.getElem?_map]
       unfold wAt
       simp [List.getD, hpr]
     · refine hN _ H2 hD2 ⟨?_, s2.upd_free hD, upd_same⟩
       rw [List.take_add_one, er, List.map_append, List.map_append]
       rfl
   · rintro ys H2 ⟨rfl, s2, hD2⟩
     rw [hql, List.take_of_length_le (Nat.le_refl _)] at hD2
     exact k D H2 s2 hD2
theorem scLfL : FnScope ["rows", "parts"] ["rows"] (defScope sLf) := .of (by decide +kernel)
def scopeFL1 : Scope := ⟨.function, [(".0", .local), ("row", .local), ("len", .globalImplicit)], false, false, []⟩
def scopeFL2 : Scope := ⟨.function, [(".0", .local), ("place", .local), ("least_part", .globalImplicit), ("words_at", .globalImplicit), ("rows", .free)], false, false, []⟩
theorem scFL1 : BlkScope (defScope sLf) ["rows", "parts"] ["row"] [] [] scopeFL1 := .of (by decide +kernel)
theorem scFL2 : BlkScope (defScope sLf) ["rows", "parts"] ["place"] ["rows"] [0] scopeFL2 := .of (by decide +kernel)
theorem ok_lfL {f fS fP fA : Addr} {fd fdS fdP fdA : FuncData} (F : Fun K "least_form" "least_form" sLf f fd) (T : TS mg) (TX : Txt mg) (hset : mg "set" = none) (FS : Fun K "sort_of" "sort_of" sSo fS fdS) (bS : Binds K fdS ["text"] []) (gS : mg "sort_of" = some (.ref fS)) (GS : FnOk P w K mg base CX0 5 fS fdS ["text"] spSo)
   (FP : Fun K "least_part" "least_part" sLp fP fdP) (bP : Binds K fdP ["words"] []) (gP : mg "least_part" = some (.ref fP)) (FA : Fun K "words_at" "words_at" sWa fA fdA) (bA : Binds K fdA ["place", "rows"] []) (gA : mg "words_at" = some (.ref fA)) :
   FnOk P w K mg base CX0 7 f fd ["rows"] spLfL := by
 have GP : FnOk P w K mg base CX0 6 fP fdP ["words"] spLp := ok_lp FP T FS bS gS GS
 have GA : FnOk P w K mg base CX0 1 fA fdA ["place", "rows"] spWaL := ok_waL FA
 refine F.ok scLfL (fun vs H Q E h => ?_) (fun cdv A outer s H vs Q E hr h => ?_)
 · obtain ⟨a, qs, rows, rfl, _⟩ := h
   rfl
 · obtain ⟨a, qs, rows, rfl, ha, hR, h64, h1, hok, k⟩ := h
   have hr1 : Room 1 _ := hr.mono (by decide)
   have hu64 := hr.units
   have hql : (qs.map V.ref).length = rows.length := by rw [List.length_map]; exact hR.1
   refine ⟨_, pss_cons (ps_if (pt_cmpR op_ne (pe_callB call_lenS (by rfl) TX.len PySem.boot_len (pa_cons (pe_callTy (call_setI rfl) (by rfl) hset PyProof.Rows.boot_set (pa_cons (pe_lc scFL1 rfl rfl rfl (pi_list (pv 0)) (fun fp C s1 H1 => pg_name (i := 0) scFL1.nd rfl (Or.inl rfl)) (fun fp C s1 H1 => pts_nil)
         (fun fp C s1 H1 => pe_callB (r := fun xs H Q => ∃ p ys, xs = [.ref p] ∧ (SqL K H p ys ∨ SqT K H p ys) ∧ Q (.int ys.length) H) call_len_seq (by rfl) TX.len PySem.boot_len (pa_cons (pv 0) pa_nil))) pa_nil)) pa_nil)) pe_int (nomark _)) (pss_one (ps_ret pe_non)) pss_nil)
     (pss_cons (ps_setlc (i := 1) scFL2 rfl rfl rfl (pi_range1 rfl TX.range (pa_cons (pe_callB call_len_seq (by rfl) TX.len PySem.boot_len (pa_cons (pe_ix ix_list (pv 0) pe_int (fun _ _ => rfl)) pa_nil)) pa_nil)) (fun fp C s1 H1 => pg_name (i := 0) scFL2.nd rfl (Or.inl rfl)) (fun fp C s1 H1 => pts_nil)
         (fun fp C s1 H1 => pe_call GP hr rfl gP FP.kp bP .nil pass0 (pa_cons (pe_call GA hr1 rfl gA FA.kp bA .nil pass0 (pa_cons (pv 0) (pa_cons (pv 1) pa_nil))) pa_nil)) scLfL.nd rfl rfl rfl)
     (pss_one (ps_ret (pe_ifExp (pt_cmpR (op_inD hu64) pe_non (pv 1) (by with_unfolding_all rfl)) pe_non (pe_callTy call_tuple_of (by rfl) TX.tuple PyProof.Rows.boot_tuple (pa_cons (pv 1) pa_nil)))))), ?_⟩
   -- the lengths
   refine ⟨_, rfl, a, rfl, ⟨_, SqL.of ha⟩, fun D hD => ?_⟩
   refine lc_list (K := K) (a := a) (xs := qs.map V.ref) (fun i ys H2 => ys = ((rows.take i).map fun r => ((r.length : Nat) : Int)).map V.int ∧ Same H H2 ∧ H2 D = some (.lst ys)) (Nat.le_of_lt (small1000 (by omega))) ⟨by simp, (Same.refl H).upd_free hD, upd_same⟩
     (fun i ys H2 h => by rw [h.1, List.length_map, List.length_map, List.length_take]; exact Nat.min_le_left _ _) (fun i ys H2 h => SqL.of (h.2.1 _ _ ha)) ?_ ?_
   · rintro i ys H2 x N M hx ⟨rfl, s2, hD2⟩ hN hM
     have hi : i < rows.length := by
       have := (List.getElem?_eq_some_iff.mp hx).1
       omega
     obtain ⟨r, q, er, eq, hq, _⟩ := row_get hR hi
     rw [List.getElem?_map, eq] at hx
     cases hx
     refine ⟨_, rfl, q, _, rfl, .inr (SqT.of (s2 _ _ hq)), ?_⟩
     refine hN _ H2 hD2 ⟨?_, s2.upd_free hD, upd_same⟩
     rw [List.take_add_one, er, List.map_append, List.map_append]
     simp
   rintro ys H2 ⟨rfl, s2, hD2⟩
   rw [hql, List.take_of_length_le (Nat.le_refl _)] at hD2
   refine ⟨D, rows.map fun r => ((r.length : Nat) : Int), rfl, SqL.of hD2, by rw [List.length_map]; omega, fun st hst => ?_⟩
   have s3 := (Same.refl H2).upd_free (o := .set (inI (rows.map fun r => ((r.length : Nat) : Int))) (manyI (rows.map fun r => ((r.length : Nat) : Int)))) hst
   refine ⟨st, _, _, rfl, upd_same, rfl, _, rfl, ?_⟩
   generalize hH3 : upd H2 st (.set (inI (rows.map fun r => ((r.length : Nat) : Int))) (manyI (rows.map fun r => ((r.length : Nat) : Int)))) = H3 at s3
   rw [dec_intV]
   obtain ⟨r0, q0, er0, eq0, hq0, _⟩ := row_get hR (i := 0) (by omega)
   have eh : rows.headD [] = r0 := by
     cases rows with
     | nil => simp at h1
     | cons r rows => cases er0; rfl
   have hmem0 : ((r0.length : Nat) : Int) ∈ rows.map fun r => ((r.length : Nat) : Int) := List.mem_map.mpr ⟨r0, List.mem_of_getElem? er0, rfl⟩
   have hone := many_one hmem0
   unfold formM at k
   rw [eh] at k
   by_cases hl : rows.all (fun x => decide (x.length = r0.length)) = true
   · rw [if_pos hl] at k
     have hall : ∀ r ∈ rows, r.length = r0.length := fun r hr' => of_decide_eq_true (List.all_eq_true.mp hl r hr')
     have hm1 : manyI (rows.map fun r => ((r.length : Nat) : Int)) = 1 := hone.mpr fun x hx => by
       obtain ⟨r, hr', rfl⟩ := List.mem_map.mp hx
       rw [hall r hr']
     rw [hm1]
     refine iteF ?_
     have t3 := s2.trans s3
     have hl8 := (hok r0 (List.mem_of_getElem? er0)).2.1
     refine ⟨_, rfl, a, _, _, _, rfl, rfl, SqL.of (t3 _ _ ha), atI_nat (j := 0) (by rw [List.getElem?_map, eq0]; rfl), q0, _, rfl, .inr (SqT.of (t3 _ _ hq0)), _, rfl, by omega, by rw [List.length_map]; omega, ?_⟩
     rw [List.length_map, Int.toNat_natCast]
     intro D2 hD2'
     refine lc_range (n := r0.length) (fun i ys H4 => PtsAt H4 ys (partsM i rows) ∧ Same H3 H4 ∧ H4 D2 = some (.lst ys)) (Nat.le_of_lt (small1000 (by omega))) ⟨True.intro, (Same.refl H3).upd_free hD2', upd_same⟩
       (fun i ys H4 h => by rw [h.1.len]; unfold partsM; rw [List.length_map, List.length_range]; exact Nat.le_refl _) ?_ ?_
     · rintro i ys H4 N M hi ⟨hp, s4, hD4⟩ hN hM
       have i0 : 0 + (i : Int) = (i : Int) := Int.zero_add _
       rw [i0]
       have t4 := t3.trans s4
       refine ⟨_, rfl, _, rfl, i, a, qs, rows, rfl, t4 _ _ ha, hR.tsame t4.tups, h64, fun r hr' => by rw [hall r hr']; exact hi, fun l H5 s5 hl5 => ?_⟩
       refine ⟨l, rows.map (wAt i), rfl, hl5, by rw [List.length_map]; omega, by rw [List.length_map]; omega, fun z hz => ?_, fun v H6 s6 hv => ?_⟩
       · obtain ⟨r, hr', rfl⟩ := List.mem_map.mp hz
         exact (hok r hr').2.2 _ (wAt_mem (by rw [hall r hr']; exact hi))
       · have ts : TSame H6 (upd H6 D2 (.lst (ys ++ [v]))) := TSame.upd_lst (fun _ _ e => e) ((s5.trans s6) _ _ hD4)
         refine hN v H6 ((s5.trans s6) _ _ hD4) ⟨?_, (s4.trans (s5.trans s6)).upd_free hD2', upd_same⟩
         have e1 : partsM (i + 1) rows = partsM i rows ++ [partM (rows.map (wAt i))] := by
           unfold partsM
           rw [List.range_succ, List.map_append]
           rfl
         rw [e1]
         exact ((hp.tsame (s5.trans s6).tups).tsame ts).snoc (hv.tsame ts)
     · rintro ys H4 ⟨hp, s4, hD4⟩
       have t4 := t3.trans s4
       have hptx := parts_tx h1 hok hall
       refine ⟨_, rfl, D2, ys, .none, (partsM r0.length rows).map dPt, rfl, .inl (SqL.of hD4), hp.data, .non, ⟨rfl, by decide⟩, dPts_lay hptx, decide (none ∈ partsM r0.length rows), by rw [← any_none]; rfl, ?_⟩
       by_cases hn : none ∈ partsM r0.length rows
       · rw [decide_eq_true hn]
         rw [if_pos hn] at k
         exact iteT (k .non H4 t4 rfl)
       · rw [decide_eq_false hn]
         rw [if_neg hn] at k
         refine iteF ⟨_, rfl, D2, _, rfl, .inl ⟨SqL.of hD4, fun t ht => ?_⟩⟩
         have s5 := (Same.refl H4).upd_free (o := .tup ys) ht
         exact k (.ref t) _ (t4.trans s5) ⟨t, ys, rfl, upd_same, by rw [some_filter hn]; exact hp.tsame s5.tups⟩
   · rw [if_neg hl] at k
     have hm1 : ¬ ((manyI (rows.map fun r => ((r.length : Nat) : Int)) : Nat) : Int) = 1 := fun z => hl (List.all_eq_true.mpr fun r hr' => decide_eq_true (by
       have q := hone.mp (by omega) _ (List.mem_map.mpr ⟨r, hr', rfl⟩)
       omega))
     rw [decide_eq_false hm1]
     exact iteT (k .non H3 (s2.trans s3) rfl)
end
end SL
namespace SL
open PySem L2
section
variable {P : Program} {w : World} {K : W.Frag} {mg : Str → Option Value} {base : Heap}
theorem scNw : FnScope ["self"] ["self"] (defScope sNw) := .of (by decide +kernel)
theorem scAw : FnScope ["self"] ["self"] (defScope sAw) := .of (by decide +kernel)
theorem scIw : FnScope ["self"] ["self"] (defScope sIw) := .of (by decide +kernel)
theorem scKw : FnScope ["self"] ["self"] (defScope sKw) := .of (by decide +kernel)
theorem sorts_ok {C1 C2 C3 C4 t1 w1 t2 w2 t3 w3 t4 w4 fMo fIi fAl fSo : Addr} {ft1 fw1 ft2 fw2 ft3 fw3 ft4 fw4 fdMo fdIi fdAl fdSo : FuncData} (T : TS mg)
   (N : Kd K mg "Number" C1 t1 w1 ft1 fw1) (A : Kd K mg "Name" C2 t2 w2 ft2 fw2) (I : Kd K mg "Items" C3 t3 w3 ft3 fw3) (M : Kd K mg "Mark" C4 t4 w4 ft4 fw4)
   (F1 : Fun K "takes" "Number.takes" sNt t1 ft1) (G1 : Fun K "word" "Number.word" sNw w1 fw1) (F2 : Fun K "takes" "Name.takes" sAt t2 ft2) (G2 : Fun K "word" "Name.word" sAw w2 fw2)
   (F3 : Fun K "takes" "Items.takes" sIt t3 ft3) (G3 : Fun K "word" "Items.word" sIw w3 fw3) (F4 : Fun K "takes" "Mark.takes" sKt t4 ft4) (G4 : Fun K "word" "Mark.word" sKw w4 fw4)
   (FMo : Fun K "made_of" "made_of" sMo fMo fdMo) (bMo : Binds K fdMo ["signs", "text"] []) (gMo : mg "made_of" = some (.ref fMo))
   (FIi : Fun K "is_item" "is_item" sIi fIi fdIi) (bIi : Binds K fdIi ["text"] []) (gIi : mg "is_item" = some (.ref fIi))
   (FAl : Fun K "all_sorts" "all_sorts" sAl fAl fdAl) (bAl : Binds K fdAl [] []) (gAl : mg "all_sorts" = some (.ref fAl))
   (FSo : Fun K "sort_of" "sort_of" sSo fSo fdSo) : FnOk P w K mg base CX0 5 fSo fdSo ["text"] spSo := by
 have k1 : FnOk P w K mg base CX0 2 t1 ft1 ["self", "text"] (spTk isNum) := ok_nt F1 T FMo bMo gMo
 have k2 : FnOk P w K mg base CX0 2 t2 ft2 ["self", "text"] (spTk isName) := ok_at F2 T FMo bMo gMo
 have kI : FnOk P w K mg base CX0 3 fIi fdIi ["text"] spIi := ok_ii FIi N A k1 k2
 have k3 : FnOk P w K mg base CX0 4 t3 ft3 ["self", "text"] (spTk isList) := ok_it F3 T FIi bIi gIi kI
 have k4 : FnOk P w K mg base CX0 4 t4 ft4 ["self", "text"] (spTk isMark) := ok_kt F4 T FMo bMo gMo FIi bIi gIi kI
 have o1 : FnOk P w K mg base CX0 1 w1 fw1 ["self"] (spWo (So.str .num)) := ok_wo G1 scNw rfl
 have o2 : FnOk P w K mg base CX0 1 w2 fw2 ["self"] (spWo (So.str .nam)) := ok_wo G2 scAw rfl
 have o3 : FnOk P w K mg base CX0 1 w3 fw3 ["self"] (spWo (So.str .lis)) := ok_wo G3 scIw rfl
 have o4 : FnOk P w K mg base CX0 1 w4 fw4 ["self"] (spWo (So.str .mar)) := ok_wo G4 scKw rfl
 exact ok_so FSo FAl bAl gAl (ok_al FAl N A I M)
   ⟨N.cls, ⟨t1, ft1, N.mt, N.bt, k1.mono (by decide)⟩, ⟨w1, fw1, N.mw, N.bw, o1.mono (by decide)⟩⟩
   ⟨A.cls, ⟨t2, ft2, A.mt, A.bt, k2.mono (by decide)⟩, ⟨w2, fw2, A.mw, A.bw, o2.mono (by decide)⟩⟩
   ⟨I.cls, ⟨t3, ft3, I.mt, I.bt, k3⟩, ⟨w3, fw3, I.mw, I.bw, o3.mono (by decide)⟩⟩
   ⟨M.cls, ⟨t4, ft4, M.mt, M.bt, k4⟩, ⟨w4, fw4, M.mw, M.bw, o4.mono (by decide)⟩⟩
end
end SL
namespace SL
section
variable {α : Type} [DecidableEq α]
def unlF (met : List α) : List α → List α
 | [] => met
 | r :: rs => unlF (if r ∈ met then met else met ++ [r]) rs
def unl (rows : List α) : List α := unlF [] rows
theorem unlF_app (met a b : List α) : unlF met (a ++ b) = unlF (unlF met a) b := by
 induction a generalizing met with
 | nil => rfl
 | cons r a ih => exact ih _
theorem unl_snoc (a : List α) (r : α) : unl (a ++ [r]) = if r ∈ unl a then unl a else unl a ++ [r] := unlF_app [] a [r]
theorem mem_unlF (x : α) : ∀ (rs met : List α), x ∈ unlF met rs ↔ x ∈ met ∨ x ∈ rs
 | [], met => by simp [unlF]
 | r :: rs, met => by
   show x ∈ unlF (if r ∈ met then met else met ++ [r]) rs ↔ _
   rw [mem_unlF x rs]
   by_cases h : r ∈ met
   · rw [if_pos h, List.mem_cons]
     refine ⟨fun q => q.imp id .inr, fun q => ?_⟩
     rcases q with q | q | q
     · exact .inl q
     · subst q; exact .inl h
     · exact .inr q
   · rw [if_neg h, List.mem_append, List.mem_singleton, List.mem_cons, or_assoc]
theorem mem_unl (x : α) (rs : List α) : x ∈ unl rs ↔ x ∈ rs := by
 unfold unl
 rw [mem_unlF]
 simp
theorem unlF_nd : ∀ (rs met : List α), met.Nodup → (unlF met rs).Nodup
 | [], _, h => h
 | r :: rs, met, h => by
   refine unlF_nd rs _ ?_
   by_cases q : r ∈ met
   · rw [if_pos q]; exact h
   · rw [if_neg q, List.nodup_append]
     refine ⟨h, by simp, fun a ha b hb => ?_⟩
     have : b = r := by simpa using hb
     subst this
     intro e
     subst e
     exact q ha
theorem unl_nd (rs : List α) : (unl rs).Nodup := unlF_nd rs [] (by simp)
theorem unlF_id : ∀ (rs met : List α), (met ++ rs).Nodup → unlF met rs = met ++ rs
 | [], met, _ => by simp [unlF]
 | r :: rs, met, h => by
   have hn : r ∉ met := by
     rw [List.nodup_append] at h
     intro q
     exact h.2.2 r q r List.mem_cons_self rfl
   show unlF (if r ∈ met then met else met ++ [r]) rs = _
   rw [if_neg hn, unlF_id rs (met ++ [r]) (by simpa using h)]
   simp
end
end SL
namespace SL
open PySem L2
def takes (e : Str × Str) (w : Str) : Bool := if e.1 = sGap then decide ((lawS w).str = e.2) else decide (w = e.2)
def fitsB : List (Str × Str) → List Str → Bool
 | [], [] => true
 | e :: es, w :: r => takes e w && fitsB es r
 | _, _ => false
theorem fits_iff : ∀ (es : List (Str × Str)) (r : List Str), fitsB es r = true ↔ es.length = r.length ∧ ∀ (i : Nat) (e : Str × Str) (w : Str), es[i]? = some e → r[i]? = some w → takes e w = true
 | [], [] => by
   refine ⟨fun _ => ⟨rfl, fun i e w h => by simp at h⟩, fun _ => rfl⟩
 | [], w :: r => by
   exact ⟨fun h => (by cases h), fun h => (by have := h.1; simp at this)⟩
 | e :: es, [] => by
   exact ⟨fun h => (by cases h), fun h => (by have := h.1; simp at this)⟩
 | e :: es, w :: r => by
   show (takes e w && fitsB es r) = true ↔ _
   rw [Bool.and_eq_true, fits_iff es r]
   constructor
   · rintro ⟨h1, h2, h3⟩
     refine ⟨by simpa using h2, fun i e' w' g1 g2 => ?_⟩
     cases i with
     | zero => cases g1; cases g2; exact h1
     | succ i => exact h3 i e' w' (by simpa using g1) (by simpa using g2)
   · rintro ⟨h1, h2⟩
     exact ⟨h2 0 e w rfl rfl, by simpa using h1, fun i e' w' g1 g2 => h2 (i + 1) e' w' (by simpa using g1) (by simpa using g2)⟩
def nGaps (es : List (Str × Str)) : Nat := (es.filter fun e => decide (e.1 = sGap)).length
def fWith (most : Int) (rs : List (List Str)) : Option (List (Str × Str)) := match formM rs with
 | none => none
 | some es => if most < (nGaps es : Int) then none else some es
def rIn (ks : List (List Str)) (g : List Int) : List (List Str) := g.map fun i => ks.getD i.toNat []
def othersM (es : List (Str × Str)) (g : List Int) (ks : List (List Str)) : Bool := ((List.range ks.length).filter fun (j : Nat) => !decide ((j : Int) ∈ g)).any fun j => fitsB es (ks.getD j [])
def lastI (g : List Int) : Int := g.getLastD 0
def gOn (ks : List (List Str)) (most : Int) : Nat → List Int → List (List Int)
 | 0, _ => []
 | d + 1, g => match fWith most (rIn ks g) with
   | none => []
   | some es => (if othersM es g ks then [] else [g]) ++ (List.range ((ks.length : Int) - (lastI g + 1)).toNat).flatMap fun (k : Nat) => gOn ks most d (g ++ [lastI g + 1 + (k : Int)])
theorem last_snoc (g : List Int) (x : Int) : lastI (g ++ [x]) = x := by
 unfold lastI
 simp
structure GOk (n : Nat) (g : List Int) : Prop where
 ne : g ≠ []
 inc : g.Pairwise (· < ·)
 ran : ∀ x ∈ g, 0 ≤ x ∧ x < (n : Int)
theorem last_mem {g : List Int} (h : g ≠ []) : lastI g ∈ g := by
 obtain ⟨l, x, rfl⟩ : ∃ l x, g = l ++ [x] := ⟨g.dropLast, g.getLast h, (List.dropLast_concat_getLast h).symm⟩
 rw [last_snoc]
 simp
theorem last_max {n : Nat} {g : List Int} (h : GOk n g) : ∀ x ∈ g, x ≤ lastI g := by
 obtain ⟨l, y, rfl⟩ : ∃ l x, g = l ++ [x] := ⟨g.dropLast, g.getLast h.ne, (List.dropLast_concat_getLast h.ne).symm⟩
 rw [last_snoc]
 intro x hx
 rcases List.mem_append.mp hx with hx | hx
 · have := (List.pairwise_append.mp h.inc).2.2 x hx y (by simp)
   omega
 · rw [List.mem_singleton] at hx
   omega
theorem GOk.snoc {n : Nat} {g : List Int} {x : Int} (h : GOk n g) (h1 : lastI g < x) (h2 : x < (n : Int)) : GOk n (g ++ [x]) := by
 refine ⟨by simp, ?_, fun y hy => ?_⟩
 · rw [List.pairwise_append]
   refine ⟨h.inc, by simp, fun a ha b hb => ?_⟩
   rw [List.mem_singleton] at hb
   have := last_max h a ha
   omega
 · rcases List.mem_append.mp hy with hy | hy
   · exact h.ran y hy
   · rw [List.mem_singleton] at hy
     have := h.ran _ (last_mem h.ne)
     omega
theorem GOk.one {n : Nat} {x : Int} (h0 : 0 ≤ x) (h1 : x < (n : Int)) : GOk n [x] := ⟨by simp, by simp, fun y hy => by rw [List.mem_singleton] at hy; omega⟩
structure GGood (ks : List (List Str)) (most : Int) (g : List Int) : Prop where
 ok : GOk ks.length g
 wr : ∃ es, fWith most (rIn ks g) = some es ∧ othersM es g ks = false
theorem gOn_good {ks : List (List Str)} {most : Int} : ∀ (d : Nat) (g : List Int), GOk ks.length g → ∀ x ∈ gOn ks most d g, GGood ks most x ∧ g <+: x
 | 0, g, _, x, hx => by cases hx
 | d + 1, g, hg, x, hx => by
   unfold gOn at hx
   cases hf : fWith most (rIn ks g) with
   | none => rw [hf] at hx; cases hx
   | some es =>
     rw [hf] at hx
     rcases List.mem_append.mp hx with hx | hx
     · cases ho : othersM es g ks with
       | true => rw [ho] at hx; simp at hx
       | false =>
         rw [ho] at hx
         have : x = g := by simpa using hx
         subst this
         exact ⟨⟨hg, es, hf, ho⟩, List.prefix_refl _⟩
     · obtain ⟨k, hk, hx⟩ := List.mem_flatMap.mp hx
       have hk' := List.mem_range.mp hk
       have q := gOn_good d (g ++ [lastI g + 1 + (k : Int)]) (hg.snoc (by omega) (by omega)) x hx
       exact ⟨q.1, (List.prefix_append _ _).trans q.2⟩
theorem flat_len {ks : List (List Str)} {most : Int} {d : Nat} (ih : ∀ g : List Int, (gOn ks most d g).length ≤ 2 ^ ((ks.length : Int) - 1 - lastI g).toNat) : ∀ (c : Nat) (g : List Int) (j : Int), j + (c : Int) = (ks.length : Int) →
   ((List.range c).flatMap fun (k : Nat) => gOn ks most d (g ++ [j + (k : Int)])).length + 1 ≤ 2 ^ c
 | 0, g, j, _ => by simp
 | c + 1, g, j, h => by
   rw [List.range_succ_eq_map, List.flatMap_cons, List.length_append, List.flatMap_map]
   have q := flat_len ih c g (j + 1) (by omega)
   have e : (fun k : Nat => gOn ks most d (g ++ [j + ((Nat.succ k : Nat) : Int)])) = fun k : Nat => gOn ks most d (g ++ [j + 1 + (k : Int)]) := by
     funext k
     have : j + ((Nat.succ k : Nat) : Int) = j + 1 + (k : Int) := by omega
     rw [this]
   rw [e]
   have r := ih (g ++ [j + ((0 : Nat) : Int)])
   rw [last_snoc] at r
   have e2 : ((ks.length : Int) - 1 - (j + ((0 : Nat) : Int))).toNat = c := by omega
   rw [e2] at r
   rw [Nat.pow_succ]
   omega
theorem gOn_len {ks : List (List Str)} {most : Int} : ∀ (d : Nat) (g : List Int), (gOn ks most d g).length ≤ 2 ^ ((ks.length : Int) - 1 - lastI g).toNat
 | 0, g => Nat.zero_le _
 | d + 1, g => by
   unfold gOn
   cases fWith most (rIn ks g) with
   | none => exact Nat.zero_le _
   | some es =>
     show (_ ++ _ : List (List Int)).length ≤ _
     rw [List.length_append]
     have h1 : (if othersM es g ks = true then [] else [g]).length ≤ 1 := by
       cases othersM es g ks <;> simp
     by_cases hl : lastI g + 1 ≤ (ks.length : Int)
     · have q := flat_len (ks := ks) (most := most) (d := d) (gOn_len d) ((ks.length : Int) - (lastI g + 1)).toNat g (lastI g + 1) (by omega)
       have e : ((ks.length : Int) - 1 - lastI g).toNat = ((ks.length : Int) - (lastI g + 1)).toNat := by omega
       rw [e]
       omega
     · have e : ((ks.length : Int) - (lastI g + 1)).toNat = 0 := by omega
       rw [e]
       have : 0 < 2 ^ ((ks.length : Int) - 1 - lastI g).toNat := Nat.pow_pos (by decide)
       simp only [List.range_zero, List.flatMap_nil, List.length_nil]
       omega
theorem gOn_256 {ks : List (List Str)} {most : Int} {d : Nat} {g : List Int} (hn : ks.length ≤ 8) (h0 : 0 ≤ lastI g) : (gOn ks most d g).length ≤ 256 :=
 Nat.le_trans (gOn_len d g) (Nat.le_trans (Nat.pow_le_pow_right (by decide) (show ((ks.length : Int) - 1 - lastI g).toNat ≤ 8 by omega)) (by decide))
def fGr (ch : List (List (List Int))) : Nat → List Int → Option (List (List Int))
 | _, [] => some []
 | 0, _ :: _ => none
 | m + 1, x :: left => (ch.getD x.toNat []).findSome? fun g => if g.all (fun i => decide (i ∈ x :: left)) then (fGr ch m ((x :: left).filter fun i => !decide (i ∈ g))).map (g :: ·) else none
def nums (n : Nat) : List Int := (List.range n).map fun (i : Nat) => (i : Int)
def chM (ks : List (List Str)) (most : Int) : List (List (List Int)) := (nums ks.length).map fun i => gOn ks most 9 [i]
def groupsM (ks : List (List Str)) (most : Int) : List (List Int) := match (List.range ks.length).findSome? (fun m => fGr (chM ks most) m (nums ks.length)) with
 | some r => r
 | none => (nums ks.length).map fun i => [i]
structure Part (ks : List (List Str)) (most : Int) (left : List Int) (r : List (List Int)) : Prop where
 perm : r.flatten.Perm left
 hds : (r.map fun g => g.headD 0).Pairwise (· < ·)
 good : ∀ g ∈ r, GGood ks most g
theorem nums_inc (n : Nat) : (nums n).Pairwise (· < ·) := by
 unfold nums
 rw [List.pairwise_map]
 exact List.pairwise_lt_range.imp fun h => by omega
theorem mem_nums {n : Nat} {x : Int} : x ∈ nums n ↔ 0 ≤ x ∧ x < (n : Int) := by
 unfold nums
 rw [List.mem_map]
 constructor
 · rintro ⟨k, hk, rfl⟩
   have := List.mem_range.mp hk
   omega
 · rintro ⟨h0, h1⟩
   exact ⟨x.toNat, List.mem_range.mpr (by omega), by omega⟩
theorem inc_eq : ∀ (a b : List Int), a.Pairwise (· < ·) → b.Pairwise (· < ·) → (∀ x, x ∈ a ↔ x ∈ b) → a = b
 | [], [], _, _, _ => rfl
 | [], y :: b, _, _, h => by have := (h y).mpr List.mem_cons_self; simp at this
 | x :: a, [], _, _, h => by have := (h x).mp List.mem_cons_self; simp at this
 | x :: a, y :: b, ha, hb, h => by
   obtain ⟨a1, a2⟩ := List.pairwise_cons.mp ha
   obtain ⟨b1, b2⟩ := List.pairwise_cons.mp hb
   have e : x = y := by
     rcases List.mem_cons.mp ((h x).mp List.mem_cons_self) with q | q
     · exact q
     · rcases List.mem_cons.mp ((h y).mpr List.mem_cons_self) with r | r
       · exact r.symm
       · have := b1 x q
         have := a1 y r
         omega
   subst e
   rw [inc_eq a b a2 b2 fun z => ⟨fun hz => ?_, fun hz => ?_⟩]
   · rcases List.mem_cons.mp ((h z).mp (List.mem_cons_of_mem _ hz)) with q | q
     · have := a1 z hz
       omega
     · exact q
   · rcases List.mem_cons.mp ((h z).mpr (List.mem_cons_of_mem _ hz)) with q | q
     · have := b1 z hz
       omega
     · exact q
theorem ch_good {ks : List (List Str)} {most : Int} {x : Int} {g : List Int} (h : g ∈ (chM ks most).getD x.toNat []) (h0 : 0 ≤ x) (h1 : x < (ks.length : Int)) : GGood ks most g ∧ ∃ t, g = x :: t := by
 have e : (chM ks most).getD x.toNat [] = gOn ks most 9 [x] := by
   unfold chM nums
   have hx : x.toNat < ks.length := by omega
   have hz : ((x.toNat : Nat) : Int) = x := by omega
   simp [List.getD, hx, hz]
 rw [e] at h
 have q := gOn_good 9 [x] (GOk.one h0 h1) g h
 obtain ⟨t, ht⟩ := q.2
 exact ⟨q.1, t, ht.symm⟩
theorem fGr_part {ks : List (List Str)} {most : Int} : ∀ (m : Nat) (left : List Int) (r : List (List Int)), left.Pairwise (· < ·) → (∀ x ∈ left, 0 ≤ x ∧ x < (ks.length : Int)) → fGr (chM ks most) m left = some r → Part ks most left r
 | m, [], r, _, _, h => by
   have h' : some [] = some r := by
     cases m <;> exact h
   cases h'
   exact ⟨List.Perm.refl _, List.Pairwise.nil, fun g hg => by cases hg⟩
 | 0, x :: left, r, _, _, h => by cases h
 | m + 1, x :: left, r, hinc, hran, h => by
   unfold fGr at h
   obtain ⟨g, hg, hs⟩ := List.exists_of_findSome?_eq_some h
   have hx := hran x List.mem_cons_self
   obtain ⟨gg, t, rfl⟩ := ch_good hg hx.1 hx.2
   by_cases ha : (x :: t).all (fun i => decide (i ∈ x :: left)) = true
   · rw [if_pos ha] at hs
     cases hr : fGr (chM ks most) m ((x :: left).filter fun i => !decide (i ∈ x :: t)) with
     | none => rw [hr] at hs; cases hs
     | some o =>
       rw [hr] at hs
       cases hs
       have hsub : ∀ i ∈ x :: t, i ∈ x :: left := fun i hi => of_decide_eq_true (List.all_eq_true.mp ha i hi)
       have ri : ((x :: left).filter fun i => !decide (i ∈ x :: t)).Pairwise (· < ·) := hinc.sublist List.filter_sublist
       have P := fGr_part m _ o ri (fun y hy => hran y (List.mem_filter.mp hy).1) hr
       have eg : (x :: left).filter (fun i => decide (i ∈ x :: t)) = x :: t := inc_eq _ _ (hinc.sublist List.filter_sublist) gg.ok.inc fun y => by
         rw [List.mem_filter]
         exact ⟨fun z => of_decide_eq_true z.2, fun z => ⟨hsub y z, decide_eq_true z⟩⟩
       refine ⟨?_, ?_, fun g' hg' => ?_⟩
       · rw [List.flatten_cons]
         refine ((List.Perm.refl _).append P.perm).trans ?_
         have q := List.filter_append_perm (fun i => decide (i ∈ x :: t)) (x :: left)
         rw [eg] at q
         exact q
       · rw [List.map_cons, List.pairwise_cons]
         refine ⟨fun y hy => ?_, P.hds⟩
         obtain ⟨g', hg', rfl⟩ := List.mem_map.mp hy
         have hne := (P.good g' hg').ok.ne
         have hm : g'.headD 0 ∈ g' := by
           cases g' with
           | nil => exact absurd rfl hne
           | cons a b => exact List.mem_cons_self
         have hm2 : g'.headD 0 ∈ o.flatten := List.mem_flatten.mpr ⟨g', hg', hm⟩
         have hm3 := List.mem_filter.mp (P.perm.mem_iff.mp hm2)
         show x < _
         rcases List.mem_cons.mp hm3.1 with e | e
         · have : ¬ (g'.headD 0 ∈ x :: t) := by simpa using hm3.2
           exact absurd (by rw [e]; exact List.mem_cons_self) this
         · exact (List.pairwise_cons.mp hinc).1 _ e
       · rcases List.mem_cons.mp hg' with e | e
         · rw [e]; exact gg
         · exact P.good g' e
   · rw [if_neg ha] at hs
     cases hs
theorem all_one (w : Str) : partM [w] = some (sWord, w) := by
 unfold partM partF
 simp
theorem parts_one (r : List Str) : partsM r.length [r] = r.map fun w => some (sWord, w) := by
 unfold partsM
 apply List.ext_getElem
 · simp
 · intro i h1 h2
   have h3 : i < r.length := by simpa using h1
   simp [all_one, wAt, h3]
theorem form_one (r : List Str) : formM [r] = some (r.map fun w => (sWord, w)) := by
 unfold formM
 have e : ([r] : List (List Str)).headD [] = r := rfl
 rw [e, parts_one, if_pos (by simp), if_neg (by simp)]
 congr 1
 rw [List.filterMap_map]
 induction r with
 | nil => rfl
 | cons w r ih =>
   simp
theorem gap_word : sWord ≠ sGap := by decide +kernel
theorem gaps_one (r : List Str) : nGaps (r.map fun w => (sWord, w)) = 0 := by
 unfold nGaps
 rw [List.filter_map, List.length_map]
 have : (r.filter ((fun e : Str × Str => decide (e.1 = sGap)) ∘ fun w => (sWord, w))) = [] := by
   rw [List.filter_eq_nil_iff]
   intro w _
   simp [gap_word]
 rw [this]
 rfl
theorem fits_one : ∀ (r s : List Str), fitsB (r.map fun w => (sWord, w)) s = true → s = r
 | [], [], _ => rfl
 | [], _ :: _, h => by cases h
 | _ :: _, [], h => by cases h
 | w :: r, v :: s, h => by
   have h' : (takes (sWord, w) v && fitsB (r.map fun w => (sWord, w)) s) = true := h
   rw [Bool.and_eq_true] at h'
   have e : v = w := by
     have := h'.1
     unfold takes at this
     rw [if_neg gap_word] at this
     exact of_decide_eq_true this
   rw [e, fits_one r s h'.2]
theorem single_good {ks : List (List Str)} {most x : Int} (hm : 0 ≤ most) (nd : ks.Nodup) (h0 : 0 ≤ x) (h1 : x < (ks.length : Int)) : GGood ks most [x] := by
 refine ⟨GOk.one h0 h1, (ks.getD x.toNat []).map fun w => (sWord, w), ?_, ?_⟩
 · unfold fWith rIn
   rw [List.map_cons, List.map_nil, form_one]
   show (if most < _ then none else some _) = _
   rw [gaps_one, if_neg (by omega)]
 · unfold othersM
   rw [Bool.eq_false_iff]
   intro h
   obtain ⟨j, hj, hf⟩ := List.any_eq_true.mp h
   obtain ⟨hj1, hj2⟩ := List.mem_filter.mp hj
   have hj3 := List.mem_range.mp hj1
   have hx : x.toNat < ks.length := by omega
   have e := fits_one _ _ hf
   have ej : ks.getD j [] = ks[j] := by simp [List.getD, hj3]
   have ex : ks.getD x.toNat [] = ks[x.toNat] := by simp [List.getD, hx]
   rw [ej, ex] at e
   have := (List.getElem_inj nd).mp e
   have hn : ¬ ((j : Int) ∈ [x]) := by simpa using hj2
   exact hn (by rw [List.mem_singleton]; omega)
theorem groups_part {ks : List (List Str)} {most : Int} (hm : 0 ≤ most) (nd : ks.Nodup) : Part ks most (nums ks.length) (groupsM ks most) := by
 unfold groupsM
 cases h : (List.range ks.length).findSome? (fun m => fGr (chM ks most) m (nums ks.length)) with
 | some r =>
   obtain ⟨m, _, hr⟩ := List.exists_of_findSome?_eq_some h
   exact fGr_part m _ r (nums_inc _) (fun x hx => mem_nums.mp hx) hr
 | none =>
   refine ⟨?_, ?_, fun g hg => ?_⟩
   · have e : ((nums ks.length).map fun i => [i]).flatten = nums ks.length := by
       generalize nums ks.length = l
       induction l with
       | nil => rfl
       | cons a l ih => rw [List.map_cons, List.flatten_cons, ih]; rfl
     show (((nums ks.length).map fun i => [i]).flatten).Perm _
     rw [e]
   · show (((nums ks.length).map fun i => [i]).map fun g => g.headD 0).Pairwise _
     rw [List.map_map]
     have e : ((fun g : List Int => g.headD 0) ∘ fun i => [i]) = id := rfl
     rw [e, List.map_id]
     exact nums_inc _
   · obtain ⟨x, hx, rfl⟩ := List.mem_map.mp hg
     have := mem_nums.mp hx
     exact single_good hm nd this.1 this.2
end SL
namespace SL
open PySem L2
def spUn : Sp := fun vs H Q _ => ∃ (a : Addr) (qs : List Addr) (rows : List (List Str)), vs = [.ref a] ∧ H a = some (.tup (qs.map V.ref)) ∧ RowsAt H qs rows ∧ rows.length ≤ 900 ∧
 ∀ (p : Addr) (qs' : List Addr) (H' : Hp), Same H H' → H' p = some (.tup (qs'.map V.ref)) → RowsAt H' qs' (unl rows) → Q (.ref p) H'
section
variable {P : Program} {w : World} {K : W.Frag} {mg : Str → Option Value} {base : Heap}
theorem scUn : FnScope ["rows", "met", "row"] ["rows"] (defScope sUn) := .of (by decide +kernel)
theorem unl_len {α : Type} [DecidableEq α] : ∀ (rs met : List α), (unlF met rs).length ≤ met.length + rs.length
 | [], met => by simp [unlF]
 | r :: rs, met => by
   have q := unl_len rs (if r ∈ met then met else met ++ [r])
   have : (if r ∈ met then met else met ++ [r]).length ≤ met.length + 1 := by
     split
     · omega
     · rw [List.length_append, List.length_singleton]; omega
   show (unlF (if r ∈ met then met else met ++ [r]) rs).length ≤ _
   rw [List.length_cons]
   omega
theorem ok_un {f : Addr} {fd : FuncData} (F : Fun K "unlike" "unlike" sUn f fd) (T : Txt mg) : FnOk P w K mg base CX0 1 f fd ["rows"] spUn := by
 refine F.ok scUn (fun vs H Q E h => ?_) (fun cdv A outer s H vs Q E hr h => ?_)
 · obtain ⟨a, qs, rows, rfl, _⟩ := h
   rfl
 · obtain ⟨a, qs, rows, rfl, ha, hR, hlen, k⟩ := h
   have hu := hr.units
   refine ⟨_, pss_cons (ps_set (i := 1) scUn.nd rfl (Or.inl rfl) (pe_lst pa_nil))
     (pss_cons (ps_for PassesOwn.never rfl (pi_tup (pv 0)) (pg_name (i := 2) scUn.nd rfl (Or.inl rfl))
       (pss_one (ps_if (pt_cmpR (op_notInD hu) (pv 2) (pv 1) (by with_unfolding_all rfl)) (pss_one (ps_expr (pe_bm PySem.F.plainAttrs_list PySem.F.slot_list_append PySem.F.type_list_append mt_append (pv 1) (pa_cons (pv 2) pa_nil)))) pss_nil)))
     (pss_one (ps_ret (pe_callTy call_tuple_of (by rfl) T.tuple PyProof.Rows.boot_tuple (pa_cons (pv 1) pa_nil))))), ?_⟩
   refine ⟨Nat.zero_le _, fun l hl => ?_⟩
   refine ⟨_, rfl, a, rfl, ⟨_, SqT.of (((Same.refl H).upd_free hl) _ _ ha)⟩, ?_⟩
   have hql : (qs.map V.ref).length = rows.length := by rw [List.length_map]; exact hR.1
   refine for_tup (K := K) (a := a) (xs := qs.map V.ref) (fun i σ H2 => ∃ (ps : List Addr) (v : Option V), σ = [some (.ref a), some (.ref l), v] ∧ Same H H2 ∧ H2 l = some (.lst (ps.map V.ref)) ∧ RowsAt H2 ps (unl (rows.take i)))
     ⟨[], none, rfl, (Same.refl H).upd_free hl, upd_same, by rw [List.take_zero]; exact RowsAt.nil⟩ (fun i σ H2 _ ⟨_, _, _, s2, _⟩ => SqT.of (s2 _ _ ha)) ?_ ?_
   · rintro i x σ H2 hx ⟨ps, v, rfl, s2, hL, hM⟩
     have hi : i < rows.length := by
       have := (List.getElem?_eq_some_iff.mp hx).1
       omega
     obtain ⟨r, q, er, eq, hq, hok⟩ := row_get hR hi
     rw [List.getElem?_map, eq] at hx
     cases hx
     have hd := rows_data (K := K) _ _ hM
     have tk : rows.take (i + 1) = rows.take i ++ [r] := by rw [List.take_add_one, er]; rfl
     refine ⟨_, rfl, _, rfl, l, _, dRow r, _, rfl, .inl (SqL.of hL), hd.1, .tup (SqT.of (s2 _ _ hq)) (strs_at r), row_ok hok.2, hd.2, _, rfl, ?_⟩
     rw [any_row]
     have hml : (unl (rows.take i)).length ≤ 900 := by
       have q := unl_len (rows.take i) []
       have q2 : (rows.take i).length ≤ rows.length := by rw [List.length_take]; omega
       rw [List.length_nil] at q
       unfold unl
       omega
     by_cases hin : r ∈ unl (rows.take i)
     · rw [decide_eq_true hin]
       refine iteF ?_
       refine ⟨ps, _, rfl, s2, hL, ?_⟩
       rw [tk, unl_snoc, if_pos hin]
       exact hM
     · rw [decide_eq_false hin]
       refine iteT ?_
       refine ⟨_, rfl, .inl ⟨rfl, _, SqL.of hL⟩, _, rfl, l, _, _, rfl, rfl, hL, ?_, ?_⟩
       · rw [List.length_map, hM.1]
         exact small1000 (by omega)
       · have ts : TSame H2 (upd H2 l (.lst (ps.map V.ref ++ [.ref q]))) := TSame.upd_lst (fun _ _ e => e) hL
         refine ⟨ps ++ [q], _, rfl, s2.upd_free hl, ?_, ?_⟩
         · rw [upd_same, List.map_append]
           rfl
         · rw [tk, unl_snoc, if_neg hin]
           exact (hM.tsame ts).snoc (ts _ _ (s2 _ _ hq)) hok
   · rintro σ H2 ⟨ps, v, rfl, s2, hL, hM⟩
     rw [hql, List.take_of_length_le (Nat.le_refl _)] at hM
     refine ⟨_, rfl, l, _, rfl, .inl ⟨SqL.of hL, fun p hp => ?_⟩⟩
     have s3 : Same H2 (upd H2 p (.tup (ps.map V.ref))) := (Same.refl H2).upd_free hp
     exact k p ps _ (s2.trans s3) upd_same (hM.tsame s3.tups)
end
def FoAt (H : Hp) (p : Addr) (es : List (Str × Str)) : Prop := ∃ vs, H p = some (.tup vs) ∧ PtsAt H vs (es.map some)
theorem FoAt.same {H H' : Hp} {p : Addr} {es : List (Str × Str)} (h : FoAt H p es) (s : Same H H') : FoAt H' p es := by
 obtain ⟨vs, h1, h2⟩ := h
 exact ⟨vs, s _ _ h1, h2.tsame s.tups⟩
theorem FoAt.get {H : Hp} {vs : List V} {es : List (Str × Str)} {i : Nat} {e : Str × Str} (h : PtsAt H vs (es.map some)) (he : es[i]? = some e) : ∃ q, vs[i]? = some (.ref q) ∧ H q = some (.tup [.str e.1, .str e.2]) := by
 have hi : i < vs.length := by
   rw [h.len, List.length_map]
   exact (List.getElem?_eq_some_iff.mp he).1
 obtain ⟨e', g1, g2⟩ := h.get (i := i) (v := vs[i]) (by simp [hi])
 rw [List.getElem?_map, he] at g1
 cases g1
 revert g2
 cases hv : vs[i] with
 | ref q => exact fun g2 => ⟨q, by simp [hi, hv], g2⟩
 | _ => exact fun g2 => (show False from g2).elim
def spIg : Sp := fun vs H Q _ => ∃ (q : Addr) (e : Str × Str), vs = [.ref q] ∧ H q = some (.tup [.str e.1, .str e.2]) ∧ Q (.bl (decide (e.1 = sGap))) H
def spPt : Sp := fun vs H Q _ => ∃ (q : Addr) (e : Str × Str) (z : Str), vs = [.ref q, .str z] ∧ H q = some (.tup [.str e.1, .str e.2]) ∧ Wd z ∧ ∀ H', Same H H' → Q (.bl (takes e z)) H'
def spFm : Sp := fun vs H Q _ => ∃ (p a : Addr) (es : List (Str × Str)) (r : List Str), vs = [.ref p, .ref a] ∧ FoAt H p es ∧ es.length ≤ 64 ∧ H a = some (.tup (r.map V.str)) ∧ RowOk r ∧
 (fitsB es r = true → ∀ H', Same H H' → Q .non H') ∧ (fitsB es r = false → ∀ (i : Int) (H' : Hp), Same H H' → Q (.int i) H')
def spWr : Sp := fun vs H Q _ => ∃ (p a : Addr) (es : List (Str × Str)) (r : List Str), vs = [.ref p, .ref a] ∧ FoAt H p es ∧ es.length ≤ 64 ∧ H a = some (.tup (r.map V.str)) ∧ RowOk r ∧ ∀ H', Same H H' → Q (.bl (fitsB es r)) H'
section
variable {P : Program} {w : World} {K : W.Frag} {mg : Str → Option Value} {base : Heap}
theorem scIg : FnScope ["part"] ["part"] (defScope sIg) := .of (by decide +kernel)
theorem ok_ig {f : Addr} {fd : FuncData} (F : Fun K "is_gap" "is_gap" sIg f fd) : FnOk P w K mg base CX0 1 f fd ["part"] spIg := by
 refine F.ok scIg (fun vs H Q E h => ?_) (fun cdv A outer s H vs Q E hr h => ?_)
 · obtain ⟨q, e, rfl, _⟩ := h
   rfl
 · obtain ⟨q, e, rfl, hq, k⟩ := h
   refine ⟨_, pss_one (ps_ret (pe_cmpR op_eq (pe_ix ix_tup (pv 0) pe_int (fun _ _ => rfl)) pe_str (nomark _))), ?_⟩
   refine ⟨_, rfl, q, _, _, _, rfl, rfl, SqT.of hq, rfl, rfl, ?_⟩
   rw [dec_str]
   exact k
theorem scPt : FnScope ["part", "word"] ["part", "word"] (defScope sPt) := .of (by decide +kernel)
theorem ok_pt {f fG fS : Addr} {fd fdG fdS : FuncData} (F : Fun K "part_takes" "part_takes" sPt f fd) (FG : Fun K "is_gap" "is_gap" sIg fG fdG) (bG : Binds K fdG ["part"] []) (gG : mg "is_gap" = some (.ref fG))
   (FS : Fun K "sort_of" "sort_of" sSo fS fdS) (bS : Binds K fdS ["text"] []) (gS : mg "sort_of" = some (.ref fS)) (GS : FnOk P w K mg base CX0 5 fS fdS ["text"] spSo) : FnOk P w K mg base CX0 6 f fd ["part", "word"] spPt := by
 have GG : FnOk P w K mg base CX0 1 fG fdG ["part"] spIg := ok_ig FG
 refine F.ok scPt (fun vs H Q E h => ?_) (fun cdv A outer s H vs Q E hr h => ?_)
 · obtain ⟨q, e, z, rfl, _⟩ := h
   rfl
 · obtain ⟨q, e, z, rfl, hq, hz, k⟩ := h
   have hr1 : Room 1 _ := hr.mono (by decide)
   refine ⟨_, pss_cons (ps_if (pt_val (pe_call GG hr1 rfl gG FG.kp bG .nil pass0 (pa_cons (pv 0) pa_nil))) (pss_one (ps_ret (pe_cmpR op_eq (pe_call GS hr rfl gS FS.kp bS .nil pass0 (pa_cons (pv 1) pa_nil)) (pe_ix ix_tup (pv 0) pe_int (fun _ _ => rfl)) (nomark _)))) pss_nil)
     (pss_one (ps_ret (pe_cmpR op_eq (pv 1) (pe_ix ix_tup (pv 0) pe_int (fun _ _ => rfl)) (nomark _)))), ?_⟩
   refine ⟨_, rfl, q, e, rfl, hq, _, rfl, ?_⟩
   unfold takes at k
   by_cases he : e.1 = sGap
   · rw [decide_eq_true he]
     rw [if_pos he] at k
     refine iteT ⟨_, rfl, z, rfl, hz.tx.1.mono (by decide), fun H1 s1 => ?_⟩
     rw [hz.sort]
     refine ⟨_, rfl, q, _, _, _, rfl, rfl, SqT.of (s1 _ _ hq), rfl, rfl, ?_⟩
     have e1 : decide (vS (some (lawS z)) = V.str e.2) = decide ((lawS z).str = e.2) := dec_str _ _
     rw [e1]
     exact k H1 s1
   · rw [decide_eq_false he]
     rw [if_neg he] at k
     refine iteF ⟨_, rfl, _, rfl, q, _, _, _, rfl, rfl, SqT.of hq, rfl, rfl, ?_⟩
     rw [dec_str]
     exact k H (Same.refl H)
theorem scFm : FnScope ["parts", "words", "shared", "at"] ["parts", "words"] (defScope sFm) := .of (by decide +kernel)
theorem ok_fm {f fP : Addr} {fd fdP : FuncData} (F : Fun K "first_misfit" "first_misfit" sFm f fd) (T : Txt mg) (hmin : mg "min" = none) (FP : Fun K "part_takes" "part_takes" sPt fP fdP) (bP : Binds K fdP ["part", "word"] []) (gP : mg "part_takes" = some (.ref fP)) (GP : FnOk P w K mg base CX0 6 fP fdP ["part", "word"] spPt) :
   FnOk P w K mg base CX0 7 f fd ["parts", "words"] spFm := by
 refine F.ok scFm (fun vs H Q E h => ?_) (fun cdv A outer s H vs Q E hr h => ?_)
 · obtain ⟨p, a, es, r, rfl, _⟩ := h
   rfl
 · obtain ⟨p, a, es, r, rfl, ⟨vs, hp, hP⟩, h64, ha, hR, k1, k2⟩ := h
   have hvl : vs.length = es.length := by rw [hP.len, List.length_map]
   have h8 := hR.2.1
   refine ⟨_, pss_cons (ps_cut (ps_set (i := 2) scFm.nd rfl (Or.inl rfl) (pe_callB (call_min2 rfl) (by rfl) hmin PyProof.Rows.boot_min (pa_cons (pe_callB call_len_seq (by rfl) T.len PySem.boot_len (pa_cons (pv 0) pa_nil)) (pa_cons (pe_callB call_len_seq (by rfl) T.len PySem.boot_len (pa_cons (pv 1) pa_nil)) pa_nil)))))
     (pss_cons (ps_for PassesOwn.never rfl (pi_range1 rfl T.range (pa_cons (pv 2) pa_nil)) (pg_name (i := 3) scFm.nd rfl (Or.inl rfl))
       (pss_one (ps_if (pt_not (pt_val (pe_call GP hr rfl gP FP.kp bP .nil pass0 (pa_cons (pe_ix ix_tup (pv 0) (pv 3) (fun _ _ => rfl)) (pa_cons (pe_ix ix_tup (pv 1) (pv 3) (fun _ _ => rfl)) pa_nil))))) (pss_one (ps_ret (pv 3))) pss_nil)))
     (pss_one (ps_ret (pe_ifExp (pt_cmpR op_eq (pe_callB call_len_seq (by rfl) T.len PySem.boot_len (pa_cons (pv 0) pa_nil)) (pe_callB call_len_seq (by rfl) T.len PySem.boot_len (pa_cons (pv 1) pa_nil)) (nomark _)) pe_non (pv 2))))), ?_⟩
   refine ⟨fun σ' H' => σ' = [some (.ref p), some (.ref a), some (.int ((min es.length r.length : Nat) : Int)), none] ∧ H = H', ?_, ?_⟩
   · refine ⟨_, rfl, p, _, rfl, .inr (SqT.of hp), _, rfl, a, _, rfl, .inr (SqT.of ha), _, _, rfl, ?_⟩
     refine ⟨?_, rfl⟩
     rw [hvl, List.length_map]
     have e : (if ((r.length : Nat) : Int) < ((es.length : Nat) : Int) then ((r.length : Nat) : Int) else ((es.length : Nat) : Int)) = ((min es.length r.length : Nat) : Int) := by
       split <;> omega
     rw [e]
     rfl
   rintro σ' H' ⟨rfl, rfl⟩
   refine ⟨_, rfl, _, rfl, by omega, by omega, ?_⟩
   rw [Int.toNat_natCast]
   refine for_range (n := min es.length r.length) (fun i σ H2 => (∃ v, σ = [some (.ref p), some (.ref a), some (.int ((min es.length r.length : Nat) : Int)), v]) ∧ Same H H2 ∧ ∀ (j : Nat) (e : Str × Str) (z : Str), j < i → es[j]? = some e → r[j]? = some z → takes e z = true) ⟨⟨none, rfl⟩, Same.refl H, fun j e z hj => by omega⟩ ?_ ?_
   · rintro i σ H2 hi ⟨⟨v, rfl⟩, s2, hall⟩
     have i0 : 0 + (i : Int) = (i : Int) := Int.zero_add _
     rw [i0]
     obtain ⟨e, he⟩ : ∃ e, es[i]? = some e := ⟨es[i]'(by omega), by simp⟩
     obtain ⟨z, hz⟩ : ∃ z, r[i]? = some z := ⟨r[i]'(by omega), by simp⟩
     obtain ⟨q, hq1, hq2⟩ := FoAt.get hP he
     refine ⟨_, rfl, _, rfl, p, _, _, _, rfl, rfl, SqT.of (s2 _ _ hp), atI_nat hq1, _, rfl, _, rfl, a, _, _, _, rfl, rfl, SqT.of (s2 _ _ ha), atI_nat (by rw [List.getElem?_map, hz]; rfl), q, e, z, rfl, s2 _ _ hq2, hR.2.2 z (List.mem_of_getElem? hz), fun H3 s3 => ?_⟩
     refine ⟨_, rfl, ?_⟩
     cases ht : takes e z with
     | false =>
       refine iteT ⟨_, rfl, k2 ?_ _ H3 (s2.trans s3)⟩
       cases hf : fitsB es r with
       | false => rfl
       | true =>
         have := ((fits_iff es r).mp hf).2 i e z he hz
         rw [ht] at this
         cases this
     | true =>
       refine iteF ⟨⟨_, rfl⟩, s2.trans s3, fun j e' z' hj he' hz' => ?_⟩
       by_cases h : j < i
       · exact hall j e' z' h he' hz'
       · have : j = i := by omega
         subst this
         rw [he] at he'
         rw [hz] at hz'
         cases he'
         cases hz'
         exact ht
   · rintro σ H2 ⟨⟨v, rfl⟩, s2, hall⟩
     refine ⟨_, rfl, p, _, rfl, .inr (SqT.of (s2 _ _ hp)), _, rfl, a, _, rfl, .inr (SqT.of (s2 _ _ ha)), rfl, _, rfl, ?_⟩
     rw [dec_intV, hvl, List.length_map]
     by_cases hl : es.length = r.length
     · rw [decide_eq_true (by rw [hl])]
       refine iteT (k1 ((fits_iff es r).mpr ⟨hl, fun j e z he hz => hall j e z ?_ he hz⟩) H2 s2)
       have := (List.getElem?_eq_some_iff.mp he).1
       omega
     · rw [decide_eq_false (by omega)]
       refine iteF ⟨_, rfl, k2 ?_ _ H2 s2⟩
       cases hf : fitsB es r with
       | false => rfl
       | true => exact absurd ((fits_iff es r).mp hf).1 hl
theorem scWr : FnScope ["form", "row"] ["form", "row"] (defScope sWr) := .of (by decide +kernel)
theorem ok_wr {f fM : Addr} {fd fdM : FuncData} (F : Fun K "writes" "writes" sWr f fd) (FM : Fun K "first_misfit" "first_misfit" sFm fM fdM) (bM : Binds K fdM ["parts", "words"] []) (gM : mg "first_misfit" = some (.ref fM)) (GM : FnOk P w K mg base CX0 7 fM fdM ["parts", "words"] spFm) :
   FnOk P w K mg base CX0 8 f fd ["form", "row"] spWr := by
 refine F.ok scWr (fun vs H Q E h => ?_) (fun cdv A outer s H vs Q E hr h => ?_)
 · obtain ⟨p, a, es, r, rfl, _⟩ := h
   rfl
 · obtain ⟨p, a, es, r, rfl, hp, h64, ha, hR, k⟩ := h
   refine ⟨_, pss_one (ps_ret (pe_cmp (pc_isN (pe_call GM hr rfl gM FM.kp bM .nil pass0 (pa_cons (pv 0) (pa_cons (pv 1) pa_nil)))))), ?_⟩
   refine ⟨_, rfl, _, rfl, p, a, es, r, rfl, hp, h64, ha, hR, fun hf H' s' => ?_, fun hf i H' s' => ?_⟩
   · have q := k H' s'
     rw [hf] at q
     exact q
   · have q := k H' s'
     rw [hf] at q
     exact q
end
end SL
namespace SL
open PySem L2
def GAt (H : Hp) : List V → List (List Int) → Prop
 | [], [] => True
 | v :: vs, g :: gs => (∃ q, v = V.ref q ∧ H q = some (.tup (g.map V.int))) ∧ GAt H vs gs
 | _, _ => False
theorem GAt.tsame {H H' : Hp} (s : TSame H H') : ∀ {vs : List V} {gs : List (List Int)}, GAt H vs gs → GAt H' vs gs
 | [], [], _ => True.intro
 | _ :: _, _ :: _, ⟨⟨q, h1, h2⟩, h3⟩ => ⟨⟨q, h1, s _ _ h2⟩, GAt.tsame s h3⟩
 | [], _ :: _, h => h.elim
 | _ :: _, [], h => h.elim
theorem GAt.len {H : Hp} : ∀ {vs : List V} {gs : List (List Int)}, GAt H vs gs → vs.length = gs.length
 | [], [], _ => rfl
 | _ :: _, _ :: _, ⟨_, h2⟩ => by rw [List.length_cons, List.length_cons, GAt.len h2]
 | [], _ :: _, h => h.elim
 | _ :: _, [], h => h.elim
theorem GAt.app {H : Hp} : ∀ {vs us : List V} {gs hs : List (List Int)}, GAt H vs gs → GAt H us hs → GAt H (vs ++ us) (gs ++ hs)
 | [], _, [], _, _, h => h
 | _ :: _, _, _ :: _, _, ⟨h1, h2⟩, h => ⟨h1, GAt.app h2 h⟩
 | [], _, _ :: _, _, h, _ => h.elim
 | _ :: _, _, [], _, h, _ => h.elim
theorem GAt.get {H : Hp} : ∀ {vs : List V} {gs : List (List Int)} {i : Nat} {v : V}, GAt H vs gs → vs[i]? = some v → ∃ g q, gs[i]? = some g ∧ v = .ref q ∧ H q = some (.tup (g.map V.int))
 | [], [], i, v, _, h => by simp at h
 | x :: vs, g :: gs, 0, v, ⟨⟨q, h1, h2⟩, _⟩, h => by
   cases h
   exact ⟨g, q, rfl, h1, h2⟩
 | x :: vs, g :: gs, i + 1, v, ⟨_, h2⟩, h => by
   obtain ⟨g', q, e1, e2⟩ := GAt.get (i := i) h2 (by simpa using h)
   exact ⟨g', q, by simpa using e1, e2⟩
 | [], _ :: _, _, _, h, _ => h.elim
 | _ :: _, [], _, _, h, _ => h.elim
theorem inV_nums (t : Int) : ∀ fs : List Int, inV (.int t) (fs.map V.int) = decide (t ∈ fs)
 | [] => rfl
 | a :: fs => by
   show (eqV (.int a) (.int t) || inV (.int t) (fs.map V.int)) = _
   rw [inV_nums t fs]
   show ((a == t) || decide (t ∈ fs)) = decide (t ∈ a :: fs)
   by_cases h : a = t
   · subst h
     simp
   · have : (a == t) = false := by simpa using h
     rw [this, Bool.false_or]
     exact decide_eq_decide.mpr ⟨List.mem_cons_of_mem _, fun z => (List.mem_cons.mp z).elim (fun z => absurd z.symm h) id⟩
theorem flat_nums (ns : List Int) : (ns.map V.int).all flatV = true := by
 rw [List.all_map]
 exact List.all_eq_true.mpr fun _ _ => rfl
def spFw : Sp := fun vs H Q _ => ∃ (a : Addr) (qs : List Addr) (rows : List (List Str)) (most : Int), vs = [.ref a, .int most] ∧ H a = some (.lst (qs.map V.ref)) ∧ RowsAt H qs rows ∧ rows.length ≤ 64 ∧ 1 ≤ rows.length ∧ (∀ r ∈ rows, RowOk r) ∧ ∀ (v : V) (H' : Hp), Same H H' → FmAt H' v (fWith most rows) → Q v H'
def spRi : Sp := fun vs H Q _ => ∃ (q a : Addr) (g : List Int) (qs : List Addr) (ks : List (List Str)), vs = [.ref q, .ref a] ∧ H q = some (.tup (g.map V.int)) ∧ H a = some (.tup (qs.map V.ref)) ∧ RowsAt H qs ks ∧ g.length ≤ 64 ∧ (∀ x ∈ g, 0 ≤ x ∧ x < (ks.length : Int)) ∧
 ∀ (l : Addr) (qs' : List Addr) (H' : Hp), Same H H' → H' l = some (.lst (qs'.map V.ref)) → RowsAt H' qs' (rIn ks g) → Q (.ref l) H'
def spWt : Sp := fun vs H Q _ => ∃ (p q a : Addr) (es : List (Str × Str)) (g : List Int) (qs : List Addr) (ks : List (List Str)), vs = [.ref p, .ref q, .ref a] ∧ FoAt H p es ∧ es.length ≤ 64 ∧ H q = some (.tup (g.map V.int)) ∧ H a = some (.tup (qs.map V.ref)) ∧ RowsAt H qs ks ∧ ks.length ≤ 64 ∧ (∀ r ∈ ks, RowOk r) ∧
 ∀ H', Same H H' → Q (.bl (othersM es g ks)) H'
def spGo (d : Nat) : Sp := fun vs H Q _ => ∃ (q a : Addr) (g : List Int) (qs : List Addr) (ks : List (List Str)) (most : Int), vs = [.ref q, .ref a, .int most] ∧ H q = some (.tup (g.map V.int)) ∧ H a = some (.tup (qs.map V.ref)) ∧ RowsAt H qs ks ∧ ks.length ≤ 8 ∧ (∀ r ∈ ks, RowOk r) ∧ GOk ks.length g ∧ (ks.length : Int) - lastI g ≤ (d : Int) ∧
 ∀ (l : Addr) (vs : List V) (H' : Hp), Same H H' → H l = none → H' l = some (.lst vs) → GAt H' vs (gOn ks most d g) → Q (.ref l) H'
section
variable {P : Program} {w : World} {K : W.Frag} {mg : Str → Option Value} {base : Heap}
theorem scFw : FnScope ["rows", "most", "form"] ["rows", "most"] (defScope sFw) := .of (by decide +kernel)
def scopeFw : Scope := ⟨.function, [(".0", .local), ("part", .local), ("is_gap", .globalImplicit)], false, false, []⟩
theorem scFw1 : BlkScope (defScope sFw) ["rows", "most", "form"] ["part"] [] [] scopeFw := .of (by decide +kernel)
theorem form_len {rows : List (List Str)} {es : List (Str × Str)} (h : formM rows = some es) : es.length = (rows.headD []).length := by
 unfold formM at h
 split at h
 · split at h
   · cases h
   · rename_i hn
     cases h
     have e := some_filter hn
     have e2 := congrArg List.length e
     rw [List.length_map] at e2
     rw [e2]
     unfold partsM
     rw [List.length_map, List.length_range]
 · cases h
theorem form_le {rows : List (List Str)} {es : List (Str × Str)} (h1 : 1 ≤ rows.length) (hok : ∀ r ∈ rows, RowOk r) (h : formM rows = some es) : es.length ≤ 8 := by
 rw [form_len h]
 cases rows with
 | nil => simp at h1
 | cons r rows => exact (hok r List.mem_cons_self).2.1
theorem nGaps_take (es : List (Str × Str)) (i : Nat) : nGaps (es.take i) ≤ i := by
 unfold nGaps
 refine Nat.le_trans (List.length_filter_le _ _) ?_
 rw [List.length_take]
 exact Nat.min_le_left _ _
theorem ok_fw {f fL fG : Addr} {fd fdL fdG : FuncData} (F : Fun K "form_within" "form_within" sFw f fd) (T : Txt mg)
   (FL : Fun K "least_form" "least_form" sLf fL fdL) (bL : Binds K fdL ["rows"] []) (gL : mg "least_form" = some (.ref fL)) (GL : FnOk P w K mg base CX0 7 fL fdL ["rows"] spLfL)
   (FG : Fun K "is_gap" "is_gap" sIg fG fdG) (bG : Binds K fdG ["part"] []) (gG : mg "is_gap" = some (.ref fG)) : FnOk P w K mg base CX0 8 f fd ["rows", "most"] spFw := by
 have GG : FnOk P w K mg base CX0 1 fG fdG ["part"] spIg := ok_ig FG
 refine F.ok scFw (fun vs H Q E h => ?_) (fun cdv A outer s H vs Q E hr h => ?_)
 · obtain ⟨a, qs, rows, most, rfl, _⟩ := h
   rfl
 · obtain ⟨a, qs, rows, most, rfl, ha, hR, h64, h1, hok, k⟩ := h
   have hr1 : Room 1 _ := hr.mono (by decide)
   refine ⟨_, pss_cons (ps_set (i := 2) scFw.nd rfl (Or.inl rfl) (pe_call GL hr rfl gL FL.kp bL .nil pass0 (pa_cons (pv 0) pa_nil)))
     (pss_cons (ps_if (PW.pt (pw_or (pt_cmp (pc_isN (pv 2))) (pw_or1 (pt_cmpR op_gt (pe_callB call_len_seq (by rfl) T.len PySem.boot_len (pa_cons (pe_lc scFw1 rfl rfl rfl (pi_tup (pv 2)) (fun fp C s1 H1 => pg_name (i := 0) scFw1.nd rfl (Or.inl rfl))
         (fun fp C s1 H1 => pts_one (pt_val (pe_call GG hr1 rfl gG FG.kp bG .nil pass0 (pa_cons (pv 0) pa_nil)))) (fun fp C s1 H1 => pv 0)) pa_nil)) (pv 1) (nomark _))))) (pss_one (ps_ret pe_non)) pss_nil)
     (pss_one (ps_ret (pv 2)))), ?_⟩
   refine ⟨_, rfl, a, qs, rows, rfl, ha, hR, h64, h1, hok, fun v H1 s1 hf => ?_⟩
   cases hm : formM rows with
   | none =>
     rw [hm] at hf
     cases (show v = .non from hf)
     refine ⟨_, rfl, true, rfl, iteT (iteT (k .non H1 s1 ?_))⟩
     unfold fWith
     rw [hm]
     rfl
   | some es =>
     rw [hm] at hf
     obtain ⟨p, vs, rfl, hp, hP⟩ := hf
     have hvl : vs.length = es.length := by rw [hP.len, List.length_map]
     have h8 := form_le h1 hok hm
     have ek : fWith most rows = if most < (nGaps es : Int) then none else some es := by
       unfold fWith
       rw [hm]
     rw [ek] at k
     refine ⟨_, rfl, false, rfl, iteF ?_⟩
     refine ⟨_, rfl, p, rfl, ⟨_, SqT.of hp⟩, fun D hD => ?_⟩
     refine lc_tup (K := K) (a := p) (xs := vs) (fun i ys H2 => ys.length = nGaps (es.take i) ∧ Same H1 H2 ∧ H2 D = some (.lst ys)) (Nat.le_of_lt (small1000 (by omega))) ⟨rfl, (Same.refl H1).upd_free hD, upd_same⟩
       (fun i ys H2 h => by rw [h.1]; exact nGaps_take es i) (fun i ys H2 h => SqT.of (h.2.1 _ _ hp)) ?_ ?_
     · rintro i ys H2 x N M hx ⟨hy, s2, hD2⟩ hN hM
       have hi : i < es.length := by
         have := (List.getElem?_eq_some_iff.mp hx).1
         omega
       obtain ⟨e, he⟩ : ∃ e, es[i]? = some e := ⟨es[i], by simp [hi]⟩
       obtain ⟨q, hq1, hq2⟩ := FoAt.get hP he
       rw [hq1] at hx
       cases hx
       have tk : nGaps (es.take (i + 1)) = nGaps (es.take i) + (if e.1 = sGap then 1 else 0) := by
         unfold nGaps
         rw [List.take_add_one, he, List.filter_append, List.length_append]
         by_cases hg : e.1 = sGap
         · simp [hg]
         · simp [hg]
       refine ⟨_, rfl, q, e, rfl, s2 _ _ hq2, _, rfl, ?_⟩
       by_cases hg : e.1 = sGap
       · rw [decide_eq_true hg]
         rw [if_pos hg] at tk
         refine iteT ⟨_, rfl, hN _ H2 hD2 ⟨?_, s2.upd_free hD, upd_same⟩⟩
         rw [List.length_append, List.length_singleton, hy, tk]
       · rw [decide_eq_false hg]
         rw [if_neg hg] at tk
         exact iteF (hM H2 ⟨by rw [hy, tk, Nat.add_zero], s2, hD2⟩)
     · rintro ys H2 ⟨hy, s2, hD2⟩
       rw [hvl, List.take_of_length_le (Nat.le_refl _)] at hy
       refine ⟨D, _, rfl, .inl (SqL.of hD2), _, rfl, _, _, rfl, rfl, _, rfl, ?_⟩
       rw [hy]
       by_cases hg : most < (nGaps es : Int)
       · rw [decide_eq_true (show ((nGaps es : Nat) : Int) > most from hg)]
         rw [if_pos hg] at k
         exact iteT (k .non H2 (s1.trans s2) rfl)
       · rw [decide_eq_false (show ¬ ((nGaps es : Nat) : Int) > most from hg)]
         rw [if_neg hg] at k
         exact iteF ⟨_, rfl, k (.ref p) H2 (s1.trans s2) ⟨p, vs, rfl, s2 _ _ hp, hP.tsame s2.tups⟩⟩
theorem scRi : FnScope ["group", "known"] ["group", "known"] (defScope sRi) := .of (by decide +kernel)
def scopeRi : Scope := ⟨.function, [(".0", .local), ("number", .local), ("known", .free)], false, false, []⟩
theorem scRi1 : BlkScope (defScope sRi) ["group", "known"] ["number"] ["known"] [1] scopeRi := .of (by decide +kernel)
theorem ok_ri {f : Addr} {fd : FuncData} (F : Fun K "rows_in" "rows_in" sRi f fd) : FnOk P w K mg base CX0 1 f fd ["group", "known"] spRi := by
 refine F.ok scRi (fun vs H Q E h => ?_) (fun cdv A outer s H vs Q E hr h => ?_)
 · obtain ⟨q, a, g, qs, ks, rfl, _⟩ := h
   rfl
 · obtain ⟨q, a, g, qs, ks, rfl, hq, ha, hR, h64, hg, k⟩ := h
   refine ⟨_, pss_one (ps_ret (pe_lc scRi1 rfl rfl rfl (pi_tup (pv 0)) (fun fp C s1 H1 => pg_name (i := 0) scRi1.nd rfl (Or.inl rfl)) (fun fp C s1 H1 => pts_nil) (fun fp C s1 H1 => pe_ix (r := rIxT K) ix_tup (pv 1) (pv 0) (fun _ _ => rfl)))), ?_⟩
   refine ⟨_, rfl, q, rfl, ⟨_, SqT.of hq⟩, fun D hD => ?_⟩
   refine lc_tup (K := K) (a := q) (xs := g.map V.int) (fun i ys H2 => ∃ ps : List Addr, ys = ps.map V.ref ∧ Same H H2 ∧ H2 D = some (.lst (ps.map V.ref)) ∧ RowsAt H2 ps (rIn ks (g.take i)) ∧ ys.length ≤ i) (Nat.le_of_lt (small1000 (by rw [List.length_map]; omega)))
     ⟨[], rfl, (Same.refl H).upd_free hD, upd_same, by rw [List.take_zero]; exact RowsAt.nil, Nat.le_refl _⟩ (fun i ys H2 ⟨_, _, _, _, _, h⟩ => h) (fun i ys H2 ⟨_, _, h, _⟩ => SqT.of (h _ _ hq)) ?_ ?_
   · rintro i ys H2 x N M hx ⟨ps, rfl, s2, hD2, hR2, hl2⟩ hN hM
     rw [List.getElem?_map] at hx
     cases et : g[i]? with
     | none => rw [et] at hx; cases hx
     | some t =>
       rw [et] at hx
       cases hx
       have ht := hg t (List.mem_of_getElem? et)
       obtain ⟨r, q', er, eq, hq', hok⟩ := row_get hR (i := t.toNat) (by omega)
       refine ⟨_, rfl, _, rfl, a, _, _, _, rfl, rfl, SqT.of (s2 _ _ ha), atI_int ht.1 (by rw [List.getElem?_map, eq]; rfl), ?_⟩
       have ts : TSame H2 (upd H2 D (.lst (ps.map V.ref ++ [.ref q']))) := TSame.upd_lst (fun _ _ e => e) hD2
       refine hN _ H2 hD2 ⟨ps ++ [q'], by rw [List.map_append]; rfl, s2.upd_free hD, by rw [upd_same, List.map_append]; rfl, ?_, by rw [List.length_append, List.length_singleton]; omega⟩
       have e1 : rIn ks (g.take (i + 1)) = rIn ks (g.take i) ++ [r] := by
         unfold rIn
         rw [List.take_add_one, et, List.map_append]
         show _ ++ [ks.getD t.toNat []] = _
         rw [show ks.getD t.toNat [] = r by simp [List.getD, er]]
       rw [e1]
       exact (hR2.tsame ts).snoc (ts _ _ (s2 _ _ hq')) hok
   · rintro ys H2 ⟨ps, rfl, s2, hD2, hR2, hl2⟩
     rw [List.length_map, List.take_of_length_le (Nat.le_refl _)] at hR2
     exact k D ps H2 s2 hD2 hR2
theorem scWt : FnScope ["form", "group", "known"] ["form", "group", "known"] (defScope sWt) := .of (by decide +kernel)
def scopeWt : Scope := ⟨.function, [(".0", .local), ("number", .local), ("row", .local), ("writes", .globalImplicit), ("form", .free), ("group", .free)], false, false, []⟩
theorem scWt1 : BlkScope (defScope sWt) ["form", "group", "known"] ["number", "row"] ["form", "group"] [0, 1] scopeWt := .of (by decide +kernel)
theorem ok_wt {f fW : Addr} {fd fdW : FuncData} (F : Fun K "writes_others" "writes_others" sWt f fd) (hany : mg "any" = none) (henum : mg "enumerate" = none)
   (FW : Fun K "writes" "writes" sWr fW fdW) (bW : Binds K fdW ["form", "row"] []) (gW : mg "writes" = some (.ref fW)) (GW : FnOk P w K mg base CX0 8 fW fdW ["form", "row"] spWr) : FnOk P w K mg base CX0 9 f fd ["form", "group", "known"] spWt := by
 refine F.ok scWt (fun vs H Q E h => ?_) (fun cdv A outer s H vs Q E hr h => ?_)
 · obtain ⟨p, q, a, es, g, qs, ks, rfl, _⟩ := h
   rfl
 · obtain ⟨p, q, a, es, g, qs, ks, rfl, hp, h64, hq, ha, hR, hk64, hok, k⟩ := h
   have hql : (qs.map V.ref).length = ks.length := by rw [List.length_map]; exact hR.1
   refine ⟨_, pss_one (ps_ret (pe_callB (call_anyB rfl) (by rfl) hany boot_any (pa_cons (pe_lc (g := gTup K 2 (gCons (gName 0) (gCons (gName 1) gNil))) scWt1 rfl rfl rfl (pi_enum rfl henum (pa_cons (pv 2) pa_nil)) (fun fp C s1 H1 => pg_tup (n := 2) rfl (pgs_cons (pg_name (i := 0) scWt1.nd rfl (Or.inl rfl)) (pgs_cons (pg_name (i := 1) scWt1.nd rfl (Or.inl rfl)) pgs_nil)))
     (fun fp C s1 H1 => pts_one (pt_cmpR (r := L2.rIn K true) op_notIn_seq (pv 0) (pv 3) (by with_unfolding_all rfl))) (fun fp C s1 H1 => pe_call GW hr rfl gW FW.kp bW .nil pass0 (pa_cons (pv 2) (pa_cons (pv 1) pa_nil)))) pa_nil))), ?_⟩
   refine ⟨_, rfl, a, rfl, ⟨_, SqT.of ha⟩, fun D hD => ?_⟩
   refine lc_enum2 (K := K) (a := a) (xs := qs.map V.ref) (fun i ys H2 => ys = (((List.range i).filter fun (j : Nat) => !decide ((j : Int) ∈ g)).map fun j => fitsB es (ks.getD j [])).map V.bl ∧ Same H H2 ∧ H2 D = some (.lst ys)) (Nat.le_of_lt (small1000 (by omega))) ⟨rfl, (Same.refl H).upd_free hD, upd_same⟩
     (fun i ys H2 h => ?_) (fun i ys H2 h => SqT.of (h.2.1 _ _ ha)) ?_ ?_
   · rw [h.1, List.length_map, List.length_map]
     refine Nat.le_trans (List.length_filter_le _ _) ?_
     rw [List.length_range]
     exact Nat.le_refl _
   · rintro i ys H2 x pp N M hx ⟨rfl, s2, hD2⟩ hpp hN hM
     have hi : i < ks.length := by
       have := (List.getElem?_eq_some_iff.mp hx).1
       omega
     obtain ⟨r, q', er, eq, hq', _⟩ := row_get hR hi
     rw [List.getElem?_map, eq] at hx
     cases hx
     have s3 := (Same.refl H2).upd_free (o := .tup [.int (i : Nat), .ref q']) hpp
     generalize hH3 : upd H2 pp (.tup [.int (i : Nat), .ref q']) = H3 at s3
     have t3 := s2.trans s3
     have egr : ks.getD i [] = r := by simp [List.getD, er]
     refine ⟨_, rfl, _, rfl, q, _, rfl, .inr (SqT.of (t3 _ _ hq)), rfl, flat_nums g, !inV _ _, rfl, ?_⟩
     rw [inV_nums]
     by_cases hin : (i : Int) ∈ g
     · rw [decide_eq_true hin]
       refine iteF (hM H3 ⟨?_, t3, s3 _ _ hD2⟩)
       rw [List.range_succ, List.filter_append]
       simp [hin]
     · rw [decide_eq_false hin]
       refine iteT ⟨_, rfl, _, rfl, p, q', es, r, rfl, hp.same t3, h64, t3 _ _ hq', hok r (List.mem_of_getElem? er), fun H4 s4 => ?_⟩
       refine hN _ H4 ((s3.trans s4) _ _ hD2) ⟨?_, (t3.trans s4).upd_free hD, upd_same⟩
       rw [List.range_succ, List.filter_append, List.map_append, List.map_append]
       simp [hin, er]
   · rintro ys H2 ⟨rfl, s2, hD2⟩
     rw [hql] at hD2
     refine ⟨D, _, rfl, SqL.of hD2, ?_⟩
     rw [List.any_map]
     exact k H2 s2
end
end SL
namespace SL
open PySem L2
theorem last_at {g : List Int} (h : g ≠ []) : atI (g.map V.int) (-1) = some (.int (lastI g)) := by
 obtain ⟨l, x, rfl⟩ : ∃ l x, g = l ++ [x] := ⟨g.dropLast, g.getLast h, (List.dropLast_concat_getLast h).symm⟩
 rw [last_snoc, List.map_append]
 exact atI_last _ _
theorem GOk.len {n : Nat} {g : List Int} (h : GOk n g) : g.length ≤ n := by
 have q : ∀ (m : Nat) (l : List Int), l.Pairwise (· < ·) → (∀ x ∈ l, 0 ≤ x ∧ x < (m : Int)) → l.length ≤ m := by
   intro m
   induction m with
   | zero =>
     intro l _ hl
     cases l with
     | nil => exact Nat.le_refl _
     | cons a l =>
       have := hl a List.mem_cons_self
       omega
   | succ m ih =>
     intro l hi hl
     by_cases hne : l = []
     · subst hne
       exact Nat.zero_le _
     · obtain ⟨l', x, rfl⟩ : ∃ l' x, l = l' ++ [x] := ⟨l.dropLast, l.getLast hne, (List.dropLast_concat_getLast hne).symm⟩
       have hx := hl x (by simp)
       have := ih l' (List.pairwise_append.mp hi).1 fun y hy => by
         have h1 := (List.pairwise_append.mp hi).2.2 y hy x (by simp)
         have h2 := hl y (List.mem_append_left _ hy)
         omega
       rw [List.length_append, List.length_singleton]
       omega
 exact q n g h.inc h.ran
theorem rIn_ok {ks : List (List Str)} {g : List Int} (hok : ∀ r ∈ ks, RowOk r) (hg : ∀ x ∈ g, 0 ≤ x ∧ x < (ks.length : Int)) : ∀ r ∈ rIn ks g, RowOk r := fun r hr => by
 unfold rIn at hr
 obtain ⟨x, hx, rfl⟩ := List.mem_map.mp hr
 have hx' : x.toNat < ks.length := by have := hg x hx; omega
 have e : ks.getD x.toNat [] = ks[x.toNat] := by simp [List.getD, hx']
 rw [e]
 exact hok _ (List.getElem_mem hx')
theorem fWith_le {rows : List (List Str)} {most : Int} {es : List (Str × Str)} (h1 : 1 ≤ rows.length) (hok : ∀ r ∈ rows, RowOk r) (h : fWith most rows = some es) : es.length ≤ 8 := by
 unfold fWith at h
 cases hm : formM rows with
 | none => rw [hm] at h; cases h
 | some es' =>
   rw [hm] at h
   have h' : (if most < (nGaps es' : Int) then none else some es') = some es := h
   split at h'
   · cases h'
   · cases h'
     exact form_le h1 hok hm
section
variable {P : Program} {w : World} {K : W.Frag} {mg : Str → Option Value} {base : Heap}
theorem scGo : FnScope ["group", "known", "most", "form", "found", "number"] ["group", "known", "most"] (defScope sGo) := .of (by decide +kernel)
theorem ok_go {f fF fR fT : Addr} {fd fdF fdR fdT : FuncData} (F : Fun K "groups_on" "groups_on" sGo f fd) (b : Binds K fd ["group", "known", "most"] []) (g : mg "groups_on" = some (.ref f)) (T : Txt mg)
   (FF : Fun K "form_within" "form_within" sFw fF fdF) (bF : Binds K fdF ["rows", "most"] []) (gF : mg "form_within" = some (.ref fF)) (GF : FnOk P w K mg base CX0 8 fF fdF ["rows", "most"] spFw)
   (FR : Fun K "rows_in" "rows_in" sRi fR fdR) (bR : Binds K fdR ["group", "known"] []) (gR : mg "rows_in" = some (.ref fR))
   (FT : Fun K "writes_others" "writes_others" sWt fT fdT) (bT : Binds K fdT ["form", "group", "known"] []) (gT : mg "writes_others" = some (.ref fT)) (GT : FnOk P w K mg base CX0 9 fT fdT ["form", "group", "known"] spWt) :
   ∀ d : Nat, FnOk P w K mg base CX0 (d + 10) f fd ["group", "known", "most"] (spGo d)
 | 0 => by
   refine F.ok (k := 9) scGo (fun vs H Q E h => ?_) (fun cdv A outer s H vs Q E hr h => ?_)
   · obtain ⟨q, a, g, qs, ks, most, rfl, _⟩ := h
     rfl
   · obtain ⟨q, a, g, qs, ks, most, rfl, hq, ha, hR, h8, hok, hg, hd, k⟩ := h
     have := hg.ran _ (last_mem hg.ne)
     omega
 | d + 1 => by
   have GO : FnOk P w K mg base CX0 (d + 10) f fd ["group", "known", "most"] (spGo d) := ok_go F b g T FF bF gF GF FR bR gR FT bT gT GT d
   have GR : FnOk P w K mg base CX0 1 fR fdR ["group", "known"] spRi := ok_ri FR
   refine F.ok (k := d + 10) scGo (fun vs H Q E h => ?_) (fun cdv A outer s H vs Q E hr h => ?_)
   · obtain ⟨q, a, g, qs, ks, most, rfl, _⟩ := h
     rfl
   · obtain ⟨q, a, gr, qs, ks, most, rfl, hq, ha, hR, h8, hok, hg, hd, k⟩ := h
     have hr1 : Room 1 _ := hr.mono (by omega)
     have hr8 : Room 8 _ := hr.mono (by omega)
     have hr9 : Room 9 _ := hr.mono (by omega)
     have hql : (qs.map V.ref).length = ks.length := by rw [List.length_map]; exact hR.1
     have hl := hg.ran _ (last_mem hg.ne)
     have hgl := hg.len
     have hg1 : 1 ≤ gr.length := by
       cases gr with
       | nil => exact absurd rfl hg.ne
       | cons x gr => simp
     have hri : (rIn ks gr).length = gr.length := by unfold rIn; rw [List.length_map]
     have hrok := rIn_ok hok hg.ran
     refine ⟨_, pss_cons (ps_set (i := 3) scGo.nd rfl (Or.inl rfl) (pe_call GF hr8 rfl gF FF.kp bF .nil pass0 (pa_cons (pe_call GR hr1 rfl gR FR.kp bR .nil pass0 (pa_cons (pv 0) (pa_cons (pv 1) pa_nil))) (pa_cons (pv 2) pa_nil))))
       (pss_cons (ps_if (pt_cmp (pc_isN (pv 3))) (pss_one (ps_ret (pe_lst pa_nil))) pss_nil)
       (pss_cons (ps_cut (ps_set (i := 4) scGo.nd rfl (Or.inl rfl) (pe_ifExp (pt_val (pe_call GT hr9 rfl gT FT.kp bT .nil pass0 (pa_cons (pv 3) (pa_cons (pv 0) (pa_cons (pv 1) pa_nil))))) (pe_lst pa_nil) (pe_lst (pa_cons (pv 0) pa_nil)))))
       (pss_cons (ps_for PassesOwn.never rfl (pi_range2 rfl T.range (pa_cons (pe_op op_add (pe_ix ix_tup (pv 0) (pe_un un_neg pe_int) (fun _ _ => rfl)) pe_int) (pa_cons (pe_callB call_len_seq (by rfl) T.len PySem.boot_len (pa_cons (pv 1) pa_nil)) pa_nil))) (pg_name (i := 5) scGo.nd rfl (Or.inl rfl))
         (pss_one (ps_expr (pe_bm PySem.F.plainAttrs_list PySem.F.slot_list_extend PySem.F.type_list_extend mt_extend (pv 4) (pa_cons (pe_call GO hr rfl g F.kp b .nil pass0 (pa_cons (pe_op op_catN (pv 0) (pe_tup (pa_cons (pv 5) pa_nil))) (pa_cons (pv 1) (pa_cons (pv 2) pa_nil)))) pa_nil)))))
       (pss_one (ps_ret (pv 4)))))), ?_⟩
     refine ⟨_, rfl, _, rfl, q, a, gr, qs, ks, rfl, hq, ha, hR, by omega, hg.ran, fun l0 qs0 H1 s1 hl0 hR0 => ?_⟩
     refine ⟨_, rfl, l0, qs0, rIn ks gr, most, rfl, hl0, hR0, by omega, by omega, hrok, fun v H2 s2 hv => ?_⟩
     have t2 := s1.trans s2
     have eg : gOn ks most (d + 1) gr = match fWith most (rIn ks gr) with
         | none => []
         | some es => (if othersM es gr ks then [] else [gr]) ++ (List.range ((ks.length : Int) - (lastI gr + 1)).toNat).flatMap fun (k : Nat) => gOn ks most d (gr ++ [lastI gr + 1 + (k : Int)]) := rfl
     cases hf : fWith most (rIn ks gr) with
     | none =>
       rw [hf] at hv eg
       cases (show v = .non from hv)
       refine ⟨_, rfl, true, rfl, iteT ⟨Nat.zero_le _, fun l hl => ?_⟩⟩
       refine k l [] _ (t2.upd_free (t2.free hl)) (t2.free hl) upd_same ?_
       rw [eg]
       exact True.intro
     | some es =>
       rw [hf] at hv eg
       obtain ⟨p, vs, rfl, hp, hP⟩ := hv
       have he8 := fWith_le (by omega) hrok hf
       refine ⟨_, rfl, false, rfl, iteF ?_⟩
       refine ⟨fun σ' H' => ∃ (lf : Addr) (us : List V), σ' = [some (.ref q), some (.ref a), some (.int most), some (.ref p), some (.ref lf), none] ∧ Same H H' ∧ H lf = none ∧ H' lf = some (.lst us) ∧ GAt H' us (if othersM es gr ks then [] else [gr]), ?_, ?_⟩
       · refine ⟨_, rfl, _, rfl, _, rfl, p, q, a, es, gr, qs, ks, rfl, ⟨vs, hp, hP⟩, by omega, t2 _ _ hq, t2 _ _ ha, hR.tsame t2.tups, by omega, hok, fun H3 s3 => ?_⟩
         have t3 := t2.trans s3
         refine ⟨_, rfl, ?_⟩
         cases othersM es gr ks with
         | true => exact iteT ⟨Nat.zero_le _, fun l hl => ⟨l, [], rfl, t3.upd_free (t3.free hl), t3.free hl, upd_same, True.intro⟩⟩
         | false =>
           refine iteF ⟨_, rfl, (by show 1 ≤ sizeLine; decide), fun l hl => ⟨l, [.ref q], rfl, t3.upd_free (t3.free hl), t3.free hl, upd_same, ⟨q, rfl, ?_⟩, True.intro⟩⟩
           exact ((Same.refl H3).upd_free hl) _ _ (t3 _ _ hq)
       rintro σ' H3 ⟨lf, us, rfl, s3, hlf, hL, hG⟩
       refine ⟨_, rfl, _, rfl, q, _, _, _, rfl, rfl, SqT.of (s3 _ _ hq), last_at hg.ne, _, _, rfl, rfl, _, rfl, a, _, rfl, .inr (SqT.of (s3 _ _ ha)), _, _, rfl, ⟨by omega, by omega, by omega, by omega⟩, ?_⟩
       rw [hql]
       refine for_range (lo := lastI gr + 1) (n := ((ks.length : Int) - (lastI gr + 1)).toNat) (fun i σ H4 => ∃ (us : List V) (v5 : Option V), σ = [some (.ref q), some (.ref a), some (.int most), some (.ref p), some (.ref lf), v5] ∧ Same H H4 ∧ H4 lf = some (.lst us) ∧ GAt H4 us ((if othersM es gr ks then [] else [gr]) ++ (List.range i).flatMap fun (k : Nat) => gOn ks most d (gr ++ [lastI gr + 1 + (k : Int)])))
         ⟨us, none, rfl, s3, hL, by rw [List.range_zero, List.flatMap_nil, List.append_nil]; exact hG⟩ ?_ ?_
       · rintro i σ H4 hi ⟨us, v5, rfl, s4, hL4, hG4⟩
         refine ⟨_, rfl, .inl ⟨rfl, _, SqL.of hL4⟩, _, rfl, _, rfl, (by show 1 ≤ sizeLine; decide), fun pl hpl => ?_⟩
         have s5 := (Same.refl H4).upd_free (o := .tup [.int (lastI gr + 1 + (i : Int))]) hpl
         refine ⟨q, pl, _, _, rfl, rfl, SqT.of (s5 _ _ (s4 _ _ hq)), upd_same, by simp, ?_, fun zn H6 s6 hzn => ?_⟩
         · rw [List.length_map]
           exact Nat.le_of_lt (small1000 (by show gr.length + 1 ≤ 1000; omega))
         have t6 := s4.trans (s5.trans s6)
         have hzn' : H6 zn = some (.tup ((gr ++ [lastI gr + 1 + (i : Int)]).map V.int)) := by rw [hzn, List.map_append]; rfl
         have hg' := hg.snoc (x := lastI gr + 1 + (i : Int)) (by omega) (by omega)
         refine ⟨_, rfl, _, rfl, zn, a, gr ++ [lastI gr + 1 + (i : Int)], qs, ks, most, rfl, hzn', t6 _ _ ha, hR.tsame t6.tups, h8, hok, hg', by rw [last_snoc]; omega, fun l vs' H7 s7 _ hl7 hG7 => ?_⟩
         have t67 := (s5.trans s6).trans s7
         have hL7 := t67 _ _ hL4
         have ts : TSame H7 (upd H7 lf (.lst (us ++ vs'))) := TSame.upd_lst (fun _ _ e => e) hL7
         refine ⟨lf, l, _, _, rfl, rfl, hL7, hl7, ?_, us ++ vs', _, rfl, (s4.trans t67).upd_free hlf, upd_same, ?_⟩
         · have b1 := hG4.len
           have b2 := hG7.len
           have b3 := gOn_256 (ks := ks) (most := most) (d := d) (g := gr ++ [lastI gr + 1 + (i : Int)]) h8 (by rw [last_snoc]; omega)
           have b4 := gOn_256 (ks := ks) (most := most) (d := d + 1) (g := gr) h8 hl.1
           rw [eg] at b4
           have b5 : ((if othersM es gr ks then [] else [gr]) ++ (List.range i).flatMap fun (k : Nat) => gOn ks most d (gr ++ [lastI gr + 1 + (k : Int)])).length ≤ ((if othersM es gr ks then [] else [gr]) ++ (List.range ((ks.length : Int) - (lastI gr + 1)).toNat).flatMap fun (k : Nat) => gOn ks most d (gr ++ [lastI gr + 1 + (k : Int)])).length := by
             obtain ⟨m, hm⟩ : ∃ m, ((ks.length : Int) - (lastI gr + 1)).toNat = i + m := ⟨((ks.length : Int) - (lastI gr + 1)).toNat - i, by omega⟩
             rw [hm, List.range_add, List.flatMap_append, List.length_append, List.length_append, List.length_append]
             omega
           have b6 : ((if othersM es gr ks then [] else [gr]) ++ (List.range ((ks.length : Int) - (lastI gr + 1)).toNat).flatMap fun (k : Nat) => gOn ks most d (gr ++ [lastI gr + 1 + (k : Int)])).length ≤ 256 := b4
           exact Nat.le_of_lt (small1000 (by omega))
         · rw [List.range_succ, List.flatMap_append, ← List.append_assoc]
           refine ((hG4.tsame t67.tups).tsame ts).app ?_
           rw [List.flatMap_cons, List.flatMap_nil, List.append_nil]
           exact hG7.tsame ts
       · rintro σ H4 ⟨us, v5, rfl, s4, hL4, hG4⟩
         refine ⟨_, rfl, k lf us H4 s4 hlf hL4 ?_⟩
         rw [eg]
         exact hG4
end
end SL
namespace SL
open PySem L2
def ChAt (H : Hp) : List V → List (List (List Int)) → Prop
 | [], [] => True
 | v :: vs, c :: cs => (∃ l us, v = V.ref l ∧ H l = some (.lst us) ∧ GAt H us c) ∧ ChAt H vs cs
 | _, _ => False
theorem ChAt.same {H H' : Hp} (s : Same H H') : ∀ {vs : List V} {cs : List (List (List Int))}, ChAt H vs cs → ChAt H' vs cs
 | [], [], _ => True.intro
 | _ :: _, _ :: _, ⟨⟨l, us, h1, h2, h3⟩, h4⟩ => ⟨⟨l, us, h1, s _ _ h2, h3.tsame s.tups⟩, ChAt.same s h4⟩
 | [], _ :: _, h => h.elim
 | _ :: _, [], h => h.elim
theorem ChAt.len {H : Hp} : ∀ {vs : List V} {cs : List (List (List Int))}, ChAt H vs cs → vs.length = cs.length
 | [], [], _ => rfl
 | _ :: _, _ :: _, ⟨_, h2⟩ => by rw [List.length_cons, List.length_cons, ChAt.len h2]
 | [], _ :: _, h => h.elim
 | _ :: _, [], h => h.elim
theorem ChAt.snoc {H : Hp} {v : V} {c : List (List Int)} (h : ∃ l us, v = V.ref l ∧ H l = some (.lst us) ∧ GAt H us c) : ∀ {vs : List V} {cs : List (List (List Int))}, ChAt H vs cs → ChAt H (vs ++ [v]) (cs ++ [c])
 | [], [], _ => ⟨h, True.intro⟩
 | _ :: _, _ :: _, ⟨h1, h2⟩ => ⟨h1, ChAt.snoc h h2⟩
 | [], _ :: _, h => h.elim
 | _ :: _, [], h => h.elim
theorem ChAt.get {H : Hp} : ∀ {vs : List V} {cs : List (List (List Int))} {i : Nat} {c : List (List Int)}, ChAt H vs cs → cs[i]? = some c → ∃ l us, vs[i]? = some (.ref l) ∧ H l = some (.lst us) ∧ GAt H us c
 | [], [], i, c, _, h => by simp at h
 | x :: vs, g :: gs, 0, c, ⟨⟨l, us, h1, h2, h3⟩, _⟩, h => by
   cases h
   exact ⟨l, us, by rw [h1]; rfl, h2, h3⟩
 | x :: vs, g :: gs, i + 1, c, ⟨_, h2⟩, h => by
   obtain ⟨l, us, e1, e2⟩ := ChAt.get (i := i) h2 (by simpa using h)
   exact ⟨l, us, by simpa using e1, e2⟩
 | [], _ :: _, _, _, h, _ => h.elim
 | _ :: _, [], _, _, h, _ => h.elim
def RAt (H : Hp) (v : V) : Option (List (List Int)) → Prop
 | none => v = .non
 | some r => ∃ p us, v = .ref p ∧ H p = some (.tup us) ∧ GAt H us r
theorem find_at {α β : Type} {f : α → Option β} {r : β} : ∀ {c : List α} {i : Nat} {g : α}, c[i]? = some g → f g = some r → (∀ x ∈ c.take i, f x = none) → c.findSome? f = some r
 | [], i, g, h, _, _ => by simp at h
 | a :: c, 0, g, h, hr, _ => by
   cases h
   rw [List.findSome?_cons, hr]
 | a :: c, i + 1, g, h, hr, hb => by
   rw [List.findSome?_cons, hb a (by simp)]
   exact find_at (i := i) (by simpa using h) hr fun x hx => hb x (by simp [hx])
theorem fGr_len (ch : List (List (List Int))) : ∀ (m : Nat) (left : List Int) (r : List (List Int)), fGr ch m left = some r → r.length ≤ m
 | m, [], r, h => by
   have h' : some [] = some r := by
     cases m <;> exact h
   cases h'
   exact Nat.zero_le _
 | 0, x :: left, r, h => by cases h
 | m + 1, x :: left, r, h => by
   unfold fGr at h
   obtain ⟨g, hg, hs⟩ := List.exists_of_findSome?_eq_some h
   split at hs
   · cases hr : fGr ch m ((x :: left).filter fun i => !decide (i ∈ g)) with
     | none => rw [hr] at hs; cases hs
     | some o =>
       rw [hr] at hs
       cases hs
       have := fGr_len ch m _ o hr
       rw [List.length_cons]
       omega
   · cases hs
def spFg (m : Nat) : Sp := fun vs H Q _ => ∃ (l lc : Addr) (left : List Int) (us : List V) (ch : List (List (List Int))), vs = [.ref l, .ref lc, .int (m : Int)] ∧ m ≤ 8 ∧ H l = some (.lst (left.map V.int)) ∧ H lc = some (.lst us) ∧ ChAt H us ch ∧ left.length ≤ 8 ∧ (∀ x ∈ left, 0 ≤ x ∧ x < (ch.length : Int)) ∧
 (∀ c ∈ ch, c.length ≤ 256 ∧ ∀ g ∈ c, g.length ≤ 8) ∧ ∀ (v : V) (H' : Hp), Same H H' → RAt H' v (fGr ch m left) → Q v H'
section
variable {P : Program} {w : World} {K : W.Frag} {mg : Str → Option Value} {base : Heap}
theorem scFg : FnScope ["left", "choices", "many", "group", "rest", "others"] ["left", "choices", "many"] (defScope sFg) := .of (by decide +kernel)
def scopeFg1 : Scope := ⟨.function, [(".0", .local), ("number", .local), ("left", .free)], false, false, []⟩
def scopeFg2 : Scope := ⟨.function, [(".0", .local), ("number", .local), ("group", .free)], false, false, []⟩
theorem scFg1 : BlkScope (defScope sFg) ["left", "choices", "many", "group", "rest", "others"] ["number"] ["left"] [0] scopeFg1 := .of (by decide +kernel)
theorem scFg2 : BlkScope (defScope sFg) ["left", "choices", "many", "group", "rest", "others"] ["number"] ["group"] [3] scopeFg2 := .of (by decide +kernel)
theorem ok_fg {f : Addr} {fd : FuncData} (F : Fun K "first_grouping" "first_grouping" sFg f fd) (b : Binds K fd ["left", "choices", "many"] []) (g : mg "first_grouping" = some (.ref f)) (T : Txt mg) (hall : mg "all" = none) :
   ∀ m : Nat, FnOk P w K mg base CX0 (m + 1) f fd ["left", "choices", "many"] (spFg m)
 | 0 => by
   refine F.ok (k := 0) scFg (fun vs H Q E h => ?_) (fun cdv A outer s H vs Q E hr h => ?_)
   · obtain ⟨l, lc, left, us, ch, rfl, _⟩ := h
     rfl
   · obtain ⟨l, lc, left, us, ch, rfl, hm8, hl, hc, hC, h8, hran, hch, k⟩ := h
     refine ⟨_, pss_cons (ps_if (pt_cmpR op_eq (pe_callB call_len_seq (by rfl) T.len PySem.boot_len (pa_cons (pv 0) pa_nil)) pe_int (nomark _)) (pss_one (ps_ret (pe_tup pa_nil))) pss_nil)
       (pss_cons (ps_if (pt_cmpR op_eq (pv 2) pe_int (nomark _)) (pss_one (ps_ret pe_non)) pss_nil) pss_never), ?_⟩
     refine ⟨_, rfl, l, _, rfl, .inl (SqL.of hl), rfl, _, rfl, ?_⟩
     rw [dec_intV, List.length_map]
     cases left with
     | nil =>
       refine iteT ⟨Nat.zero_le _, fun t ht => ?_⟩
       exact k (.ref t) _ ((Same.refl H).upd_free ht) ⟨t, [], rfl, upd_same, True.intro⟩
     | cons x left =>
       rw [decide_eq_false (by rw [List.length_cons]; omega)]
       refine iteF ?_
       exact ⟨_, rfl, rfl, true, rfl, iteT (k .non H (Same.refl H) rfl)⟩
 | m + 1 => by
   have GO : FnOk P w K mg base CX0 (m + 1) f fd ["left", "choices", "many"] (spFg m) := ok_fg F b g T hall m
   refine F.ok (k := m + 1) scFg (fun vs H Q E h => ?_) (fun cdv A outer s H vs Q E hr h => ?_)
   · obtain ⟨l, lc, left, us, ch, rfl, _⟩ := h
     rfl
   · obtain ⟨l, lc, left, us, ch, rfl, hm8, hl, hc, hC, h8, hran, hch, k⟩ := h
     refine ⟨_, pss_cons (ps_if (pt_cmpR op_eq (pe_callB call_len_seq (by rfl) T.len PySem.boot_len (pa_cons (pv 0) pa_nil)) pe_int (nomark _)) (pss_one (ps_ret (pe_tup pa_nil))) pss_nil)
       (pss_cons (ps_if (pt_cmpR op_eq (pv 2) pe_int (nomark _)) (pss_one (ps_ret pe_non)) pss_nil)
       (pss_cons (ps_for PassesOwn.never rfl (pi_list (pe_ix ix_list (pv 1) (pe_ix ix_list (pv 0) pe_int (fun _ _ => rfl)) (fun _ _ => rfl))) (pg_name (i := 3) scFg.nd rfl (Or.inr rfl))
         (pss_one (ps_if (pt_val (pe_callB (call_allB rfl) (by rfl) hall boot_all (pa_cons (pe_lc scFg1 rfl rfl rfl (pi_tup (pv 3)) (fun fp C s1 H1 => pg_name (i := 0) scFg1.nd rfl (Or.inl rfl)) (fun fp C s1 H1 => pts_nil) (fun fp C s1 H1 => pe_cmpR (r := L2.rIn K false) op_in_seq (pv 0) (pv 1) (by with_unfolding_all rfl))) pa_nil)))
           (pss_cons (ps_setlc (i := 4) scFg2 rfl rfl rfl (pi_list (pv 0)) (fun fp C s1 H1 => pg_name (i := 0) scFg2.nd rfl (Or.inl rfl)) (fun fp C s1 H1 => pts_one (pt_cmpR (r := L2.rIn K true) op_notIn_seq (pv 0) (pv 1) (by with_unfolding_all rfl))) (fun fp C s1 H1 => pv 0) scFg.nd rfl rfl rfl)
           (pss_cons (ps_set (i := 5) scFg.nd rfl (Or.inl rfl) (pe_call GO hr rfl g F.kp b .nil pass0 (pa_cons (pv 4) (pa_cons (pv 1) (pa_cons (pe_op op_sub (pv 2) pe_int) pa_nil)))))
           (pss_one (ps_if (pt_cmp (pc_notN (pv 5))) (pss_one (ps_ret (pe_op op_cat1 (pe_tup (pa_cons (pv 3) pa_nil)) (pv 5)))) pss_nil)))) pss_nil)))
       (pss_one (ps_ret pe_non)))), ?_⟩
     refine ⟨_, rfl, l, _, rfl, .inl (SqL.of hl), rfl, _, rfl, ?_⟩
     rw [dec_intV, List.length_map]
     cases left with
     | nil =>
       refine iteT ⟨Nat.zero_le _, fun t ht => ?_⟩
       exact k (.ref t) _ ((Same.refl H).upd_free ht) ⟨t, [], rfl, upd_same, True.intro⟩
     | cons x0 lf =>
       rw [decide_eq_false (by rw [List.length_cons]; omega)]
       refine iteF ?_
       refine ⟨_, rfl, rfl, _, rfl, ?_⟩
       rw [dec_intV, decide_eq_false (by omega)]
       refine iteF ?_
       have hx0 := hran x0 List.mem_cons_self
       have ek : fGr ch (m + 1) (x0 :: lf) = (ch.getD x0.toNat []).findSome? fun g => if g.all (fun i => decide (i ∈ x0 :: lf)) then (fGr ch m ((x0 :: lf).filter fun i => !decide (i ∈ g))).map (g :: ·) else none := rfl
       rw [ek] at k
       generalize hleft : x0 :: lf = left at hl h8 hran k
       have e0 : atI (left.map V.int) 0 = some (.int x0) := by rw [← hleft]; exact atI_nat (j := 0) rfl
       obtain ⟨c, ec⟩ : ∃ c, ch[x0.toNat]? = some c := ⟨ch[x0.toNat]'(by omega), by simp⟩
       have ecd : ch.getD x0.toNat [] = c := by simp [List.getD, ec]
       rw [ecd] at k
       have hcc := hch c (List.mem_of_getElem? ec)
       obtain ⟨lg, ug, g1, g2, g3⟩ := hC.get ec
       have hugl := g3.len
       refine ⟨_, rfl, _, rfl, l, _, _, _, rfl, rfl, SqL.of hl, e0, lc, _, _, _, rfl, rfl, SqL.of hc, atI_int hx0.1 g1, lg, rfl, ⟨_, SqL.of g2⟩, ?_⟩
       refine for_list (K := K) (a := lg) (xs := ug) (fun i σ H2 => ∃ (v3 v4 v5 : Option V), σ = [some (.ref l), some (.ref lc), some (.int ((m + 1 : Nat) : Int)), v3, v4, v5] ∧ Same H H2 ∧ ∀ gg ∈ c.take i, (if gg.all (fun i => decide (i ∈ left)) then (fGr ch m (left.filter fun i => !decide (i ∈ gg))).map (gg :: ·) else none) = none)
         ⟨none, none, none, rfl, Same.refl H, by simp⟩ (fun i σ H2 _ ⟨_, _, _, _, s2, _⟩ => SqL.of (s2 _ _ g2)) ?_ ?_
       · rintro i x σ H2 hx ⟨v3, v4, v5, rfl, s2, hno⟩
         obtain ⟨gr, q, egr, rfl, hq⟩ := g3.get hx
         have hgl := hcc.2 gr (List.mem_of_getElem? egr)
         have tk : c.take (i + 1) = c.take i ++ [gr] := by rw [List.take_add_one, egr]; rfl
         have goon : ∀ (v3 v4 v5 : Option V) (H3 : Hp), Same H H3 → (if gr.all (fun i => decide (i ∈ left)) then (fGr ch m (left.filter fun i => !decide (i ∈ gr))).map (gr :: ·) else none) = none →
             ∃ (w3 w4 w5 : Option V), [some (V.ref l), some (.ref lc), some (.int ((m + 1 : Nat) : Int)), v3, v4, v5] = [some (.ref l), some (.ref lc), some (.int ((m + 1 : Nat) : Int)), w3, w4, w5] ∧ Same H H3 ∧ ∀ gg ∈ c.take (i + 1), (if gg.all (fun i => decide (i ∈ left)) then (fGr ch m (left.filter fun i => !decide (i ∈ gg))).map (gg :: ·) else none) = none := by
           intro v3 v4 v5 H3 s3 hn
           refine ⟨v3, v4, v5, rfl, s3, fun gg hgg => ?_⟩
           rw [tk] at hgg
           rcases List.mem_append.mp hgg with hgg | hgg
           · exact hno gg hgg
           · rw [List.mem_singleton] at hgg
             rw [hgg]
             exact hn
         have hq2 := s2 _ _ hq
         have hl2 := s2 _ _ hl
         -- all its numbers are left
         refine ⟨_, rfl, q, rfl, ⟨_, SqT.of hq2⟩, fun D hD => ?_⟩
         refine lc_tup (K := K) (a := q) (xs := gr.map V.int) (fun j ys H3 => ys = ((gr.take j).map fun x => decide (x ∈ left)).map V.bl ∧ Same H2 H3 ∧ H3 D = some (.lst ys)) (Nat.le_of_lt (small1000 (by rw [List.length_map]; omega))) ⟨by simp, (Same.refl H2).upd_free hD, upd_same⟩
           (fun j ys H3 h => by rw [h.1, List.length_map, List.length_map, List.length_take]; exact Nat.min_le_left _ _) (fun j ys H3 h => SqT.of (h.2.1 _ _ hq2)) ?_ ?_
         · rintro j ys H3 y N M hy ⟨rfl, s3, hD3⟩ hN hM
           rw [List.getElem?_map] at hy
           cases et : gr[j]? with
           | none => rw [et] at hy; cases hy
           | some t =>
             rw [et] at hy
             cases hy
             refine ⟨_, rfl, _, rfl, l, _, rfl, .inl (SqL.of (s3 _ _ hl2)), rfl, flat_nums left, ?_⟩
             show N (.bl (inV (.int t) (left.map V.int))) H3
             rw [inV_nums]
             refine hN _ H3 hD3 ⟨?_, s3.upd_free hD, upd_same⟩
             rw [List.take_add_one, et, List.map_append, List.map_append]
             rfl
         rintro ys H3 ⟨rfl, s3, hD3⟩
         rw [List.length_map, List.take_of_length_le (Nat.le_refl _)] at hD3
         have t3 := s2.trans s3
         refine ⟨D, _, rfl, SqL.of hD3, gr.all (fun i => decide (i ∈ left)), by rw [List.all_map]; rfl, ?_⟩
         cases hA : gr.all (fun i => decide (i ∈ left)) with
         | false =>
           refine iteF (goon _ _ _ H3 t3 ?_)
           rw [hA]
           rfl
         | true =>
           refine iteT ?_
           have hq3 := s3 _ _ hq2
           have hl3 := s3 _ _ hl2
           -- the rest
           refine ⟨_, rfl, l, rfl, ⟨_, SqL.of hl3⟩, fun D2 hD2 => ?_⟩
           refine lc_list (K := K) (a := l) (xs := left.map V.int) (fun j ys H4 => ys = ((left.take j).filter fun i => !decide (i ∈ gr)).map V.int ∧ Same H3 H4 ∧ H4 D2 = some (.lst ys)) (Nat.le_of_lt (small1000 (by rw [List.length_map]; omega))) ⟨by simp, (Same.refl H3).upd_free hD2, upd_same⟩
             (fun j ys H4 h => ?_) (fun j ys H4 h => SqL.of (h.2.1 _ _ hl3)) ?_ ?_
           · rw [h.1, List.length_map]
             refine Nat.le_trans (List.length_filter_le _ _) ?_
             rw [List.length_take]
             exact Nat.min_le_left _ _
           · rintro j ys H4 y N M hy ⟨rfl, s4, hD4⟩ hN hM
             rw [List.getElem?_map] at hy
             cases et : left[j]? with
             | none => rw [et] at hy; cases hy
             | some t =>
               rw [et] at hy
               cases hy
               refine ⟨_, rfl, _, rfl, q, _, rfl, .inr (SqT.of (s4 _ _ hq3)), rfl, flat_nums gr, !inV _ _, rfl, ?_⟩
               rw [inV_nums]
               by_cases hin : t ∈ gr
               · rw [decide_eq_true hin]
                 refine iteF (hM H4 ⟨?_, s4, hD4⟩)
                 rw [List.take_add_one, et, List.filter_append, List.map_append]
                 simp [hin]
               · rw [decide_eq_false hin]
                 refine iteT ⟨_, rfl, hN _ H4 hD4 ⟨?_, s4.upd_free hD2, upd_same⟩⟩
                 rw [List.take_add_one, et, List.filter_append, List.map_append]
                 simp [hin]
           rintro ys H4 ⟨rfl, s4, hD4⟩
           rw [List.length_map, List.take_of_length_le (Nat.le_refl _)] at hD4
           have t4 := t3.trans s4
           have hfl : (left.filter fun i => !decide (i ∈ gr)).length ≤ left.length := List.length_filter_le _ _
           refine ⟨_, rfl, _, rfl, _, rfl, _, _, rfl, rfl, D2, lc, left.filter (fun i => !decide (i ∈ gr)), us, ch, by (show [V.ref D2, V.ref lc, V.int (((m + 1 : Nat) : Int) - 1)] = _); rw [show ((m + 1 : Nat) : Int) - 1 = (m : Int) by omega], by omega, hD4, t4 _ _ hc, hC.same t4, by omega, fun y hy => hran y (List.mem_filter.mp hy).1, hch, fun v H5 s5 hv => ?_⟩
           have t5 := t4.trans s5
           cases hr5 : fGr ch m (left.filter fun i => !decide (i ∈ gr)) with
           | none =>
             rw [hr5] at hv
             cases (show v = .non from hv)
             refine ⟨_, rfl, false, rfl, iteF (goon _ _ _ H5 t5 ?_)⟩
             rw [hA, hr5]
             rfl
           | some o =>
             rw [hr5] at hv
             obtain ⟨p, uo, rfl, hp, hO⟩ := hv
             have hol := fGr_len ch m _ o hr5
             have hul := hO.len
             refine ⟨_, rfl, true, rfl, iteT ⟨_, rfl, (by show 1 ≤ sizeLine; decide), fun pl hpl => ?_⟩⟩
             have s6 := (Same.refl H5).upd_free (o := .tup [.ref q]) hpl
             refine ⟨_, rfl, pl, p, _, _, rfl, rfl, upd_same, SqT.of (s6 _ _ hp), by simp, Nat.le_of_lt (small1000 (by show 1 + uo.length ≤ 1000; omega)), fun zn H7 s7 hzn => ?_⟩
             have s57 := s6.trans s7
             refine k (.ref zn) H7 (t5.trans s57) ?_
             rw [find_at egr (r := gr :: o) (by rw [hA, hr5]; rfl) hno]
             exact ⟨zn, _, rfl, hzn, ⟨q, rfl, (t5.trans s57) _ _ hq⟩, hO.tsame s57.tups⟩
       · rintro σ H2 ⟨v3, v4, v5, rfl, s2, hno⟩
         rw [hugl, List.take_of_length_le (Nat.le_refl _)] at hno
         refine k .non H2 s2 ?_
         rw [List.findSome?_eq_none_iff.mpr hno]
         rfl
def spFgA : Sp := fun vs H Q E => ∃ m, spFg m vs H Q E
theorem ok_fgA {f : Addr} {fd : FuncData} (F : Fun K "first_grouping" "first_grouping" sFg f fd) (b : Binds K fd ["left", "choices", "many"] []) (g : mg "first_grouping" = some (.ref f)) (T : Txt mg) (hall : mg "all" = none) :
   FnOk P w K mg base CX0 9 f fd ["left", "choices", "many"] spFgA := by
 refine ⟨fun vs H Q E ⟨m, h⟩ => (ok_fg (P := P) (w := w) (base := base) F b g T hall m).len vs H Q E h, fun A outer s H args us vs Q E hr he hb hv ⟨m, h⟩ => ?_⟩
 have hm : m ≤ 8 := by
   obtain ⟨_, _, _, _, _, _, hm, _⟩ := h
   exact hm
 exact (ok_fg F b g T hall m).run A outer s H args us vs Q E (hr.mono (by omega)) he hb hv h
end
end SL
namespace SL
open PySem L2
def spGr : Sp := fun vs H Q _ => ∃ (a : Addr) (qs : List Addr) (rows : List (List Str)) (most : Int), vs = [.ref a, .int most] ∧ H a = some (.tup (qs.map V.ref)) ∧ RowsAt H qs rows ∧ rows.length ≤ 64 ∧ (∀ r ∈ rows, RowOk r) ∧ (unl rows).length ≤ 8 ∧
 ∀ (p : Addr) (us : List V) (H' : Hp), Same H H' → H' p = some (.tup us) → GAt H' us (groupsM (unl rows) most) → Q (.ref p) H'
theorem range_nums (n : Nat) : rangeI 0 n = nums n := by
 unfold rangeI nums
 apply List.map_congr_left
 intro i _
 omega
theorem find_none_range {β : Type} {f : Nat → Option β} {n : Nat} (h : ∀ m, m < n → f m = none) : (List.range n).findSome? f = none := List.findSome?_eq_none_iff.mpr fun m hm => h m (List.mem_range.mp hm)
theorem ChAt.upd {H : Hp} {D : Addr} {o : HO} {us0 : List V} (hD : H D = some (.lst us0)) : ∀ {vs : List V} {cs : List (List (List Int))}, ChAt H vs cs → (∀ v ∈ vs, v ≠ V.ref D) → ChAt (L2.upd H D o) vs cs
 | [], [], _, _ => True.intro
 | v :: vs, c :: cs, ⟨⟨l, us, h1, h2, h3⟩, h4⟩, hv => by
   have hne : l ≠ D := fun z => hv v List.mem_cons_self (by rw [h1, z])
   refine ⟨⟨l, us, h1, by rw [upd_ne hne]; exact h2, h3.tsame (TSame.upd_lst (fun _ _ e => e) hD)⟩, ChAt.upd hD h4 fun x hx => hv x (List.mem_cons_of_mem _ hx)⟩
 | [], _ :: _, h, _ => h.elim
 | _ :: _, [], h, _ => h.elim
section
variable {P : Program} {w : World} {K : W.Frag} {mg : Str → Option Value} {base : Heap}
theorem scGr : FnScope ["rows", "most", "known", "numbers", "choices", "many", "grouping"] ["rows", "most"] (defScope sGr) := .of (by decide +kernel)
def scopeGr1 : Scope := ⟨.function, [(".0", .local), ("number", .local), ("groups_on", .globalImplicit), ("known", .free), ("most", .free)], false, false, []⟩
def scopeGr2 : Scope := ⟨.function, [(".0", .local), ("number", .local)], false, false, []⟩
theorem scGr1 : BlkScope (defScope sGr) ["rows", "most", "known", "numbers", "choices", "many", "grouping"] ["number"] ["known", "most"] [2, 1] scopeGr1 := .of (by decide +kernel)
theorem scGr2 : BlkScope (defScope sGr) ["rows", "most", "known", "numbers", "choices", "many", "grouping"] ["number"] [] [] scopeGr2 := .of (by decide +kernel)
theorem ok_gr {f fU fO fG : Addr} {fd fdU fdO fdG : FuncData} {its : Array Value} (F : FunD K "groups" "groups" sGr f fd its) (T : Txt mg) (hmu : ∃ u, mg "MOST_UNLIKE" = some u ∧ RelV (.int 8) u)
   (FU : Fun K "unlike" "unlike" sUn fU fdU) (bU : Binds K fdU ["rows"] []) (gU : mg "unlike" = some (.ref fU))
   (FO : Fun K "groups_on" "groups_on" sGo fO fdO) (bO : Binds K fdO ["group", "known", "most"] []) (gO : mg "groups_on" = some (.ref fO)) (GO : FnOk P w K mg base CX0 19 fO fdO ["group", "known", "most"] (spGo 9))
   (FG : Fun K "first_grouping" "first_grouping" sFg fG fdG) (bG : Binds K fdG ["left", "choices", "many"] []) (gG : mg "first_grouping" = some (.ref fG)) (hall : mg "all" = none) :
   FnOk P w K mg base CX0 20 f fd ["rows", "most"] spGr := by
 have GU : FnOk P w K mg base CX0 1 fU fdU ["rows"] spUn := ok_un FU T
 have GG : FnOk P w K mg base CX0 9 fG fdG ["left", "choices", "many"] spFgA := ok_fgA FG bG gG T hall
 refine F.ok scGr (fun vs H Q E h => ?_) (fun cdv A outer s H vs Q E hr h => ?_)
 · obtain ⟨a, qs, rows, most, rfl, _⟩ := h
   rfl
 · obtain ⟨a, qs, rows, most, rfl, ha, hR, h64, hok, h8, k⟩ := h
   obtain ⟨u8, g8, r8⟩ := hmu
   have hr1 : Room 1 _ := hr.mono (by decide)
   have hr9 : Room 9 _ := hr.mono (by decide)
   refine ⟨_, pss_cons (ps_set (i := 2) scGr.nd rfl (Or.inr rfl) (pe_call GU hr1 rfl gU FU.kp bU .nil pass0 (pa_cons (pv 0) pa_nil)))
     (pss_cons (ps_if (pt_cmpR op_gt (pe_callB call_len_seq (by rfl) T.len PySem.boot_len (pa_cons (pv 2) pa_nil)) (pe_glob (v := .int 8) (by rfl) g8 r8) (nomark _)) pss_never pss_nil)
     (pss_cons (ps_set (i := 3) scGr.nd rfl (Or.inl rfl) (pe_callTy (call_list_rng rfl) (by rfl) T.list PyProof.Rows.boot_list (pa_cons (pe_callTy call_rng1 (by rfl) T.range PyProof.Rows.boot_range (pa_cons (pe_callB call_len_seq (by rfl) T.len PySem.boot_len (pa_cons (pv 2) pa_nil)) pa_nil)) pa_nil)))
     (pss_cons (ps_setlc (i := 4) scGr1 rfl rfl rfl (pi_list (pv 3)) (fun fp C s1 H1 => pg_name (i := 0) scGr1.nd rfl (Or.inl rfl)) (fun fp C s1 H1 => pts_nil) (fun fp C s1 H1 => pe_call GO hr rfl gO FO.kp bO .nil pass0 (pa_cons (pe_tup (pa_cons (pv 0) pa_nil)) (pa_cons (pv 1) (pa_cons (pv 2) pa_nil)))) scGr.nd rfl rfl rfl)
     (pss_cons (ps_for PassesOwn.never rfl (pi_range1 rfl T.range (pa_cons (pe_callB call_len_seq (by rfl) T.len PySem.boot_len (pa_cons (pv 2) pa_nil)) pa_nil)) (pg_name (i := 5) scGr.nd rfl (Or.inl rfl))
       (pss_cons (ps_set (i := 6) scGr.nd rfl (Or.inl rfl) (pe_call GG hr9 rfl gG FG.kp bG .nil pass0 (pa_cons (pv 3) (pa_cons (pv 4) (pa_cons (pv 5) pa_nil)))))
       (pss_one (ps_if (pt_cmp (pc_notN (pv 6))) (pss_one (ps_ret (pv 6))) pss_nil))))
     (pss_one (ps_ret (pe_callTy call_tuple_of (by rfl) T.tuple PyProof.Rows.boot_tuple (pa_cons (pe_lc scGr2 rfl rfl rfl (pi_list (pv 3)) (fun fp C s1 H1 => pg_name (i := 0) scGr2.nd rfl (Or.inl rfl)) (fun fp C s1 H1 => pts_nil) (fun fp C s1 H1 => pe_tup (pa_cons (pv 0) pa_nil))) pa_nil)))))))), ?_⟩
   refine ⟨_, rfl, a, qs, rows, rfl, ha, hR, by omega, fun pk qk H1 s1 hpk hRk => ?_⟩
   have hkok : ∀ r ∈ unl rows, RowOk r := fun r hr' => hok r ((mem_unl r rows).mp hr')
   generalize unl rows = ks at h8 k hRk hkok
   have hkl : (qk.map V.ref).length = ks.length := by rw [List.length_map]; exact hRk.1
   refine ⟨_, rfl, pk, _, rfl, .inr (SqT.of hpk), _, _, rfl, rfl, _, rfl, ?_⟩
   rw [hkl, decide_eq_false (by omega)]
   refine iteF ?_
   -- the numbers
   refine ⟨_, rfl, pk, _, rfl, .inr (SqT.of hpk), _, rfl, fun pr hpr => ?_⟩
   rw [hkl]
   have s2 := (Same.refl H1).upd_free (o := .rng 0 ((ks.length : Nat) : Int)) hpr
   refine ⟨pr, 0, _, rfl, upd_same, by decide, by decide, by omega, by omega, by omega, fun ln hln => ?_⟩
   rw [Int.sub_zero, Int.toNat_natCast, range_nums] at *
   have s3 := (Same.refl (upd H1 pr (.rng 0 ((ks.length : Nat) : Int)))).upd_free (o := .lst ((nums ks.length).map V.int)) hln
   have t3 : Same H1 (upd (upd H1 pr (.rng 0 ((ks.length : Nat) : Int))) ln (.lst ((nums ks.length).map V.int))) := s2.trans s3
   generalize hH3 : upd (upd H1 pr (.rng 0 ((ks.length : Nat) : Int))) ln (.lst ((nums ks.length).map V.int)) = H3 at t3
   have hln3 : H3 ln = some (.lst ((nums ks.length).map V.int)) := by rw [← hH3]; exact upd_same
   have hnl : (nums ks.length).length = ks.length := by unfold nums; rw [List.length_map, List.length_range]
   -- the choices
   refine ⟨_, rfl, ln, rfl, ⟨_, SqL.of hln3⟩, fun D hD => ?_⟩
   refine lc_list (K := K) (a := ln) (xs := (nums ks.length).map V.int) (fun i ys H4 => ChAt H4 ys (((nums ks.length).take i).map fun j => gOn ks most 9 [j]) ∧ Same H3 H4 ∧ H4 D = some (.lst ys) ∧ ∀ v ∈ ys, v ≠ V.ref D) (Nat.le_of_lt (small1000 (by rw [List.length_map]; omega))) ⟨True.intro, (Same.refl H3).upd_free hD, upd_same, fun v hv => by cases hv⟩
     (fun i ys H4 h => by rw [h.1.len, List.length_map, List.length_take]; exact Nat.min_le_left _ _) (fun i ys H4 h => SqL.of (h.2.1 _ _ hln3)) ?_ ?_
   · rintro i ys H4 x N M hx ⟨hC4, s4, hD4, hnD⟩ hN hM
     rw [List.getElem?_map] at hx
     cases et : (nums ks.length)[i]? with
     | none => rw [et] at hx; cases hx
     | some t =>
       rw [et] at hx
       cases hx
       have ht := mem_nums.mp (List.mem_of_getElem? et)
       have t4 := t3.trans s4
       refine ⟨_, rfl, (by show 1 ≤ sizeLine; decide), fun q hq => ?_⟩
       have s5 := (Same.refl H4).upd_free (o := .tup [.int t]) hq
       have t5 := t4.trans s5
       refine ⟨_, rfl, _, rfl, q, pk, [t], qk, ks, most, rfl, upd_same, t5 _ _ hpk, hRk.tsame t5.tups, h8, hkok, GOk.one ht.1 ht.2, by show (ks.length : Int) - t ≤ 9; omega, fun l vs H6 s6 hl5 hl6 hG6 => ?_⟩
       have s56 := s5.trans s6
       have hD6 := s56 _ _ hD4
       have nlD : l ≠ D := fun z => by
         have := s5 _ _ hD4
         rw [← z, hl5] at this
         cases this
       have hnD' : ∀ v ∈ ys ++ [V.ref l], v ≠ V.ref D := fun v hv => by
         rcases List.mem_append.mp hv with hv | hv
         · exact hnD v hv
         · rw [List.mem_singleton] at hv
           rw [hv]
           intro z
           injection z with z
           exact nlD z
       refine hN _ H6 hD6 ⟨?_, (s4.trans s56).upd_free hD, upd_same, hnD'⟩
       rw [List.take_add_one, et, List.map_append]
       exact ((hC4.same s56).snoc ⟨l, vs, rfl, hl6, hG6⟩).upd hD6 hnD'
   rintro ys H4 ⟨hC4, s4, hD4, _⟩
   rw [List.length_map, List.take_of_length_le (Nat.le_refl _)] at hC4
   have t4 := t3.trans s4
   have hCm : ChAt H4 ys (chM ks most) := hC4
   have hcl : (chM ks most).length = ks.length := by unfold chM; rw [List.length_map, hnl]
   have hch : ∀ c ∈ chM ks most, c.length ≤ 256 ∧ ∀ g ∈ c, g.length ≤ 8 := fun c hc => by
     unfold chM at hc
     obtain ⟨x, hx, rfl⟩ := List.mem_map.mp hc
     have hx' := mem_nums.mp hx
     refine ⟨gOn_256 h8 hx'.1, fun g hg => ?_⟩
     exact Nat.le_trans (gOn_good 9 [x] (GOk.one hx'.1 hx'.2) g hg).1.ok.len h8
   -- as few as can be
   refine ⟨_, rfl, pk, _, rfl, .inr (SqT.of (t4 _ _ hpk)), _, rfl, by omega, by omega, ?_⟩
   rw [hkl, Int.toNat_natCast]
   refine for_range (n := ks.length) (fun i σ H5 => ∃ (v5 v6 : Option V), σ = [some (.ref a), some (.int most), some (.ref pk), some (.ref ln), some (.ref D), v5, v6] ∧ Same H4 H5 ∧ ∀ m, m < i → fGr (chM ks most) m (nums ks.length) = none)
     ⟨none, none, rfl, Same.refl H4, fun m hm => by omega⟩ ?_ ?_
   · rintro i σ H5 hi ⟨v5, v6, rfl, s5, hno⟩
     have i0 : 0 + (i : Int) = (i : Int) := Int.zero_add _
     rw [i0]
     refine ⟨_, rfl, _, rfl, _, rfl, i, ln, D, nums ks.length, ys, chM ks most, rfl, by omega, (s4.trans s5) _ _ hln3, s5 _ _ hD4, hCm.same s5, by omega, fun x hx => by rw [hcl]; exact mem_nums.mp hx, hch, fun v H6 s6 hv => ?_⟩
     have t6 := (s1.trans t4).trans (s5.trans s6)
     cases hf : fGr (chM ks most) i (nums ks.length) with
     | none =>
       rw [hf] at hv
       cases (show v = .non from hv)
       refine ⟨_, rfl, false, rfl, iteF ⟨_, _, rfl, s5.trans s6, fun m hm => ?_⟩⟩
       by_cases h : m < i
       · exact hno m h
       · have : m = i := by omega
         subst this
         exact hf
     | some r =>
       rw [hf] at hv
       obtain ⟨p, us, rfl, hp, hO⟩ := hv
       refine ⟨_, rfl, true, rfl, iteT ⟨_, rfl, k p us H6 t6 hp ?_⟩⟩
       have e : (List.range ks.length).findSome? (fun m => fGr (chM ks most) m (nums ks.length)) = some r := find_at (i := i) (g := i) (by simp [hi]) hf fun m hm => by
         rw [List.take_range] at hm
         have := List.mem_range.mp hm
         exact hno m (by omega)
       unfold groupsM
       rw [e]
       exact hO
   · rintro σ H5 ⟨v5, v6, rfl, s5, hno⟩
     have hln5 := (s4.trans s5) _ _ hln3
     refine ⟨_, rfl, ln, rfl, ⟨_, SqL.of hln5⟩, fun D2 hD2 => ?_⟩
     refine lc_list (K := K) (a := ln) (xs := (nums ks.length).map V.int) (fun i ys H6 => GAt H6 ys (((nums ks.length).take i).map fun j => [j]) ∧ Same H5 H6 ∧ H6 D2 = some (.lst ys)) (Nat.le_of_lt (small1000 (by rw [List.length_map]; omega))) ⟨True.intro, (Same.refl H5).upd_free hD2, upd_same⟩
       (fun i ys H6 h => by rw [h.1.len, List.length_map, List.length_take]; exact Nat.min_le_left _ _) (fun i ys H6 h => SqL.of (h.2.1 _ _ hln5)) ?_ ?_
     · rintro i ys H6 x N M hx ⟨hG6, s6, hD6⟩ hN hM
       rw [List.getElem?_map] at hx
       cases et : (nums ks.length)[i]? with
       | none => rw [et] at hx; cases hx
       | some t =>
         rw [et] at hx
         cases hx
         refine ⟨_, rfl, (by show 1 ≤ sizeLine; decide), fun q hq => ?_⟩
         have s7 := (Same.refl H6).upd_free (o := .tup [.int t]) hq
         have hD7 := s7 _ _ hD6
         have ts : TSame (upd H6 q (.tup [.int t])) (upd (upd H6 q (.tup [.int t])) D2 (.lst (ys ++ [.ref q]))) := TSame.upd_lst (fun _ _ e => e) hD7
         refine hN _ _ hD7 ⟨?_, (s6.trans s7).upd_free hD2, upd_same⟩
         rw [List.take_add_one, et, List.map_append]
         exact ((hG6.tsame s7.tups).tsame ts).app ⟨⟨q, rfl, ts _ _ upd_same⟩, True.intro⟩
     · rintro ys6 H6 ⟨hG6, s6, hD6⟩
       rw [List.length_map, List.take_of_length_le (Nat.le_refl _)] at hG6
       refine ⟨D2, _, rfl, .inl ⟨SqL.of hD6, fun t ht => ?_⟩⟩
       have s7 := (Same.refl H6).upd_free (o := .tup ys6) ht
       refine k t ys6 _ (((s1.trans t4).trans (s5.trans s6)).trans s7) upd_same ?_
       unfold groupsM
       rw [find_none_range hno]
       exact hG6.tsame s7.tups
end
end SL
namespace SL
open PySem L2
theorem cut_take_ref (qs : List Addr) (k : Nat) : cutV (qs.map V.ref) none (some (k : Int)) = (qs.take k).map V.ref := by rw [cut_take, List.map_take]
section
variable {P : Program} {w : World} {K : W.Frag} {mg : Str → Option Value} {base : Heap}
def scopeFe1 : Scope := ⟨.function, [(".0", .local), ("_law_k", .local), ("_law_rows_here", .free)], false, false, []⟩
end
end SL
namespace SL
open PySem L2
theorem dec_strV (a b : Str) : decide (V.str a = V.str b) = decide (a = b) := decide_eq_decide.mpr ⟨fun q => by injection q, fun q => by rw [q]⟩
def MrAt (H : Hp) (l : Addr) (r : List Str) : Prop := ∃ ts : List Addr, H l = some (.lst (ts.map V.ref)) ∧ ts.length = r.length ∧ ∀ (j : Nat) (z : Str), r[j]? = some z → ∃ t, ts[j]? = some t ∧ H t = some (.tup [.str z, .str (lawS z).str])
theorem MrAt.same {H H' : Hp} (s : Same H H') {l : Addr} {r : List Str} (h : MrAt H l r) : MrAt H' l r := by
 obtain ⟨ts, h1, h2, h3⟩ := h
 exact ⟨ts, s _ _ h1, h2, fun j z hz => by
   obtain ⟨t, e1, e2⟩ := h3 j z hz
   exact ⟨t, e1, s _ _ e2⟩⟩
def MsAt (H : Hp) (ls : List Addr) (rows : List (List Str)) : Prop := ls.length = rows.length ∧ ∀ (i : Nat) (r : List Str), rows[i]? = some r → ∃ l, ls[i]? = some l ∧ MrAt H l r
theorem MsAt.same {H H' : Hp} (s : Same H H') {ls : List Addr} {rows : List (List Str)} (h : MsAt H ls rows) : MsAt H' ls rows :=
 ⟨h.1, fun i r hr => by
   obtain ⟨l, e1, e2⟩ := h.2 i r hr
   exact ⟨l, e1, e2.same s⟩⟩
theorem MsAt.get {H : Hp} {ls : List Addr} {rows : List (List Str)} (h : MsAt H ls rows) {i : Nat} (hi : i < rows.length) : ∃ r l, rows[i]? = some r ∧ ls[i]? = some l ∧ MrAt H l r := by
 obtain ⟨l, e1, e2⟩ := h.2 i rows[i] (by simp [hi])
 exact ⟨rows[i], l, by simp [hi], e1, e2⟩
theorem MrAt.at {H : Hp} {l : Addr} {r : List Str} (h : MrAt H l r) {i : Nat} (hi : i < r.length) : ∃ (ts : List Addr) (t : Addr), H l = some (.lst (ts.map V.ref)) ∧ (ts.map V.ref)[i]? = some (.ref t) ∧ H t = some (.tup [.str (wAt i r), .str (lawS (wAt i r)).str]) := by
 obtain ⟨ts, h1, h2, h3⟩ := h
 have e : r[i]? = some (wAt i r) := by unfold wAt; simp [List.getD, hi]
 obtain ⟨t, e1, e2⟩ := h3 i _ e
 exact ⟨ts, t, h1, by rw [List.getElem?_map, e1]; rfl, e2⟩
theorem MrAt.lenL {H : Hp} {l : Addr} {r : List Str} (h : MrAt H l r) : ∃ us : List V, H l = some (.lst us) ∧ us.length = r.length := by
 obtain ⟨ts, h1, h2, _⟩ := h
 exact ⟨_, h1, by rw [List.length_map]; exact h2⟩
def FlAt (H : Hp) (v : V) : Option (List (Str × Str)) → Prop
 | none => v = .non
 | some es => ∃ p vs, v = .ref p ∧ H p = some (.lst vs) ∧ PtsAt H vs (es.map some)
def spLm : Sp := fun vs H Q _ => ∃ (a : Addr) (ls : List Addr) (rows : List (List Str)), vs = [.ref a] ∧ H a = some (.lst (ls.map V.ref)) ∧ MsAt H ls rows ∧ rows.length ≤ 64 ∧ 1 ≤ rows.length ∧ (∀ r ∈ rows, RowOk r) ∧ ∀ (v : V) (H' : Hp), Same H H' → FlAt H' v (formM rows) → Q v H'
theorem same_sorts {f : Str} {zs : List Str} (h : zs.all (fun w => decide (w = f)) = true) : zs.all (fun w => decide (lawS w = lawS f)) = true := by
 rw [List.all_eq_true] at h ⊢
 exact fun w hw => decide_eq_true (by rw [of_decide_eq_true (h w hw)])
def pSo (f : Str) (zs : List Str) : Str × Str := if zs.all (fun w => decide (w = f)) then (sWord, f) else (sGap, (lawS f).str)
theorem pSo_snoc (f : Str) (zs : List Str) (z : Str) (hz : (lawS z).str = (lawS f).str) : pSo f (zs ++ [z]) = if z = f then pSo f zs else (sGap, (lawS z).str) := by
 unfold pSo
 rw [List.all_append]
 by_cases h : z = f
 · subst h
   simp
 · rw [hz]
   simp [h]
section
variable {P : Program} {w : World} {K : W.Frag} {mg : Str → Option Value} {base : Heap}
theorem scLm : FnScope ["_law_rows_here", "_law_form", "_law_row", "_law_at", "_law_part"] ["_law_rows_here"] (defScope sLl) := .of (by decide +kernel)
theorem ok_lm {f : Addr} {fd : FuncData} (F : Fun K "_law_least" "_law_least" sLl f fd) (T : Txt mg) :
   FnOk P w K mg base CX0 1 f fd ["_law_rows_here"] spLm := by
 refine F.ok scLm (fun vs H Q E h => ?_) (fun cdv A outer s H vs Q E hr h => ?_)
 · obtain ⟨a, qs, rows, rfl, _⟩ := h
   rfl
 · obtain ⟨a, ls, rows, rfl, ha, hM, h64, h1, hok, k⟩ := h
   have hql : (ls.map V.ref).length = rows.length := by rw [List.length_map]; exact hM.1
   obtain ⟨r0, l0, er0, el0, hr0⟩ := hM.get (i := 0) (by omega)
   have eh : rows.headD [] = r0 := by
     cases rows with
     | nil => simp at h1
     | cons r rows => cases er0; rfl
   have e0 : atI (ls.map V.ref) 0 = some (.ref l0) := atI_nat (j := 0) (by rw [List.getElem?_map, el0]; rfl)
   have hl8 := (hok r0 (List.mem_of_getElem? er0)).2.1
   unfold formM at k
   rw [eh] at k
   refine ⟨_, pss_cons (ps_set (i := 1) scLm.nd rfl (Or.inl rfl) (pe_lst pa_nil))
     (pss_cons (ps_for PassesOwn.never rfl (pi_list (pv 0)) (pg_name (i := 2) scLm.nd rfl (Or.inl rfl))
       (pss_one (ps_if (pt_cmpR op_ne (pe_callB call_len_seq (by rfl) T.len PySem.boot_len (pa_cons (pv 2) pa_nil)) (pe_callB call_len_seq (by rfl) T.len PySem.boot_len (pa_cons (pe_ix ix_list (pv 0) pe_int (fun _ _ => rfl)) pa_nil)) (nomark _)) (pss_one (ps_ret pe_non)) pss_nil)))
     (pss_cons (ps_for PassesOwn.never rfl (pi_range1 rfl T.range (pa_cons (pe_callB call_len_seq (by rfl) T.len PySem.boot_len (pa_cons (pe_ix ix_list (pv 0) pe_int (fun _ _ => rfl)) pa_nil)) pa_nil)) (pg_name (i := 3) scLm.nd rfl (Or.inl rfl))
       (pss_cons (ps_set (i := 4) scLm.nd rfl (Or.inl rfl) (pe_tup (pa_cons pe_str (pa_cons (pe_ix ix_tup (pe_ix ix_list (pe_ix ix_list (pv 0) pe_int (fun _ _ => rfl)) (pv 3) (fun _ _ => rfl)) pe_int (fun _ _ => rfl)) pa_nil))))
       (pss_cons (ps_for PassesOwn.never rfl (pi_list (pv 0)) (pg_name (i := 2) scLm.nd rfl (Or.inl rfl))
         (pss_cons (ps_if (pt_cmpR op_ne (pe_ix ix_tup (pe_ix ix_list (pv 2) (pv 3) (fun _ _ => rfl)) pe_int (fun _ _ => rfl)) (pe_ix ix_tup (pe_ix ix_list (pe_ix ix_list (pv 0) pe_int (fun _ _ => rfl)) (pv 3) (fun _ _ => rfl)) pe_int (fun _ _ => rfl)) (nomark _)) (pss_one (ps_ret pe_non)) pss_nil)
         (pss_one (ps_if (pt_cmpR op_ne (pe_ix ix_tup (pe_ix ix_list (pv 2) (pv 3) (fun _ _ => rfl)) pe_int (fun _ _ => rfl)) (pe_ix ix_tup (pe_ix ix_list (pe_ix ix_list (pv 0) pe_int (fun _ _ => rfl)) (pv 3) (fun _ _ => rfl)) pe_int (fun _ _ => rfl)) (nomark _))
           (pss_one (ps_set (i := 4) scLm.nd rfl (Or.inl rfl) (pe_tup (pa_cons pe_str (pa_cons (pe_ix ix_tup (pe_ix ix_list (pv 2) (pv 3) (fun _ _ => rfl)) pe_int (fun _ _ => rfl)) pa_nil))))) pss_nil))))
       (pss_one (ps_expr (pe_bm PySem.F.plainAttrs_list PySem.F.slot_list_append PySem.F.type_list_append mt_append (pv 1) (pa_cons (pv 4) pa_nil)))))))
     (pss_one (ps_ret (pv 1))))), ?_⟩
   refine ⟨Nat.zero_le _, fun lf hlf => ?_⟩
   have s0 : Same H (upd H lf (.lst [])) := (Same.refl H).upd_free hlf
   generalize hH0 : upd H lf (.lst []) = H0 at s0
   have hF0 : H0 lf = some (.lst []) := by rw [← hH0]; exact upd_same
   obtain ⟨u0, hu0, hu0l⟩ := hr0.lenL
   refine ⟨_, rfl, a, rfl, ⟨_, SqL.of (s0 _ _ ha)⟩, ?_⟩
   refine for_list (K := K) (a := a) (xs := ls.map V.ref) (fun i σ H2 => H2 = H0 ∧ (∃ v, σ = [some (.ref a), some (.ref lf), v, none, none]) ∧ ∀ r ∈ rows.take i, r.length = r0.length)
     ⟨rfl, ⟨none, rfl⟩, by simp⟩ (fun i σ H2 _ h => by rw [h.1]; exact SqL.of (s0 _ _ ha)) ?_ ?_
   · rintro i x σ H2 hx ⟨rfl, ⟨v, rfl⟩, hlen⟩
     have hi : i < rows.length := by
       have := (List.getElem?_eq_some_iff.mp hx).1
       omega
     obtain ⟨r, l, er, el, hl⟩ := hM.get hi
     rw [List.getElem?_map, el] at hx
     cases hx
     obtain ⟨u, hu, hul⟩ := hl.lenL
     refine ⟨_, rfl, l, _, rfl, .inl (SqL.of (s0 _ _ hu)), _, rfl, a, _, _, _, rfl, rfl, SqL.of (s0 _ _ ha), e0, l0, _, rfl, .inl (SqL.of (s0 _ _ hu0)), rfl, _, rfl, ?_⟩
     rw [dec_intV, hul, hu0l]
     by_cases hl : r.length = r0.length
     · rw [decide_eq_true (by rw [hl])]
       refine iteF ⟨rfl, ⟨_, rfl⟩, fun r' hr' => ?_⟩
       rw [List.take_add_one, er] at hr'
       rcases List.mem_append.mp hr' with hr' | hr'
       · exact hlen r' hr'
       · have : r' = r := by simpa using hr'
         subst this
         exact hl
     · rw [decide_eq_false (fun z => hl (by omega))]
       refine iteT ?_
       rw [if_neg (fun z => hl (of_decide_eq_true (List.all_eq_true.mp z r (List.mem_of_getElem? er))))] at k
       exact k .non _ s0 rfl
   rintro σ H2 ⟨rfl, ⟨v2, rfl⟩, hall⟩
   rw [hql, List.take_of_length_le (Nat.le_refl _)] at hall
   rw [if_pos (List.all_eq_true.mpr fun r hr' => decide_eq_true (hall r hr'))] at k
   refine ⟨_, rfl, a, _, _, _, rfl, rfl, SqL.of (s0 _ _ ha), e0, l0, _, rfl, .inl (SqL.of (s0 _ _ hu0)), _, rfl, by omega, by rw [hu0l]; omega, ?_⟩
   rw [hu0l, Int.toNat_natCast]
   refine for_range (n := r0.length) (fun i σ H2 => ∃ (vs : List V) (v2 v3 v4 : Option V), σ = [some (.ref a), some (.ref lf), v2, v3, v4] ∧ Same H H2 ∧ H2 lf = some (.lst vs) ∧ PtsAt H2 vs (partsM i rows) ∧ ¬ none ∈ partsM i rows)
     ⟨[], v2, none, none, rfl, s0, hF0, True.intro, by simp [partsM]⟩ ?_ ?_
   · rintro i σ H3 hi ⟨vs, v2, v3, v4, rfl, s3, hF, hP, hno⟩
     have i0 : 0 + (i : Int) = (i : Int) := Int.zero_add _
     rw [i0]
     have hvl := hP.len
     have hpl : (partsM i rows).length = i := by unfold partsM; rw [List.length_map, List.length_range]
     have e1 : partsM (i + 1) rows = partsM i rows ++ [partM (rows.map (wAt i))] := by
       unfold partsM
       rw [List.range_succ, List.map_append]
       rfl
     have hpm : partM (rows.map (wAt i)) = partF (wAt i r0) (rows.map (wAt i)) := by
       unfold partM
       cases rows with
       | nil => simp at h1
       | cons r rows => cases er0; rfl
     obtain ⟨t0s, t0, k01, k02, k03⟩ := hr0.at hi
     generalize hfi : wAt i r0 = fi at hpm k03
     -- the first part
     refine ⟨_, rfl, a, _, _, _, rfl, rfl, SqL.of (s3 _ _ ha), e0, _, rfl, l0, _, _, _, rfl, rfl, SqL.of (s3 _ _ k01), atI_nat k02, t0, _, _, .str fi, rfl, rfl, SqT.of (s3 _ _ k03), atI_nat (j := 0) rfl, (by show 2 ≤ sizeLine; decide), fun ta hta => ?_⟩
     have s4 := (Same.refl H3).upd_free (o := .tup [.str (Str.ofString "word"), .str fi]) hta
     generalize hH4 : upd H3 ta (.tup [.str (Str.ofString "word"), .str fi]) = H4 at s4
     have hta' : H4 ta = some (.tup [.str sWord, .str fi]) := by rw [← hH4]; exact upd_same
     refine ⟨_, rfl, a, rfl, ⟨_, SqL.of ((s3.trans s4) _ _ ha)⟩, ?_⟩
     refine for_list (K := K) (a := a) (xs := ls.map V.ref) (fun j σ H5 => ∃ (w2 : Option V) (t : Addr), σ = [some (.ref a), some (.ref lf), w2, some (.int (i : Int)), some (.ref t)] ∧ Same H3 H5 ∧ H5 t = some (.tup [.str (pSo fi ((rows.take j).map (wAt i))).1, .str (pSo fi ((rows.take j).map (wAt i))).2]) ∧ ∀ r ∈ rows.take j, (lawS (wAt i r)).str = (lawS fi).str)
       ⟨v2, ta, rfl, s4, by rw [List.take_zero]; exact hta', by simp⟩ (fun j σ H5 _ ⟨_, _, _, h, _⟩ => SqL.of ((s3.trans h) _ _ ha)) ?_ ?_
     · rintro j x σ H5 hx ⟨w2, t, rfl, s5, ht, hsame⟩
       have hj : j < rows.length := by
         have := (List.getElem?_eq_some_iff.mp hx).1
         omega
       obtain ⟨r, l, er, el, hl⟩ := hM.get hj
       rw [List.getElem?_map, el] at hx
       cases hx
       have hrm := List.mem_of_getElem? er
       have hir : i < r.length := by rw [hall r hrm]; exact hi
       obtain ⟨trs, tr, k1, k2, k3⟩ := hl.at hir
       have t5 := s3.trans s5
       have tk : rows.take (j + 1) = rows.take j ++ [r] := by rw [List.take_add_one, er]; rfl
       refine ⟨_, rfl, _, rfl, l, _, _, _, rfl, rfl, SqL.of (t5 _ _ k1), atI_nat k2, tr, _, _, .str (lawS (wAt i r)).str, rfl, rfl, SqT.of (t5 _ _ k3), atI_nat (j := 1) rfl,
         _, rfl, a, _, _, _, rfl, rfl, SqL.of (t5 _ _ ha), e0, _, rfl, l0, _, _, _, rfl, rfl, SqL.of (t5 _ _ k01), atI_nat k02, t0, _, _, .str (lawS fi).str, rfl, rfl, SqT.of (t5 _ _ k03), atI_nat (j := 1) rfl, rfl, _, rfl, ?_⟩
       rw [dec_strV]
       by_cases hS : (lawS (wAt i r)).str = (lawS fi).str
       · rw [decide_eq_true hS]
         refine iteF ?_
         refine ⟨_, rfl, _, rfl, l, _, _, _, rfl, rfl, SqL.of (t5 _ _ k1), atI_nat k2, tr, _, _, .str (wAt i r), rfl, rfl, SqT.of (t5 _ _ k3), atI_nat (j := 0) rfl,
           _, rfl, a, _, _, _, rfl, rfl, SqL.of (t5 _ _ ha), e0, _, rfl, l0, _, _, _, rfl, rfl, SqL.of (t5 _ _ k01), atI_nat k02, t0, _, _, .str fi, rfl, rfl, SqT.of (t5 _ _ k03), atI_nat (j := 0) rfl, rfl, _, rfl, ?_⟩
         rw [dec_strV]
         have hsame' : ∀ r' ∈ rows.take (j + 1), (lawS (wAt i r')).str = (lawS fi).str := fun r' hr' => by
           rw [tk] at hr'
           rcases List.mem_append.mp hr' with hr' | hr'
           · exact hsame r' hr'
           · have : r' = r := by simpa using hr'
             subst this
             exact hS
         have eP : pSo fi ((rows.take (j + 1)).map (wAt i)) = if wAt i r = fi then pSo fi ((rows.take j).map (wAt i)) else (sGap, (lawS (wAt i r)).str) := by
           rw [tk, List.map_append]
           exact pSo_snoc _ _ _ hS
         by_cases hW : wAt i r = fi
         · rw [decide_eq_true hW]
           rw [if_pos hW] at eP
           exact iteF ⟨_, t, rfl, s5, by rw [eP]; exact ht, hsame'⟩
         · rw [decide_eq_false hW]
           rw [if_neg hW] at eP
           refine iteT ⟨_, rfl, _, rfl, l, _, _, _, rfl, rfl, SqL.of (t5 _ _ k1), atI_nat k2, tr, _, _, .str (lawS (wAt i r)).str, rfl, rfl, SqT.of (t5 _ _ k3), atI_nat (j := 1) rfl, (by show 2 ≤ sizeLine; decide), fun tb htb => ?_⟩
           have s6 := (Same.refl H5).upd_free (o := .tup [.str (Str.ofString "gap"), .str (lawS (wAt i r)).str]) htb
           exact ⟨_, tb, rfl, s5.trans s6, by rw [eP]; exact upd_same, hsame'⟩
       · rw [decide_eq_false hS]
         refine iteT ?_
         have hnone : none ∈ partsM r0.length rows := List.mem_map.mpr ⟨i, List.mem_range.mpr hi, by
           show partM (rows.map (wAt i)) = none
           rw [hpm]
           have hno' : ¬ (rows.map (wAt i)).all (fun w => decide (lawS w = lawS fi)) = true := fun z => hS (by rw [of_decide_eq_true (List.all_eq_true.mp z (wAt i r) (List.mem_map.mpr ⟨r, hrm, rfl⟩))])
           unfold partF
           rw [if_neg (fun z => hno' (same_sorts z)), if_neg hno']⟩
         rw [if_pos hnone] at k
         exact k .non H5 t5 rfl
     · rintro σ H5 ⟨w2, t, rfl, s5, ht, hsame⟩
       rw [hql, List.take_of_length_le (Nat.le_refl _)] at ht hsame
       have hF5 := s5 _ _ hF
       have ts : TSame H5 (upd H5 lf (.lst (vs ++ [.ref t]))) := TSame.upd_lst (fun _ _ e => e) hF5
       have hp : partF fi (rows.map (wAt i)) = some (pSo fi (rows.map (wAt i))) := by
         unfold partF pSo
         have hS : (rows.map (wAt i)).all (fun w => decide (lawS w = lawS fi)) = true := List.all_eq_true.mpr fun z hz => by
           obtain ⟨r, hr', rfl⟩ := List.mem_map.mp hz
           exact decide_eq_true (so_inj _ _ (hsame r hr'))
         rw [if_pos hS]
         split <;> rfl
       rw [hpm, hp] at e1
       refine ⟨_, rfl, .inl ⟨rfl, _, SqL.of hF5⟩, _, rfl, lf, _, _, rfl, rfl, hF5, small1000 (by omega), vs ++ [.ref t], _, _, _, rfl, (s3.trans s5).upd_free hlf, upd_same, ?_, ?_⟩
       · rw [e1]
         exact ((hP.tsame s5.tups).tsame ts).snoc (show PtAt _ (.ref t) (some _) from ts _ _ ht)
       · rw [e1, List.mem_append]
         rintro (h | h)
         · exact hno h
         · simp at h
   · rintro σ H3 ⟨vs, v2, v3, v4, rfl, s3, hF, hP, hno⟩
     rw [if_neg hno] at k
     exact ⟨_, rfl, k (.ref lf) H3 s3 ⟨lf, vs, rfl, hF, by rw [some_filter hno]; exact hP⟩⟩
end
end SL
namespace SL
open PySem L2
theorem pi_tupK {X : Cx} {K : W.Frag} {tg l : Expr} {tl : TE} (hK : X.K = K) (hl : PE X l tl) : PI X tg l (iTup K tl) := by subst hK; exact pi_tup hl
section
variable {P : Program} {w : World} {K : W.Frag} {mg : Str → Option Value} {base : Heap}
def scopeHo2 : Scope := ⟨.function, [(".0", .local), ("_law_row", .local)], false, false, []⟩
def scopeHo3 : Scope := ⟨.function, [(".0", .local), ("_law_word_here", .local), ("_law_sort", .globalImplicit)], false, false, []⟩
theorem scHo3 : BlkScope scopeHo2 ["_law_row"] ["_law_word_here"] [] [] scopeHo3 := .of (by decide +kernel)
theorem MsAt.nil {H : Hp} : MsAt H [] [] := ⟨rfl, fun i r h => by simp at h⟩
theorem MsAt.snoc {H : Hp} {ls : List Addr} {rows : List (List Str)} {l : Addr} {r : List Str} (h : MsAt H ls rows) (hl : MrAt H l r) : MsAt H (ls ++ [l]) (rows ++ [r]) := by
 refine ⟨by rw [List.length_append, List.length_append, h.1]; rfl, fun i e he => ?_⟩
 by_cases hi : i < rows.length
 · rw [List.getElem?_append_left hi] at he
   obtain ⟨q, h1, h2⟩ := h.2 i e he
   exact ⟨q, by rw [List.getElem?_append_left (by rw [h.1]; exact hi)]; exact h1, h2⟩
 · rw [List.getElem?_append_right (by omega)] at he
   have : i = rows.length := by
     have := (List.getElem?_eq_some_iff.mp he).1
     simp at this
     omega
   subst this
   rw [Nat.sub_self] at he
   cases he
   exact ⟨l, by rw [List.getElem?_append_right (by rw [h.1]; exact Nat.le_refl _), h.1, Nat.sub_self]; rfl, hl⟩
theorem MrAt.upd {H : Hp} {l D : Addr} {r : List Str} {us0 : List V} {o : HO} (hD : H D = some (.lst us0)) (hne : l ≠ D) (h : MrAt H l r) : MrAt (L2.upd H D o) l r := by
 obtain ⟨ts, h1, h2, h3⟩ := h
 refine ⟨ts, by rw [upd_ne hne]; exact h1, h2, fun j z hz => ?_⟩
 obtain ⟨t, e1, e2⟩ := h3 j z hz
 have : t ≠ D := fun q => by rw [q, hD] at e2; cases e2
 exact ⟨t, e1, by rw [upd_ne this]; exact e2⟩
theorem MsAt.upd {H : Hp} {D : Addr} {ls : List Addr} {rows : List (List Str)} {us0 : List V} {o : HO} (hD : H D = some (.lst us0)) (hne : ∀ l ∈ ls, l ≠ D) (h : MsAt H ls rows) : MsAt (L2.upd H D o) ls rows :=
 ⟨h.1, fun i r hr => by
   obtain ⟨l, e1, e2⟩ := h.2 i r hr
   exact ⟨l, e1, e2.upd hD (hne l (List.mem_of_getElem? e1))⟩⟩
end
end SL
namespace SL
open PySem L2
theorem gapWord : ¬ sWord = sGap := by decide +kernel
theorem parts_snoc (n : Nat) (rows : List (List Str)) : partsM (n + 1) rows = partsM n rows ++ [partM (rows.map (wAt n))] := by
 unfold partsM
 rw [List.range_succ, List.map_append]
 rfl
theorem lex_self : ∀ r : List Int, HT.lexLt r r = false
 | [] => rfl
 | x :: r => by rw [HT.lexLt_cons, if_pos rfl]; exact lex_self r
theorem lex_pre (g : List Int) (a b : Int) (u v : List Int) : HT.lexLt (g ++ a :: u) (g ++ b :: v) = if a = b then HT.lexLt u v else decide (a < b) := by
 induction g with
 | nil => rfl
 | cons x g ih => rw [List.cons_append, List.cons_append, HT.lexLt_cons, if_pos rfl, ih]
theorem find_some {α : Type} {f : Nat → Option α} {x : α} : ∀ {n : Nat}, (List.range n).findSome? f = some x → ∃ k, k < n ∧ f k = some x ∧ ∀ j, j < k → f j = none
 | 0, h => by cases h
 | n + 1, h => by
   rw [List.range_succ, List.findSome?_append] at h
   cases e : (List.range n).findSome? f with
   | some y =>
     rw [e] at h
     cases h
     obtain ⟨k, h1, h2, h3⟩ := find_some e
     exact ⟨k, by omega, h2, h3⟩
   | none =>
     rw [e] at h
     rw [List.findSome?_eq_none_iff] at e
     have : f n = some x := by simpa using h
     exact ⟨n, by omega, this, fun j hj => e j (List.mem_range.mpr hj)⟩
def bitsM (c : Nat) (n : Nat) : List Int := ((List.range n).filter fun (k : Nat) => decide (c / 2 ^ k % 2 = 1)).map fun (k : Nat) => (k : Int)
theorem bits_snoc (c n : Nat) : bitsM c (n + 1) = bitsM c n ++ (if c / 2 ^ n % 2 = 1 then [(n : Int)] else []) := by
 unfold bitsM
 rw [List.range_succ, List.filter_append, List.map_append]
 by_cases h : c / 2 ^ n % 2 = 1
 · simp [h]
 · simp [h]
theorem bits_mem {c n : Nat} {x : Int} (h : x ∈ bitsM c n) : 0 ≤ x ∧ x < (n : Int) := by
 unfold bitsM at h
 obtain ⟨k, hk, rfl⟩ := List.mem_map.mp h
 have := List.mem_range.mp (List.mem_filter.mp hk).1
 omega
theorem bits_len (c n : Nat) : (bitsM c n).length ≤ n := by
 unfold bitsM
 rw [List.length_map]
 have := List.length_filter_le (fun (k : Nat) => decide (c / 2 ^ k % 2 = 1)) (List.range n)
 rw [List.length_range] at this
 exact this
theorem bit_low {c k n : Nat} (h : k < n) : (2 ^ n + c) / 2 ^ k % 2 = c / 2 ^ k % 2 := by
 have e : 2 ^ n = 2 ^ k * (2 * 2 ^ (n - k - 1)) := by
   rw [← Nat.mul_assoc, ← Nat.pow_succ, ← Nat.pow_add]
   congr 1
   omega
 rw [e, Nat.mul_add_div (Nat.pow_pos (by decide)), Nat.mul_add_mod]
theorem bits_low {c n : Nat} : ∀ m, m ≤ n → bitsM (2 ^ n + c) m = bitsM c m
 | 0, _ => rfl
 | m + 1, h => by rw [bits_snoc, bits_snoc, bits_low m (by omega), bit_low (by omega)]
theorem bits_all : ∀ (n : Nat) (r : List Int), r.Pairwise (· < ·) → (∀ x ∈ r, 0 ≤ x ∧ x < (n : Int)) → ∃ c, c < 2 ^ n ∧ bitsM c n = r
 | 0, r, _, h => ⟨0, by decide, by
     cases r with
     | nil => rfl
     | cons x r => have := h x (by simp); omega⟩
 | n + 1, r, hi, h => by
   have e2 : 2 ^ (n + 1) = 2 ^ n + 2 ^ n := by rw [Nat.pow_succ]; omega
   by_cases hn : (n : Int) ∈ r
   · have hne : r ≠ [] := fun z => by rw [z] at hn; cases hn
     obtain ⟨l, x, rfl⟩ : ∃ l x, r = l ++ [x] := ⟨r.dropLast, r.getLast hne, (List.dropLast_concat_getLast hne).symm⟩
     obtain ⟨p1, p2, p3⟩ := List.pairwise_append.mp hi
     have hx : x = (n : Int) := by
       rcases List.mem_append.mp hn with q | q
       · have := p3 _ q x (by simp)
         have := h x (by simp)
         omega
       · exact (List.mem_singleton.mp q).symm
     subst hx
     obtain ⟨c, hc, e⟩ := bits_all n l p1 fun y hy => ⟨(h y (by simp [hy])).1, p3 y hy _ (by simp)⟩
     refine ⟨2 ^ n + c, by omega, ?_⟩
     rw [bits_snoc, bits_low n (Nat.le_refl _), e]
     have : (2 ^ n + c) / 2 ^ n % 2 = 1 := by
       rw [Nat.add_div_left c (Nat.pow_pos (by decide)), Nat.div_eq_of_lt hc]
     rw [if_pos this]
   · obtain ⟨c, hc, e⟩ := bits_all n r hi fun y hy => by
       have := h y hy
       have : y ≠ (n : Int) := fun z => hn (by rw [← z]; exact hy)
       omega
     refine ⟨c, by omega, ?_⟩
     rw [bits_snoc, e, Nat.div_eq_of_lt hc]
     simp
end SL
namespace SL
open PySem L2
def gapB (rows : List (List Str)) (p : Nat) : Bool := !(rows.map (wAt p)).all fun w => decide (w = (rows.map (wAt p)).headD Str.empty)
structure FormOk (rows : List (List Str)) (n : Nat) : Prop where
 len : ∀ r ∈ rows, r.length = n
 srt : ∀ p, p < n → ∀ r ∈ rows, ∀ q ∈ rows, lawS (wAt p r) = lawS (wAt p q)
theorem part_some {rows : List (List Str)} {p : Nat} (hne : rows ≠ []) (h : ∀ r ∈ rows, ∀ q ∈ rows, lawS (wAt p r) = lawS (wAt p q)) : partM (rows.map (wAt p)) = some (if gapB rows p then (sGap, (lawS ((rows.map (wAt p)).headD Str.empty)).str) else (sWord, (rows.map (wAt p)).headD Str.empty)) := by
 cases rows with
 | nil => exact absurd rfl hne
 | cons r0 rows =>
   unfold partM partF gapB
   have hs : ((r0 :: rows).map (wAt p)).all (fun w => decide (lawS w = lawS (((r0 :: rows).map (wAt p)).headD Str.empty))) = true := by
     rw [List.all_eq_true]
     intro x hx
     obtain ⟨r, hr, rfl⟩ := List.mem_map.mp hx
     exact decide_eq_true (h r hr r0 List.mem_cons_self)
   cases hw : ((r0 :: rows).map (wAt p)).all (fun w => decide (w = ((r0 :: rows).map (wAt p)).headD Str.empty)) with
   | true => rfl
   | false =>
     rw [if_neg Bool.false_ne_true, if_pos hs]
     rfl
theorem part_srt {rows : List (List Str)} {p : Nat} (h : partM (rows.map (wAt p)) ≠ none) : ∀ r ∈ rows, ∀ q ∈ rows, lawS (wAt p r) = lawS (wAt p q) := by
 have key : ∀ r ∈ rows, lawS (wAt p r) = lawS ((rows.map (wAt p)).headD Str.empty) := by
   intro r hr
   unfold partM partF at h
   split at h
   · rename_i q
     rw [of_decide_eq_true (List.all_eq_true.mp q (wAt p r) (List.mem_map.mpr ⟨r, hr, rfl⟩))]
   · split at h
     · rename_i q
       exact of_decide_eq_true (List.all_eq_true.mp q (wAt p r) (List.mem_map.mpr ⟨r, hr, rfl⟩))
     · exact absurd rfl h
 exact fun r hr q hq => (key r hr).trans (key q hq).symm
theorem formok_of {rows : List (List Str)} {es : List (Str × Str)} (h : formM rows = some es) : FormOk rows (rows.headD []).length := by
 unfold formM at h
 split at h
 · rename_i ha
   split at h
   · cases h
   · rename_i hn
     refine ⟨fun r hr => of_decide_eq_true (List.all_eq_true.mp ha r hr), fun p hp => part_srt fun z => hn ?_⟩
     exact List.mem_map.mpr ⟨p, List.mem_range.mpr hp, z⟩
 · cases h
theorem count_parts {rows : List (List Str)} (hne : rows ≠ []) : ∀ n, (∀ p, p < n → ∀ r ∈ rows, ∀ q ∈ rows, lawS (wAt p r) = lawS (wAt p q)) → ¬ none ∈ partsM n rows ∧ nGaps ((partsM n rows).filterMap id) = ((List.range n).filter (gapB rows)).length
 | 0, _ => ⟨by simp [partsM], by simp [partsM, nGaps]⟩
 | n + 1, h => by
   obtain ⟨i1, i2⟩ := count_parts hne n fun p hp => h p (by omega)
   rw [parts_snoc, part_some hne (h n (by omega)), List.range_succ, List.filter_append, List.length_append, List.filterMap_append]
   refine ⟨fun z => ?_, ?_⟩
   · rcases List.mem_append.mp z with z | z
     · exact i1 z
     · simp at z
   · unfold nGaps at i2 ⊢
     rw [List.filter_append, List.length_append, i2]
     cases hg : gapB rows n with
     | true => simp [hg]
     | false => simp [hg, gapWord]
theorem form_ok {rows : List (List Str)} (hne : rows ≠ []) {n : Nat} (h : FormOk rows n) : ∃ es, formM rows = some es ∧ nGaps es = ((List.range n).filter (gapB rows)).length := by
 have hn : (rows.headD []).length = n := by
   cases rows with
   | nil => exact absurd rfl hne
   | cons r rows => exact h.len r List.mem_cons_self
 obtain ⟨h1, h2⟩ := count_parts hne n h.srt
 refine ⟨(partsM n rows).filterMap id, ?_, h2⟩
 unfold formM
 rw [hn, if_pos (List.all_eq_true.mpr fun r hr => decide_eq_true (h.len r hr)), if_neg h1]
theorem gapB_iff {rows : List (List Str)} {p : Nat} : gapB rows p = false ↔ ∀ r ∈ rows, ∀ q ∈ rows, wAt p r = wAt p q := by
 unfold gapB
 rw [Bool.not_eq_false', List.all_eq_true]
 constructor
 · intro h r hr q hq
   have a := of_decide_eq_true (h (wAt p r) (List.mem_map.mpr ⟨r, hr, rfl⟩))
   have b := of_decide_eq_true (h (wAt p q) (List.mem_map.mpr ⟨q, hq, rfl⟩))
   rw [a, b]
 · intro h x hx
   obtain ⟨r, hr, rfl⟩ := List.mem_map.mp hx
   cases rows with
   | nil => cases hr
   | cons r0 rows => exact decide_eq_true (h r hr r0 List.mem_cons_self)
theorem filter_le {α : Type} {p q : α → Bool} (h : ∀ x, p x = true → q x = true) : ∀ l : List α, (l.filter p).length ≤ (l.filter q).length
 | [] => Nat.le_refl _
 | x :: l => by
   have ih := filter_le h l
   by_cases hp : p x = true
   · rw [List.filter_cons_of_pos hp, List.filter_cons_of_pos (h x hp), List.length_cons, List.length_cons]
     omega
   · rw [List.filter_cons_of_neg hp]
     by_cases hq : q x = true
     · rw [List.filter_cons_of_pos hq, List.length_cons]
       omega
     · rw [List.filter_cons_of_neg hq]
       exact ih
theorem fWith_less {rows less : List (List Str)} {most : Int} {es : List (Str × Str)} (h : fWith most rows = some es) (hne : less ≠ []) (hs : ∀ r ∈ less, r ∈ rows) : ∃ es', fWith most less = some es' := by
 unfold fWith at h
 cases hf : formM rows with
 | none => rw [hf] at h; cases h
 | some fs =>
   rw [hf] at h
   have hr : rows ≠ [] := fun z => by
     cases less with
     | nil => exact hne rfl
     | cons r less => have := hs r List.mem_cons_self; rw [z] at this; cases this
   have ok := formok_of hf
   obtain ⟨e1, he1, hg1⟩ := form_ok hr ok
   rw [hf] at he1
   cases he1
   obtain ⟨e2, he2, hg2⟩ := form_ok hne (n := (rows.headD []).length) ⟨fun r hr' => ok.len r (hs r hr'), fun p hp r hr' q hq => ok.srt p hp r (hs r hr') q (hs q hq)⟩
   have hle : nGaps e2 ≤ nGaps fs := by
     rw [hg1, hg2]
     refine filter_le (fun p hp => ?_) _
     cases hq : gapB rows p with
     | true => rfl
     | false =>
       have := gapB_iff.mpr fun r hr' q hq' => gapB_iff.mp hq r (hs r hr') q (hs q hq')
       rw [this] at hp
       cases hp
   have hm : ¬ most < (nGaps fs : Int) := fun z => by
     have h' : (if most < (nGaps fs : Int) then none else some fs) = some es := h
     rw [if_pos z] at h'
     cases h'
   refine ⟨e2, ?_⟩
   unfold fWith
   rw [he2]
   show (if most < (nGaps e2 : Int) then none else some e2) = some e2
   rw [if_neg (by omega)]
theorem gOn_has {ks : List (List Str)} {most : Int} : ∀ (d : Nat) (t g : List Int), g ≠ [] → GOk ks.length (g ++ t) → t.length < d → (∃ es, fWith most (rIn ks (g ++ t)) = some es ∧ othersM es (g ++ t) ks = false) → g ++ t ∈ gOn ks most d g
 | 0, t, g, _, _, hd, _ => absurd hd (Nat.not_lt_zero _)
 | d + 1, t, g, hne, hok, hd, hw => by
   obtain ⟨es, h1, h2⟩ := hw
   obtain ⟨es', h'⟩ := fWith_less (less := rIn ks g) h1 (by unfold rIn; simpa using hne) fun r hr => by
     unfold rIn at hr ⊢
     obtain ⟨i, hi, e⟩ := List.mem_map.mp hr
     exact List.mem_map.mpr ⟨i, List.mem_append_left _ hi, e⟩
   unfold gOn
   rw [h']
   show g ++ t ∈ (if othersM es' g ks then [] else [g]) ++ _
   cases t with
   | nil =>
     rw [List.append_nil] at h1 h2 ⊢
     rw [h'] at h1
     cases h1
     rw [h2]
     simp
   | cons x t =>
     refine List.mem_append_right _ (List.mem_flatMap.mpr ?_)
     have hlt : lastI g < x := (List.pairwise_append.mp hok.inc).2.2 _ (last_mem hne) x (by simp)
     have hx := hok.ran x (by simp)
     have ex : lastI g + 1 + ((x - (lastI g + 1)).toNat : Int) = x := by omega
     refine ⟨(x - (lastI g + 1)).toNat, List.mem_range.mpr (by omega), ?_⟩
     rw [ex]
     have e2 : g ++ x :: t = (g ++ [x]) ++ t := by simp
     rw [e2] at hok h1 h2 ⊢
     exact gOn_has d t (g ++ [x]) (by simp) hok (by rw [List.length_cons] at hd; omega) ⟨es, h1, h2⟩
theorem nums_len (n : Nat) : (nums n).length = n := by
 unfold nums
 rw [List.length_map, List.length_range]
end SL
namespace SL
open PySem L2
theorem lex_transG : ∀ {a b c : List Int}, HT.lexLt a b = true → HT.lexLt b c = true → HT.lexLt a c = true
 | [], [], _, h, _ => by cases h
 | [], _ :: _, [], _, h => by cases h
 | [], _ :: _, _ :: _, _, _ => rfl
 | _ :: _, [], _, h, _ => by cases h
 | _ :: _, _ :: _, [], _, h => by cases h
 | x :: a, y :: b, z :: c, h1, h2 => by
   rw [HT.lexLt_cons] at h1 h2 ⊢
   by_cases e1 : x = y
   · rw [if_pos e1] at h1
     by_cases e2 : y = z
     · rw [if_pos e2] at h2
       rw [if_pos (e1.trans e2)]
       exact lex_transG h1 h2
     · rw [if_neg e2] at h2
       rw [if_neg (fun q => e2 (e1.symm.trans q))]
       have := of_decide_eq_true h2
       exact decide_eq_true (by omega)
   · rw [if_neg e1] at h1
     have g1 := of_decide_eq_true h1
     by_cases e2 : y = z
     · rw [if_neg (fun q => e1 (q.trans e2.symm))]
       exact decide_eq_true (by omega)
     · rw [if_neg e2] at h2
       have g2 := of_decide_eq_true h2
       rw [if_neg (by omega)]
       exact decide_eq_true (by omega)
theorem ll_self : ∀ r : List (List Int), HT.llLt r r = false
 | [] => rfl
 | a :: r => by rw [HT.llLt_cons, if_pos rfl]; exact ll_self r
theorem ll_trans : ∀ {a b c : List (List Int)}, HT.llLt a b = true → HT.llLt b c = true → HT.llLt a c = true
 | [], [], _, h, _ => by cases h
 | [], _ :: _, [], _, h => by cases h
 | [], _ :: _, _ :: _, _, _ => rfl
 | _ :: _, [], _, h, _ => by cases h
 | _ :: _, _ :: _, [], _, h => by cases h
 | x :: a, y :: b, z :: c, h1, h2 => by
   rw [HT.llLt_cons] at h1 h2 ⊢
   by_cases e1 : x = y
   · rw [if_pos e1] at h1
     by_cases e2 : y = z
     · rw [if_pos e2] at h2
       rw [if_pos (e1.trans e2)]
       exact ll_trans h1 h2
     · rw [if_neg e2] at h2
       rw [if_neg (fun q => e2 (e1.symm.trans q)), e1]
       exact h2
   · rw [if_neg e1] at h1
     by_cases e2 : y = z
     · rw [if_neg (fun q => e1 (q.trans e2.symm)), ← e2]
       exact h1
     · rw [if_neg e2] at h2
       have h3 := lex_transG h1 h2
       rw [if_neg]
       · exact h3
       · intro q
         rw [q, lex_self] at h3
         cases h3
theorem lex_ext (g : List Int) (x : Int) (t : List Int) : HT.lexLt g (g ++ x :: t) = true := by
 induction g with
 | nil => rfl
 | cons a g ih =>
   show HT.lexLt (a :: g) (a :: (g ++ x :: t)) = true
   rw [HT.lexLt_cons, if_pos rfl]
   exact ih
theorem gOn_sorted {ks : List (List Str)} {most : Int} : ∀ (d : Nat) (g : List Int), GOk ks.length g → (gOn ks most d g).Pairwise fun a b => HT.lexLt a b = true
 | 0, g, _ => List.Pairwise.nil
 | d + 1, g, hg => by
   unfold gOn
   cases hf : fWith most (rIn ks g) with
   | none => exact List.Pairwise.nil
   | some es =>
     show (_ ++ _ : List (List Int)).Pairwise _
     have hs : ∀ c : Nat, (c : Int) ≤ (ks.length : Int) - (lastI g + 1) → ((List.range c).flatMap fun (k : Nat) => gOn ks most d (g ++ [lastI g + 1 + (k : Int)])).Pairwise fun a b => HT.lexLt a b = true := by
       intro c
       induction c with
       | zero => intro _; exact List.Pairwise.nil
       | succ c ih =>
         intro hc
         rw [List.range_succ, List.flatMap_append, List.flatMap_cons, List.flatMap_nil, List.append_nil, List.pairwise_append]
         refine ⟨ih (by omega), gOn_sorted d _ (hg.snoc (by omega) (by omega)), fun a ha b hb => ?_⟩
         obtain ⟨k, hk, ha⟩ := List.mem_flatMap.mp ha
         have hk' := List.mem_range.mp hk
         obtain ⟨t, rfl⟩ := (gOn_good d _ (hg.snoc (by omega) (by omega)) a ha).2
         obtain ⟨u, rfl⟩ := (gOn_good d _ (hg.snoc (by omega) (by omega)) b hb).2
         rw [List.append_assoc, List.append_assoc]
         show HT.lexLt (g ++ (lastI g + 1 + (k : Int)) :: t) (g ++ (lastI g + 1 + (c : Int)) :: u) = true
         rw [lex_pre, if_neg (by omega)]
         exact decide_eq_true (by omega)
     rw [List.pairwise_append]
     refine ⟨?_, ?_, fun a ha b hb => ?_⟩
     · cases othersM es g ks
       · exact List.pairwise_singleton _ _
       · exact List.Pairwise.nil
     · by_cases hl : 0 ≤ (ks.length : Int) - (lastI g + 1)
       · exact hs _ (by omega)
       · have e : ((ks.length : Int) - (lastI g + 1)).toNat = 0 := by omega
         rw [e]
         exact List.Pairwise.nil
     · obtain ⟨k, hk, hb⟩ := List.mem_flatMap.mp hb
       have hk' := List.mem_range.mp hk
       obtain ⟨t, rfl⟩ := (gOn_good d _ (hg.snoc (by omega) (by omega)) b hb).2
       have ea : a = g := by
         cases ho : othersM es g ks with
         | true => rw [ho] at ha; cases ha
         | false => rw [ho] at ha; exact List.mem_singleton.mp ha
       rw [ea, List.append_assoc]
       exact lex_ext g _ t
theorem find_sorted {α β : Type} {R : α → α → Prop} {f : α → Option β} {g : α} {y : β} : ∀ {L : List α}, L.Pairwise R → g ∈ L → f g = some y → ∃ g0 y0, L.findSome? f = some y0 ∧ f g0 = some y0 ∧ (g0 = g ∨ R g0 g)
 | [], _, h, _ => by cases h
 | a :: L, hp, hg, hf => by
   obtain ⟨h1, h2⟩ := List.pairwise_cons.mp hp
   rw [List.findSome?_cons]
   cases e : f a with
   | some y0 =>
     refine ⟨a, y0, rfl, e, ?_⟩
     rcases List.mem_cons.mp hg with q | q
     · exact .inl q.symm
     · exact .inr (h1 g q)
   | none =>
     rcases List.mem_cons.mp hg with q | q
     · rw [← q, hf] at e
       cases e
     · exact find_sorted h2 q hf
theorem head_min {w : List (List Int)} (hds : (w.map fun g => g.headD 0).Pairwise (· < ·)) (hok : ∀ g ∈ w, g ≠ [] ∧ g.Pairwise (· < ·)) {g : List Int} {w' : List (List Int)} (e : w = g :: w') : ∀ x ∈ w.flatten, g.headD 0 ≤ x := by
 subst e
 rw [List.map_cons, List.pairwise_cons] at hds
 intro x hx
 obtain ⟨k, hk, hxk⟩ := List.mem_flatten.mp hx
 have hkm : k.headD 0 ≤ x := by
   obtain ⟨ne, inc⟩ := hok k hk
   cases k with
   | nil => exact absurd rfl ne
   | cons a k =>
     rcases List.mem_cons.mp hxk with q | q
     · rw [q]; exact Int.le_refl _
     · have := (List.pairwise_cons.mp inc).1 x q
       show a ≤ x
       omega
 rcases List.mem_cons.mp hk with q | q
 · rw [← q]; exact hkm
 · have := hds.1 (k.headD 0) (List.mem_map.mpr ⟨k, q, rfl⟩)
   omega
theorem fGr_min {ks : List (List Str)} {most : Int} (h8 : ks.length ≤ 8) : ∀ (m : Nat) (left : List Int) (w : List (List Int)), left.Pairwise (· < ·) → (∀ x ∈ left, 0 ≤ x ∧ x < (ks.length : Int)) → Part ks most left w → w.length ≤ m →
   ∃ r, fGr (chM ks most) m left = some r ∧ (r = w ∨ HT.llLt r w = true)
 | m, [], w, _, _, hP, _ => by
   have : w = [] := by
     cases w with
     | nil => rfl
     | cons g w =>
       have := hP.perm.eq_nil
       rw [List.flatten_cons, List.append_eq_nil_iff] at this
       exact absurd this.1 (hP.good g List.mem_cons_self).ok.ne
   subst this
   exact ⟨[], by cases m <;> rfl, .inl rfl⟩
 | 0, x :: left, w, _, _, hP, hl => by
   have : w = [] := List.length_eq_zero_iff.mp (by omega)
   subst this
   have := hP.perm.length_eq
   simp at this
 | m + 1, x :: left, w, hinc, hran, hP, hl => by
   cases w with
   | nil =>
     have := hP.perm.length_eq
     simp at this
   | cons g w =>
     have gg := hP.good g List.mem_cons_self
     have hx : x ∈ (g :: w).flatten := hP.perm.mem_iff.mpr List.mem_cons_self
     have hmin := head_min hP.hds (fun k hk => ⟨(hP.good k hk).ok.ne, (hP.good k hk).ok.inc⟩) rfl x hx
     obtain ⟨y, t, rfl⟩ : ∃ y t, g = y :: t := by
       cases g with
       | nil => exact absurd rfl gg.ok.ne
       | cons y t => exact ⟨y, t, rfl⟩
     have hyx : y = x := by
       have hy : y ∈ x :: left := hP.perm.mem_iff.mp (by rw [List.flatten_cons]; exact List.mem_append_left _ List.mem_cons_self)
       have h1 : y ≤ x := hmin
       rcases List.mem_cons.mp hy with q | q
       · exact q
       · have := (List.pairwise_cons.mp hinc).1 y q
         omega
     subst hyx
     have hy := hran y List.mem_cons_self
     have c0 : (chM ks most).getD y.toNat [] = gOn ks most 9 [y] := by
       unfold chM nums
       have : y.toNat < ks.length := by omega
       have e : ((y.toNat : Nat) : Int) = y := by omega
       simp [List.getD, this, e]
     have hin : (y :: t) ∈ gOn ks most 9 [y] := gOn_has 9 t [y] (by simp) gg.ok (by have := gg.ok.len; rw [List.length_cons] at this; omega) gg.wr
     have hndF : ((y :: t) ++ w.flatten).Nodup := by
       have : (((y :: t) :: w).flatten).Nodup := hP.perm.nodup_iff.mpr (hinc.imp fun h => by omega)
       rwa [List.flatten_cons] at this
     have hsub : (y :: t).all (fun i => decide (i ∈ y :: left)) = true := List.all_eq_true.mpr fun i hi => decide_eq_true (hP.perm.mem_iff.mp (by rw [List.flatten_cons]; exact List.mem_append_left _ hi))
     have hPr : Part ks most ((y :: left).filter fun i => !decide (i ∈ y :: t)) w := by
       refine ⟨?_, ?_, fun k hk => hP.good k (List.mem_cons_of_mem _ hk)⟩
       · have h1 := (hP.perm.filter fun i => !decide (i ∈ y :: t))
         rw [List.flatten_cons, List.filter_append] at h1
         have e1 : (y :: t).filter (fun i => !decide (i ∈ y :: t)) = [] := by
           rw [List.filter_eq_nil_iff]
           intro i hi
           simp [List.mem_cons.mp hi]
         have e2 : w.flatten.filter (fun i => !decide (i ∈ y :: t)) = w.flatten := by
           rw [List.filter_eq_self]
           intro i hi
           have : ¬ i ∈ y :: t := fun z => (List.nodup_append.mp hndF).2.2 i z i hi rfl
           rw [decide_eq_false this]
           rfl
         rw [e1, e2] at h1
         exact h1
       · have := hP.hds
         rw [List.map_cons, List.pairwise_cons] at this
         exact this.2
     obtain ⟨r', hr1, hr2⟩ := fGr_min h8 m _ w (hinc.filter _) (fun z hz => hran z (List.mem_filter.mp hz).1) hPr (by rw [List.length_cons] at hl; omega)
     obtain ⟨g0, y0, f1, f2, f3⟩ := find_sorted (f := fun g => if g.all (fun i => decide (i ∈ y :: left)) then (fGr (chM ks most) m ((y :: left).filter fun i => !decide (i ∈ g))).map (g :: ·) else none) (gOn_sorted 9 [y] (GOk.one hy.1 hy.2)) hin (y := (y :: t) :: r') (by
       show (if (y :: t).all (fun i => decide (i ∈ y :: left)) = true then (fGr (chM ks most) m ((y :: left).filter fun i => !decide (i ∈ y :: t))).map ((y :: t) :: ·) else none) = _
       rw [if_pos hsub, hr1]
       rfl)
     refine ⟨y0, ?_, ?_⟩
     · show ((chM ks most).getD y.toNat []).findSome? _ = _
       rw [c0]
       exact f1
     · rcases f3 with q | q
       · subst q
         have f2' : (if (y :: t).all (fun i => decide (i ∈ y :: left)) = true then (fGr (chM ks most) m ((y :: left).filter fun i => !decide (i ∈ y :: t))).map ((y :: t) :: ·) else none) = some y0 := f2
         rw [if_pos hsub, hr1] at f2'
         cases f2'
         rcases hr2 with z | z
         · exact .inl (by rw [z])
         · refine .inr ?_
           rw [HT.llLt_cons, if_pos rfl]
           exact z
       · by_cases ha : g0.all (fun i => decide (i ∈ y :: left)) = true
         · have f2' : (if g0.all (fun i => decide (i ∈ y :: left)) = true then (fGr (chM ks most) m ((y :: left).filter fun i => !decide (i ∈ g0))).map (g0 :: ·) else none) = some y0 := f2
           rw [if_pos ha] at f2'
           obtain ⟨r0, _, rfl⟩ := Option.map_eq_some_iff.mp f2'
           refine .inr ?_
           rw [HT.llLt_cons, if_neg]
           · exact q
           · intro z
             rw [z, lex_self] at q
             cases q
         · have f2' : (if g0.all (fun i => decide (i ∈ y :: left)) = true then (fGr (chM ks most) m ((y :: left).filter fun i => !decide (i ∈ g0))).map (g0 :: ·) else none) = some y0 := f2
           rw [if_neg ha] at f2'
           cases f2'
theorem fGr_lenM {ch : List (List (List Int))} : ∀ (m : Nat) (left : List Int) (r : List (List Int)), fGr ch m left = some r → r.length ≤ m
 | m, [], r, h => by
   have : r = [] := by cases m <;> (cases h; rfl)
   rw [this]
   exact Nat.zero_le _
 | 0, _ :: _, r, h => by cases h
 | m + 1, x :: left, r, h => by
   have h' : (ch.getD x.toNat []).findSome? (fun g => if g.all (fun i => decide (i ∈ x :: left)) then (fGr ch m ((x :: left).filter fun i => !decide (i ∈ g))).map (g :: ·) else none) = some r := h
   obtain ⟨g, _, hg⟩ := List.exists_of_findSome?_eq_some h'
   split at hg
   · obtain ⟨r0, h0, rfl⟩ := Option.map_eq_some_iff.mp hg
     have := fGr_lenM m _ r0 h0
     rw [List.length_cons]
     omega
   · cases hg
theorem ones_flat : ∀ (w : List (List Int)), (∀ g ∈ w, g ≠ []) → w.flatten.length ≤ w.length → w = (w.map fun g => g.headD 0).map fun i => [i]
 | [], _, _ => rfl
 | g :: w, hne, hl => by
   have h1 : ∀ l : List (List Int), (∀ g ∈ l, g ≠ []) → l.length ≤ l.flatten.length := by
     intro l
     induction l with
     | nil => intro _; exact Nat.le_refl _
     | cons g l ih =>
       intro hl
       have h1 := ih fun x hx => hl x (List.mem_cons_of_mem _ hx)
       have h2 : 1 ≤ g.length := List.length_pos_iff.mpr (hl g List.mem_cons_self)
       rw [List.flatten_cons, List.length_append, List.length_cons]
       omega
   have hw := h1 w fun x hx => hne x (List.mem_cons_of_mem _ hx)
   have hg : 1 ≤ g.length := List.length_pos_iff.mpr (hne g List.mem_cons_self)
   rw [List.flatten_cons, List.length_append, List.length_cons] at hl
   have ih := ones_flat w (fun x hx => hne x (List.mem_cons_of_mem _ hx)) (by omega)
   rw [List.map_cons, List.map_cons, ← ih]
   have e : g = [g.headD 0] := by
     cases g with
     | nil => exact absurd rfl (hne [] List.mem_cons_self)
     | cons a g =>
       have : g = [] := List.length_eq_zero_iff.mp (by rw [List.length_cons] at hl hg; omega)
       rw [this]
       rfl
   rw [← e]
theorem groups_min {ks : List (List Str)} {most : Int} (h8 : ks.length ≤ 8) {w : List (List Int)} (hP : Part ks most (nums ks.length) w) : (groupsM ks most).length ≤ w.length ∧ ((groupsM ks most).length = w.length → groupsM ks most = w ∨ HT.llLt (groupsM ks most) w = true) := by
 have hn : (nums ks.length).Pairwise (· < ·) := nums_inc _
 have hr : ∀ x ∈ nums ks.length, 0 ≤ x ∧ x < (ks.length : Int) := fun x hx => mem_nums.mp hx
 have key : ∀ m, w.length ≤ m → ∃ r, fGr (chM ks most) m (nums ks.length) = some r ∧ (r = w ∨ HT.llLt r w = true) := fun m hm => fGr_min h8 m _ w hn hr hP hm
 have hwl : w.length ≤ ks.length := by
   have h1 : ∀ l : List (List Int), (∀ g ∈ l, g ≠ []) → l.length ≤ l.flatten.length := by
     intro l
     induction l with
     | nil => intro _; exact Nat.le_refl _
     | cons g l ih =>
       intro hl
       have h1 := ih fun x hx => hl x (List.mem_cons_of_mem _ hx)
       have h2 : 1 ≤ g.length := List.length_pos_iff.mpr (hl g List.mem_cons_self)
       rw [List.flatten_cons, List.length_append, List.length_cons]
       omega
   have := h1 w fun g hg => (hP.good g hg).ok.ne
   have e := hP.perm.length_eq
   rw [nums_len] at e
   omega
 unfold groupsM
 cases h : (List.range ks.length).findSome? (fun m => fGr (chM ks most) m (nums ks.length)) with
 | some r =>
   obtain ⟨m0, hm1, hm2, hm3⟩ := find_some h
   have hrl := fGr_lenM _ _ _ hm2
   have hw : m0 ≤ w.length := by
     refine Nat.le_of_not_lt fun z => ?_
     obtain ⟨r1, q, _⟩ := key w.length (Nat.le_refl _)
     rw [hm3 _ z] at q
     cases q
   refine ⟨Nat.le_trans hrl hw, fun e => ?_⟩
   have e' : r.length = w.length := e
   obtain ⟨r1, q1, q2⟩ := key m0 (by omega)
   rw [hm2] at q1
   cases q1
   exact q2
 | none =>
   have hall := List.findSome?_eq_none_iff.mp h
   have hw : w.length = ks.length := by
     refine Nat.le_antisymm hwl (Nat.le_of_not_lt fun z => ?_)
     obtain ⟨r1, q, _⟩ := key w.length (Nat.le_refl _)
     rw [hall _ (List.mem_range.mpr z)] at q
     cases q
   have e := hP.perm.length_eq
   rw [nums_len] at e
   have h1 := ones_flat w (fun g hg => (hP.good g hg).ok.ne) (by omega)
   have h2 : (w.map fun g => g.headD 0) = nums ks.length := by
     have hf : w.flatten = w.map fun g => g.headD 0 := by
       have hg : ∀ l : List Int, (l.map fun i => [i]).flatten = l := by
         intro l
         induction l with
         | nil => rfl
         | cons a l ih => rw [List.map_cons, List.flatten_cons, ih]; rfl
       have := congrArg List.flatten h1
       rwa [hg] at this
     refine inc_eq _ _ hP.hds hn fun x => ?_
     rw [← hf]
     exact hP.perm.mem_iff
   rw [h2] at h1
   have e1 : ((nums ks.length).map fun i => [i]) = w := h1.symm
   show ((nums ks.length).map fun i => [i]).length ≤ _ ∧ (_ → ((nums ks.length).map fun i => [i]) = _ ∨ _)
   rw [e1]
   exact ⟨Nat.le_refl _, fun _ => .inl rfl⟩
end SL
namespace SL
open PySem L2
def nextM (k : Nat) (w : List (List Int)) : List (List (List Int)) := (w ++ [[(k : Int)]]) :: (List.range w.length).map fun a => w.take a ++ (w.getD a [] ++ [(k : Int)]) :: w.drop (a + 1)
def waysM : Nat → List (List (List Int))
 | 0 => [[]]
 | k + 1 => (waysM k).flatMap (nextM k)
structure WPart (n : Nat) (w : List (List Int)) : Prop where
 perm : w.flatten.Perm (nums n)
 hds : (w.map fun g => g.headD 0).Pairwise (· < ·)
 ok : ∀ g ∈ w, g ≠ [] ∧ g.Pairwise (· < ·)
theorem nums_snoc (k : Nat) : nums (k + 1) = nums k ++ [(k : Int)] := by
 unfold nums
 rw [List.range_succ, List.map_append]
 rfl
theorem mid_take {α : Type} (A : List α) (x : α) (B : List α) : (A ++ x :: B).take A.length = A := by
 induction A with
 | nil => rfl
 | cons a A ih => simp
theorem mid_drop {α : Type} (A : List α) (x : α) (B : List α) : (A ++ x :: B).drop (A.length + 1) = B := by
 induction A with
 | nil => rfl
 | cons a A ih => simpa using ih
theorem mid_get {α : Type} (A : List α) (x : α) (B : List α) (d : α) : (A ++ x :: B).getD A.length d = x := by
 simp [List.getD]
theorem WPart.lt {n : Nat} {w : List (List Int)} (h : WPart n w) {g : List Int} (hg : g ∈ w) : ∀ x ∈ g, 0 ≤ x ∧ x < (n : Int) := fun x hx => mem_nums.mp (h.perm.mem_iff.mp (List.mem_flatten.mpr ⟨g, hg, hx⟩))
theorem headD_app {g : List Int} (h : g ≠ []) (t : List Int) : (g ++ t).headD 0 = g.headD 0 := by
 cases g with
 | nil => exact absurd rfl h
 | cons a g => rfl
theorem headD_memG {g : List Int} (h : g ≠ []) : g.headD 0 ∈ g := by
 cases g with
 | nil => exact absurd rfl h
 | cons a g => exact List.mem_cons_self
theorem WPart.snoc {k : Nat} {w : List (List Int)} (h : WPart k w) : WPart (k + 1) (w ++ [[(k : Int)]]) := by
 refine ⟨?_, ?_, fun g hg => ?_⟩
 · rw [List.flatten_append, nums_snoc]
   exact h.perm.append (List.Perm.refl _)
 · rw [List.map_append, List.pairwise_append]
   refine ⟨h.hds, List.pairwise_singleton _ _, fun a ha b hb => ?_⟩
   obtain ⟨g, hg, rfl⟩ := List.mem_map.mp ha
   have hb' : b = (k : Int) := by simpa using hb
   rw [hb']
   exact (h.lt hg _ (headD_memG (h.ok g hg).1)).2
 · rcases List.mem_append.mp hg with q | q
   · exact h.ok g q
   · rw [List.mem_singleton.mp q]
     exact ⟨by simp, List.pairwise_singleton _ _⟩
theorem WPart.into {k : Nat} {A B : List (List Int)} {g : List Int} (h : WPart k (A ++ g :: B)) : WPart (k + 1) (A ++ (g ++ [(k : Int)]) :: B) := by
 have hg := h.ok g (by simp)
 refine ⟨?_, ?_, fun x hx => ?_⟩
 · rw [nums_snoc]
   refine List.Perm.trans ?_ (h.perm.append (List.Perm.refl [(k : Int)]))
   rw [List.flatten_append, List.flatten_cons, List.flatten_append, List.flatten_cons, List.append_assoc, List.append_assoc, List.append_assoc]
   exact List.Perm.append_left _ (List.Perm.append_left _ List.perm_append_comm)
 · have := h.hds
   rw [List.map_append, List.map_cons] at this ⊢
   rw [headD_app hg.1]
   exact this
 · rcases List.mem_append.mp hx with q | q
   · exact h.ok x (List.mem_append_left _ q)
   · rcases List.mem_cons.mp q with q | q
     · subst q
       refine ⟨by simp, ?_⟩
       rw [List.pairwise_append]
       refine ⟨hg.2, List.pairwise_singleton _ _, fun a ha b hb => ?_⟩
       rw [List.mem_singleton.mp hb]
       exact (h.lt (by simp) a ha).2
     · exact h.ok x (by simp [q])
theorem ways_part : ∀ (n : Nat) (w : List (List Int)), w ∈ waysM n → WPart n w
 | 0, w, h => by
   rw [List.mem_singleton.mp h]
   exact ⟨List.Perm.refl _, List.Pairwise.nil, fun g hg => by cases hg⟩
 | k + 1, w, h => by
   obtain ⟨w0, h0, hw⟩ := List.mem_flatMap.mp h
   have ih := ways_part k w0 h0
   rcases List.mem_cons.mp hw with q | q
   · rw [q]
     exact ih.snoc
   · obtain ⟨a, ha, rfl⟩ := List.mem_map.mp q
     have ha' := List.mem_range.mp ha
     have e : w0 = w0.take a ++ w0.getD a [] :: w0.drop (a + 1) := by
       have : w0.getD a [] = w0[a] := by simp [List.getD, ha']
       rw [this, ← List.drop_eq_getElem_cons ha', List.take_append_drop]
     rw [e] at ih
     exact ih.into
theorem last_max2 {g : List Int} (hi : g.Pairwise (· < ·)) {k : Int} (hk : k ∈ g) (hm : ∀ x ∈ g, x ≤ k) : ∃ g', g = g' ++ [k] := by
 have hne : g ≠ [] := fun z => by rw [z] at hk; cases hk
 obtain ⟨l, x, rfl⟩ : ∃ l x, g = l ++ [x] := ⟨g.dropLast, g.getLast hne, (List.dropLast_concat_getLast hne).symm⟩
 have hx := hm x (by simp)
 have : x = k := by
   rcases List.mem_append.mp hk with q | q
   · have := (List.pairwise_append.mp hi).2.2 k q x (by simp)
     omega
   · exact (List.mem_singleton.mp q).symm
 exact ⟨l, by rw [this]⟩
theorem part_ways : ∀ (n : Nat) (w : List (List Int)), WPart n w → w ∈ waysM n
 | 0, w, h => by
   have : w = [] := by
     cases w with
     | nil => rfl
     | cons g w =>
       have := h.perm.eq_nil
       rw [List.flatten_cons, List.append_eq_nil_iff] at this
       exact absurd this.1 (h.ok g List.mem_cons_self).1
   rw [this]
   exact List.mem_singleton.mpr rfl
 | k + 1, w, h => by
   have hk : (k : Int) ∈ w.flatten := h.perm.mem_iff.mpr (mem_nums.mpr ⟨by omega, by omega⟩)
   obtain ⟨g, hg, hkg⟩ := List.mem_flatten.mp hk
   obtain ⟨A, B, rfl⟩ := List.append_of_mem hg
   obtain ⟨g', rfl⟩ := last_max2 (h.ok g hg).2 hkg fun x hx => by have := (h.lt hg x hx).2; omega
   have perm0 : (A ++ g' :: B).flatten.Perm (nums k) := by
     have h1 := h.perm
     rw [nums_snoc] at h1
     have h2 : (A ++ (g' ++ [(k : Int)]) :: B).flatten.Perm ((A ++ g' :: B).flatten ++ [(k : Int)]) := by
       rw [List.flatten_append, List.flatten_cons, List.flatten_append, List.flatten_cons, List.append_assoc, List.append_assoc, List.append_assoc]
       exact List.Perm.append_left _ (List.Perm.append_left _ List.perm_append_comm)
     exact (List.perm_append_right_iff _).mp (h2.symm.trans h1)
   have hds := h.hds
   by_cases hg' : g' = []
   · subst hg'
     have hB : B = [] := by
       cases B with
       | nil => rfl
       | cons b B =>
         rw [List.map_append, List.map_cons, List.map_cons, List.pairwise_append, List.pairwise_cons] at hds
         have h1 := hds.2.1.1 (b.headD 0) List.mem_cons_self
         have hb : b ∈ A ++ ([] ++ [(k : Int)]) :: b :: B := by simp
         have h2 := (h.lt hb _ (headD_memG (h.ok b hb).1)).2
         have h3 : (k : Int) < b.headD 0 := h1
         omega
     subst hB
     have hw : WPart k A := by
       refine ⟨?_, ?_, fun x hx => h.ok x (List.mem_append_left _ hx)⟩
       · rw [List.flatten_append] at perm0
         simpa using perm0
       · rw [List.map_append, List.pairwise_append] at hds
         exact hds.1
     exact List.mem_flatMap.mpr ⟨A, part_ways k A hw, List.mem_cons_self⟩
   · have hgi : g'.Pairwise (· < ·) := (List.pairwise_append.mp (h.ok _ hg).2).1
     have hw : WPart k (A ++ g' :: B) := by
       refine ⟨perm0, ?_, fun x hx => ?_⟩
       · rw [List.map_append, List.map_cons, headD_app hg'] at hds
         rw [List.map_append, List.map_cons]
         exact hds
       · rcases List.mem_append.mp hx with q | q
         · exact h.ok x (List.mem_append_left _ q)
         · rcases List.mem_cons.mp q with q | q
           · rw [q]
             exact ⟨hg', hgi⟩
           · exact h.ok x (by simp [q])
     refine List.mem_flatMap.mpr ⟨_, part_ways k _ hw, List.mem_cons_of_mem _ (List.mem_map.mpr ⟨A.length, List.mem_range.mpr (by simp), ?_⟩)⟩
     rw [mid_take, mid_get, mid_drop]
theorem wpart_len {n : Nat} {w : List (List Int)} (h : WPart n w) : w.length ≤ n := by
 have h1 : ∀ l : List (List Int), (∀ g ∈ l, g ≠ []) → l.length ≤ l.flatten.length := by
   intro l
   induction l with
   | nil => intro _; exact Nat.le_refl _
   | cons g l ih =>
     intro hl
     have h1 := ih fun x hx => hl x (List.mem_cons_of_mem _ hx)
     have h2 : 1 ≤ g.length := List.length_pos_iff.mpr (hl g List.mem_cons_self)
     rw [List.flatten_cons, List.length_append, List.length_cons]
     omega
 have := h1 w fun g hg => (h.ok g hg).1
 have e := h.perm.length_eq
 rw [nums_len] at e
 omega
def factN : Nat → Nat
 | 0 => 1
 | k + 1 => (k + 1) * factN k
theorem flat_le {α β : Type} {f : α → List β} {c : Nat} : ∀ l : List α, (∀ x ∈ l, (f x).length ≤ c) → (l.flatMap f).length ≤ c * l.length
 | [], _ => Nat.zero_le _
 | x :: l, h => by
   have ih := flat_le (f := f) (c := c) l fun y hy => h y (List.mem_cons_of_mem _ hy)
   have hx := h x List.mem_cons_self
   rw [List.flatMap_cons, List.length_append, List.length_cons, Nat.mul_succ]
   omega
theorem next_len (k : Nat) (w : List (List Int)) : (nextM k w).length = w.length + 1 := by
 unfold nextM
 rw [List.length_cons, List.length_map, List.length_range]
theorem ways_count : ∀ n, (waysM n).length ≤ factN n
 | 0 => Nat.le_refl _
 | k + 1 => by
   have h1 : (waysM (k + 1)).length ≤ (k + 1) * (waysM k).length := flat_le (waysM k) fun w hw => by
     rw [next_len]
     exact Nat.succ_le_succ (wpart_len (ways_part k w hw))
   exact Nat.le_trans h1 (Nat.mul_le_mul_left _ (ways_count k))
theorem fact8 : ∀ n, n ≤ 8 → factN n ≤ 40320 := by decide
def goodB (ks : List (List Str)) (most : Int) (g : List Int) : Bool := match fWith most (rIn ks g) with
 | none => false
 | some es => !othersM es g ks
theorem good_iff {ks : List (List Str)} {most : Int} {g : List Int} : goodB ks most g = true ↔ ∃ es, fWith most (rIn ks g) = some es ∧ othersM es g ks = false := by
 unfold goodB
 cases fWith most (rIn ks g) with
 | none => exact ⟨fun z => absurd z Bool.false_ne_true, fun ⟨_, z, _⟩ => by cases z⟩
 | some es =>
   show (!othersM es g ks) = true ↔ _
   rw [Bool.not_eq_true']
   exact ⟨fun z => ⟨es, rfl, z⟩, fun ⟨e, z, q⟩ => by cases z; exact q⟩
def Best (ks : List (List Str)) (most : Int) (ws : List (List (List Int))) : Option (List (List Int)) → Prop
 | none => ∀ w ∈ ws, w.all (goodB ks most) = false
 | some d => d ∈ ws ∧ d.all (goodB ks most) = true ∧ ∀ w ∈ ws, w.all (goodB ks most) = true → d.length < w.length ∨ (d.length = w.length ∧ HT.llLt w d = false)
def betterB (w : List (List Int)) : Option (List (List Int)) → Bool
 | none => true
 | some d => decide (w.length < d.length) || (decide (w.length = d.length) && HT.llLt w d)
theorem best_skip {ks : List (List Str)} {most : Int} {ws : List (List (List Int))} {w : List (List Int)} {o : Option (List (List Int))} (h : Best ks most ws o) (hw : w.all (goodB ks most) = false) : Best ks most (ws ++ [w]) o := by
 cases o with
 | none =>
   intro x hx
   rcases List.mem_append.mp hx with q | q
   · exact h x q
   · rw [List.mem_singleton.mp q]; exact hw
 | some d =>
   refine ⟨List.mem_append_left _ h.1, h.2.1, fun x hx hg => ?_⟩
   rcases List.mem_append.mp hx with q | q
   · exact h.2.2 x q hg
   · rw [List.mem_singleton.mp q, hw] at hg; cases hg
theorem best_keep {ks : List (List Str)} {most : Int} {ws : List (List (List Int))} {w d : List (List Int)} (h : Best ks most ws (some d)) (hb : betterB w (some d) = false) : Best ks most (ws ++ [w]) (some d) := by
 refine ⟨List.mem_append_left _ h.1, h.2.1, fun x hx hg => ?_⟩
 rcases List.mem_append.mp hx with q | q
 · exact h.2.2 x q hg
 · rw [List.mem_singleton.mp q]
   unfold betterB at hb
   rw [Bool.or_eq_false_iff, Bool.and_eq_false_iff] at hb
   have h1 := of_decide_eq_false hb.1
   rcases hb.2 with z | z
   · have := of_decide_eq_false z
     exact .inl (by omega)
   · by_cases e : w.length = d.length
     · exact .inr ⟨e.symm, z⟩
     · exact .inl (by omega)
theorem best_put {ks : List (List Str)} {most : Int} {ws : List (List (List Int))} {w : List (List Int)} {o : Option (List (List Int))} (h : Best ks most ws o) (hw : w.all (goodB ks most) = true) (hb : betterB w o = true) : Best ks most (ws ++ [w]) (some w) := by
 refine ⟨by simp, hw, fun x hx hg => ?_⟩
 rcases List.mem_append.mp hx with q | q
 · cases o with
   | none => rw [h x q] at hg; cases hg
   | some d =>
     have hd := h.2.2 x q hg
     unfold betterB at hb
     rw [Bool.or_eq_true, Bool.and_eq_true] at hb
     rcases hb with z | ⟨z1, z2⟩
     · have := of_decide_eq_true z
       exact .inl (by rcases hd with y | y <;> omega)
     · have e := of_decide_eq_true z1
       rcases hd with y | ⟨y1, y2⟩
       · exact .inl (by omega)
       · refine .inr ⟨by omega, ?_⟩
         cases hh : HT.llLt x w with
         | false => rfl
         | true =>
           rw [ll_trans hh z2] at y2
           cases y2
 · rw [List.mem_singleton.mp q]
   exact .inr ⟨rfl, ll_self w⟩
theorem part_of {ks : List (List Str)} {most : Int} {w : List (List Int)} (h : WPart ks.length w) (hg : w.all (goodB ks most) = true) : Part ks most (nums ks.length) w := by
 refine ⟨h.perm, h.hds, fun g hgm => ⟨⟨(h.ok g hgm).1, (h.ok g hgm).2, h.lt hgm⟩, ?_⟩⟩
 exact good_iff.mp (List.all_eq_true.mp hg g hgm)
theorem best_end {ks : List (List Str)} {most : Int} (h8 : ks.length ≤ 8) (hm : 0 ≤ most) (nd : ks.Nodup) {o : Option (List (List Int))} (h : Best ks most (waysM ks.length) o) : o = some (groupsM ks most) := by
 have PP := groups_part (ks := ks) hm nd
 have hin : groupsM ks most ∈ waysM ks.length := part_ways _ _ ⟨PP.perm, PP.hds, fun g hg => ⟨(PP.good g hg).ok.ne, (PP.good g hg).ok.inc⟩⟩
 have hall : (groupsM ks most).all (goodB ks most) = true := List.all_eq_true.mpr fun g hg => good_iff.mpr (PP.good g hg).wr
 cases o with
 | none => have := h _ hin; rw [hall] at this; cases this
 | some d =>
   have hd := groups_min h8 (part_of (ways_part _ _ h.1) h.2.1)
   have hr := h.2.2 _ hin hall
   rcases hr with z | ⟨z1, z2⟩
   · omega
   · rcases hd.2 z1.symm with q | q
     · rw [q]
     · rw [q] at z2
       cases z2
end SL
namespace L2
open PySem PySem.Spec PyProof.Rows
section
variable {X : Cx}
def rEqE (K : W.Frag) : R2 := fun x y H Q => ∃ a b xs, x = .ref a ∧ y = .ref b ∧ SqL K H a xs ∧ SqL K H b [] ∧ Q (.bl (decide (xs = []))) H
theorem op_eqE (hu : X.A.units < cLine) : OpR X (compareOp .Eq) (rEqE X.K) := by
 intro pins s σ H x y v u Q I rx ry h
 obtain ⟨a, b, xs, rfl, rfl, ha, hb, q⟩ := h
 cases rx
 cases ry
 obtain ⟨us, ru, pu, _⟩ := I.list ha
 obtain ⟨ws, rw', pw, _⟩ := I.list hb
 have l1 := ru.length
 have l2 := rw'.length
 cases rw'
 by_cases hl : xs = []
 · subst hl
   cases ru
   refine SeqAt.eq_listAt (e := fun _ => true) pu.isList pw.isList rfl hu (fun j h1 _ => absurd h1 (by simp)) ?_
   exact fin_bl I q (by simp)
 · refine SeqAt.eq_list_lengthsAt pu.isList pw.isList ?_ hu ?_
   · have : xs.length ≠ 0 := fun z => hl (List.length_eq_zero_iff.mp z)
     simp
     intro z
     rw [z] at l1
     exact this (by simpa using l1)
   · exact fin_bl I q (decide_eq_false hl)
end
section
variable {X : Cx} {P : Program} {w : World}
theorem pe_tnewP {pos : Pos} (hP : X.prog = P) (hw : X.w = w) : PE X (.Dict [] [] pos) (tTNew P w) := by subst hP hw; exact pe_tnew
theorem ps_tputP {o i value : Expr} {pos pos' : Pos} {td ty tv : TE} (hP : X.prog = P) (hw : X.w = w) (hu : X.A.units + 1 < cLine) (ho : PE X o td) (hi : PE X i ty) (hv : PE X value tv) (hs : swapsWith value (some (.Subscript o i pos')) pos.line X.env = pure false) :
   PS X (.Assign [.Subscript o i pos'] value pos) (sTPut P w td ty tv) := by subst hP hw; exact ps_tput hu ho hi hv hs
theorem pc_tnotinP {i o : Expr} {ty td : TE} (hP : X.prog = P) (hw : X.w = w) (hu : X.A.units + 1 < cLine) (hi : PE X i ty) (ho : PE X o td) : PC X .NotIn i o (tTNotIn P w ty td) := by subst hP hw; exact pc_tnotin hu hi ho
end
end L2
namespace SL
open PySem L2
theorem form_kind {rows : List (List Str)} {es : List (Str × Str)} (h : formM rows = some es) : ∀ e ∈ es, e.1 = sWord ∨ e.1 = sGap := by
 unfold formM at h
 split at h
 · split at h
   · cases h
   · rename_i hn
     cases h
     intro e he
     obtain ⟨o, ho, hoe⟩ := List.mem_filterMap.mp he
     have hoe' : o = some e := hoe
     subst hoe'
     obtain ⟨p, _, hp⟩ := List.mem_map.mp ho
     unfold partM partF at hp
     split at hp
     · cases hp; exact .inl rfl
     · split at hp
       · cases hp; exact .inr rfl
       · cases hp
 · cases h
theorem takes_two {e : Str × Str} {z : Str} (h : e.1 = sWord ∨ e.1 = sGap) : takes e z = (decide ([e.1, e.2] = [sWord, z]) || decide ([e.1, e.2] = [sGap, (lawS z).str])) := by
 unfold takes
 rcases h with h | h
 · have h' : ¬ e.1 = sGap := by rw [h]; exact gap_word
   rw [if_neg h', h]
   have e1 : decide ([sWord, e.2] = [sWord, z]) = decide (z = e.2) := decide_eq_decide.mpr ⟨fun q => by injection q with _ q; injection q with q; exact q.symm, fun q => by rw [q]⟩
   have e2 : decide ([sWord, e.2] = [sGap, (lawS z).str]) = false := decide_eq_false fun q => by injection q with q; exact gap_word q
   rw [e1, e2, Bool.or_false]
 · rw [if_pos h, h]
   have e1 : decide ([sGap, e.2] = [sGap, (lawS z).str]) = decide ((lawS z).str = e.2) := decide_eq_decide.mpr ⟨fun q => by injection q with _ q; injection q with q; exact q.symm, fun q => by rw [q]⟩
   have e2 : decide ([sGap, e.2] = [sWord, z]) = false := decide_eq_false fun q => by injection q with q; exact gap_word q.symm
   rw [e1, e2, Bool.false_or]
theorem flat_ints : ∀ ns : List Int, (ns.map V.int).all flatV = true
 | [] => rfl
 | _ :: ns => flat_ints ns
def isG (e : Str × Str) : Bool := decide (e.1 = sGap)
theorem gapStr (e : Str × Str) : decide (V.str e.1 = V.str (Str.ofString "gap")) = isG e := decide_eq_decide.mpr ⟨fun q => by injection q, fun q => by rw [q]; rfl⟩
def spFi : Sp := fun vs H Q _ => ∃ (l a : Addr) (us : List V) (es : List (Str × Str)) (r : List Str), vs = [.ref l, .ref a] ∧ H l = some (.lst us) ∧ PtsAt H us (es.map some) ∧ (∀ e ∈ es.map some, PTx e) ∧ (∀ e ∈ es, e.1 = sWord ∨ e.1 = sGap) ∧ es.length ≤ 64 ∧ MrAt H a r ∧ RowOk r ∧ ∀ H', Same H H' → Q (.bl (fitsB es r)) H'
section
variable {P : Program} {w : World} {K : W.Frag} {mg : Str → Option Value} {base : Heap}
theorem scFi : FnScope ["_law_form", "_law_row", "_law_at"] ["_law_form", "_law_row"] (defScope sFi) := .of (by decide +kernel)
theorem ok_fi {f : Addr} {fd : FuncData} (F : Fun K "_law_fits" "_law_fits" sFi f fd) (T : Txt mg) :
   FnOk P w K mg base CX0 1 f fd ["_law_form", "_law_row"] spFi := by
 refine F.ok scFi (fun vs H Q E h => ?_) (fun cdv A outer s H vs Q E hr h => ?_)
 · obtain ⟨l, a, us, es, r, rfl, _⟩ := h
   rfl
 · obtain ⟨l, a, us, es, r, rfl, hl, hP, htx, hkd, h64, hM, hR, k⟩ := h
   have hu64 := hr.units
   have hul : us.length = es.length := by rw [hP.len, List.length_map]
   have h8 := hR.2.1
   obtain ⟨ua, hua, hual⟩ := hM.lenL
   refine ⟨_, pss_cons (ps_if (pt_cmpR op_ne (pe_callB call_len_seq (by rfl) T.len PySem.boot_len (pa_cons (pv 0) pa_nil)) (pe_callB call_len_seq (by rfl) T.len PySem.boot_len (pa_cons (pv 1) pa_nil)) (nomark _)) (pss_one (ps_ret pe_bl)) pss_nil)
     (pss_cons (ps_for PassesOwn.never rfl (pi_range1 rfl T.range (pa_cons (pe_callB call_len_seq (by rfl) T.len PySem.boot_len (pa_cons (pv 0) pa_nil)) pa_nil)) (pg_name (i := 2) scFi.nd rfl (Or.inl rfl))
       (pss_one (ps_if (PW.pt (pw_and (pt_cmpR (op_neD hu64) (pe_ix ix_list (pv 0) (pv 2) (fun _ _ => rfl)) (pe_tup (pa_cons pe_str (pa_cons (pe_ix ix_tup (pe_ix ix_list (pv 1) (pv 2) (fun _ _ => rfl)) pe_int (fun _ _ => rfl)) pa_nil))) (nomark _))
         (pw_and1 (pt_cmpR (op_neD hu64) (pe_ix ix_list (pv 0) (pv 2) (fun _ _ => rfl)) (pe_tup (pa_cons pe_str (pa_cons (pe_ix ix_tup (pe_ix ix_list (pv 1) (pv 2) (fun _ _ => rfl)) pe_int (fun _ _ => rfl)) pa_nil))) (nomark _))))) (pss_one (ps_ret pe_bl)) pss_nil)))
     (pss_one (ps_ret pe_bl))), ?_⟩
   refine ⟨_, rfl, l, _, rfl, .inl (SqL.of hl), _, rfl, a, _, rfl, .inl (SqL.of hua), rfl, _, rfl, ?_⟩
   rw [dec_intV, hul, hual]
   by_cases hle : es.length = r.length
   · rw [decide_eq_true (by rw [hle])]
     refine iteF ?_
     refine ⟨_, rfl, l, _, rfl, .inl (SqL.of hl), _, rfl, by omega, by rw [hul]; omega, ?_⟩
     rw [hul, Int.toNat_natCast]
     refine for_range (n := es.length) (fun i σ H2 => (∃ v, σ = [some (.ref l), some (.ref a), v]) ∧ Same H H2 ∧ ∀ (j : Nat) (e : Str × Str) (z : Str), j < i → es[j]? = some e → r[j]? = some z → takes e z = true) ⟨⟨none, rfl⟩, Same.refl H, fun j e z hj => by omega⟩ ?_ ?_
     · rintro i σ H2 hi ⟨⟨v, rfl⟩, s2, hall⟩
       have i0 : 0 + (i : Int) = (i : Int) := Int.zero_add _
       rw [i0]
       obtain ⟨e, he⟩ : ∃ e, es[i]? = some e := ⟨es[i], by simp [hi]⟩
       have hir : i < r.length := by omega
       have hz : r[i]? = some (wAt i r) := by unfold wAt; simp [List.getD, hir]
       obtain ⟨tr, t0, ht1, ht2, ht3⟩ := (hM.same s2).at hir
       generalize wAt i r = z at hz ht3
       obtain ⟨q, hq1, hq2⟩ := FoAt.get hP he
       have hzW := hR.2.2 z (List.mem_of_getElem? hz)
       have etx : PTx (some e) := htx _ (List.mem_map.mpr ⟨e, List.mem_of_getElem? he, rfl⟩)
       obtain ⟨et1, et2⟩ := etx e rfl
       have htw := takes_two (z := z) (hkd e (List.mem_of_getElem? he))
       have okE : DOk (dRow [e.1, e.2]) := row_ok fun x hx => by
         simp only [List.mem_cons, List.not_mem_nil, or_false] at hx
         rcases hx with rfl | rfl
         · exact et1
         · exact et2
       refine ⟨_, rfl, _, rfl, l, _, _, _, rfl, rfl, SqL.of (s2 _ _ hl), atI_nat hq1, _, rfl, _, rfl, a, _, _, _, rfl, rfl, SqL.of ht1, atI_nat ht2, t0, _, _, .str z, rfl, rfl, SqT.of ht3, atI_nat (j := 0) rfl, (by show 2 ≤ sizeLine; decide), fun t1 hf1 => ?_⟩
       have s3 := (Same.refl H2).upd_free (o := .tup [.str sWord, .str z]) hf1
       refine ⟨dRow [e.1, e.2], dRow [sWord, z], .tup (SqT.of ((s2.trans s3) _ _ hq2)) (strs_at [e.1, e.2]), .tup (SqT.of upd_same) (strs_at [sWord, z]), okE, row_ok (fun x hx => by
         simp only [List.mem_cons, List.not_mem_nil, or_false] at hx
         rcases hx with rfl | rfl
         · exact txK (n := 60) (by decide +kernel)
         · exact hzW.tx.1), !decide ([e.1, e.2] = [sWord, z]), by rw [← row_eqv]; rfl, ?_⟩
       have goon : ∀ (H4 : Hp) (v : Option V), Same H H4 → takes e z = true → (∃ w, [some (V.ref l), some (.ref a), v] = [some (.ref l), some (.ref a), w]) ∧ Same H H4 ∧ ∀ (j : Nat) (e : Str × Str) (z : Str), j < i + 1 → es[j]? = some e → r[j]? = some z → takes e z = true := by
         intro H4 v s4 ht
         refine ⟨⟨_, rfl⟩, s4, fun j e' z' hj he' hz' => ?_⟩
         by_cases h : j < i
         · exact hall j e' z' h he' hz'
         · have : j = i := by omega
           subst this
           rw [he] at he'
           rw [hz] at hz'
           cases he'
           cases hz'
           exact ht
       by_cases c1 : [e.1, e.2] = [sWord, z]
       · rw [decide_eq_true c1] at htw ⊢
         exact iteF (iteF (goon _ _ (s2.trans s3) (by rw [htw]; rfl)))
       · rw [decide_eq_false c1] at htw ⊢
         refine iteT ?_
         generalize hH3 : upd H2 t1 (.tup [.str (Str.ofString "word"), .str z]) = H3
         have s3' : Same H2 H3 := by rw [← hH3]; exact s3
         have t3 := s2.trans s3'
         refine ⟨_, rfl, _, rfl, l, _, _, _, rfl, rfl, SqL.of (t3 _ _ hl), atI_nat hq1, _, rfl, _, rfl, a, _, _, _, rfl, rfl, SqL.of (s3' _ _ ht1), atI_nat ht2, t0, _, _, .str (lawS z).str, rfl, rfl, SqT.of (s3' _ _ ht3), atI_nat (j := 1) rfl, (by show 2 ≤ sizeLine; decide), fun t2 hf2 => ?_⟩
         have s5 := (Same.refl H3).upd_free (o := .tup [.str sGap, .str (lawS z).str]) hf2
         have t5 := t3.trans s5
         refine ⟨dRow [e.1, e.2], dRow [sGap, (lawS z).str], .tup (SqT.of (t5 _ _ hq2)) (strs_at [e.1, e.2]), .tup (SqT.of upd_same) (strs_at [sGap, (lawS z).str]), okE, row_ok (fun x hx => by
           simp only [List.mem_cons, List.not_mem_nil, or_false] at hx
           rcases hx with rfl | rfl
           · exact txK (n := 60) (by decide +kernel)
           · exact so_tx _), !decide ([e.1, e.2] = [sGap, (lawS z).str]), by rw [← row_eqv]; rfl, ?_⟩
         by_cases c2 : [e.1, e.2] = [sGap, (lawS z).str]
         · rw [decide_eq_true c2] at htw ⊢
           exact iteF (goon _ _ t5 (by rw [htw]; rfl))
         · rw [decide_eq_false c2] at htw ⊢
           refine iteT ?_
           have q := k _ t5
           have hf : fitsB es r = false := by
             cases hf : fitsB es r with
             | false => rfl
             | true =>
               have := ((fits_iff es r).mp hf).2 i e z he hz
               rw [htw] at this
               cases this
           rw [hf] at q
           exact q
     · rintro σ H2 ⟨⟨v, rfl⟩, s2, hall⟩
       have q := k H2 s2
       rw [(fits_iff es r).mpr ⟨hle, fun j e z he hz => hall j e z (List.getElem?_eq_some_iff.mp he).1 he hz⟩] at q
       exact q
   · rw [decide_eq_false (fun z => hle (by omega))]
     refine iteT ?_
     have q := k H (Same.refl H)
     have hf : fitsB es r = false := by
       cases hf : fitsB es r with
       | false => rfl
       | true => exact absurd ((fits_iff es r).mp hf).1 hle
     rw [hf] at q
     exact q
end
end SL
namespace SL
open PySem L2
def spGd : Sp := fun vs H Q _ => ∃ (a l : Addr) (g : List Int) (ls : List Addr) (ks : List (List Str)) (most : Int), vs = [.ref a, .ref l, .int most] ∧ H a = some (.lst (g.map V.int)) ∧ g ≠ [] ∧ g.length ≤ 8 ∧ (∀ x ∈ g, 0 ≤ x ∧ x < (ks.length : Int)) ∧ H l = some (.lst (ls.map V.ref)) ∧ MsAt H ls ks ∧ ks.length ≤ 8 ∧ (∀ r ∈ ks, RowOk r) ∧
 ∀ H', Same H H' → Q (.bl (goodB ks most g)) H'
theorem rIn_take (ks : List (List Str)) {g : List Int} {j : Nat} {x : Int} (h : g[j]? = some x) : rIn ks (g.take (j + 1)) = rIn ks (g.take j) ++ [ks.getD x.toNat []] := by
 unfold rIn
 rw [List.take_add_one, h, List.map_append]
 rfl
def othK (es : List (Str × Str)) (g : List Int) (ks : List (List Str)) (j : Nat) : Bool := !decide ((j : Int) ∈ g) && fitsB es (ks.getD j [])
theorem oth_snoc (es : List (Str × Str)) (g : List Int) (ks : List (List Str)) (j : Nat) : (List.range (j + 1)).filter (othK es g ks) = (List.range j).filter (othK es g ks) ++ (if othK es g ks j then [j] else []) := by
 rw [List.range_succ, List.filter_append]
 cases h : othK es g ks j with
 | true => rw [List.filter_cons_of_pos h]; rfl
 | false => rw [List.filter_cons_of_neg (by rw [h]; exact Bool.false_ne_true)]; rfl
theorem oth_nil (es : List (Str × Str)) (g : List Int) (ks : List (List Str)) : decide ((List.range ks.length).filter (othK es g ks) = []) = !othersM es g ks := by
 unfold othersM
 rw [List.any_filter]
 cases h : (List.range ks.length).any (fun j => !decide ((j : Int) ∈ g) && fitsB es (ks.getD j [])) with
 | true =>
   obtain ⟨j, hj, hq⟩ := List.any_eq_true.mp h
   refine decide_eq_false fun z => ?_
   exact List.filter_eq_nil_iff.mp z j hj hq
 | false =>
   refine decide_eq_true (List.filter_eq_nil_iff.mpr fun j hj => ?_)
   exact List.any_eq_false.mp h j hj
section
variable {P : Program} {w : World} {K : W.Frag} {mg : Str → Option Value} {base : Heap}
abbrev nGd : List Str := ["_law_group", "_law_singles", "_law_most", "_law_form"]
theorem scGd : FnScope nGd ["_law_group", "_law_singles", "_law_most"] (defScope sGd) := .of (by decide +kernel)
def scopeGd1 : Scope := ⟨.function, [(".0", .local), ("_law_k", .local), ("_law_singles", .free)], false, false, []⟩
def scopeGd2 : Scope := ⟨.function, [(".0", .local), ("_law_part", .local)], false, false, []⟩
def scopeGd3 : Scope := ⟨.function, [(".0", .local), ("_law_k", .local), ("_law_fits", .globalImplicit), ("_law_form", .free), ("_law_group", .free), ("_law_singles", .free)], false, false, []⟩
theorem scGd1 : BlkScope (defScope sGd) nGd ["_law_k"] ["_law_singles"] [1] scopeGd1 := .of (by decide +kernel)
theorem scGd2 : BlkScope (defScope sGd) nGd ["_law_part"] [] [] scopeGd2 := .of (by decide +kernel)
theorem scGd3 : BlkScope (defScope sGd) nGd ["_law_k"] ["_law_form", "_law_group", "_law_singles"] [3, 0, 1] scopeGd3 := .of (by decide +kernel)
theorem ok_gd {f fL fF : Addr} {fd fdL fdF : FuncData} (F : Fun K "_law_good" "_law_good" sGd f fd) (T : Txt mg)
   (FL : Fun K "_law_least" "_law_least" sLl fL fdL) (bL : Binds K fdL ["_law_rows_here"] []) (gL : mg "_law_least" = some (.ref fL))
   (FF : Fun K "_law_fits" "_law_fits" sFi fF fdF) (bF : Binds K fdF ["_law_form", "_law_row"] []) (gF : mg "_law_fits" = some (.ref fF)) :
   FnOk P w K mg base CX0 2 f fd ["_law_group", "_law_singles", "_law_most"] spGd := by
 have GL : FnOk P w K mg base CX0 1 fL fdL ["_law_rows_here"] spLm := ok_lm FL T
 have GF : FnOk P w K mg base CX0 1 fF fdF ["_law_form", "_law_row"] spFi := ok_fi FF T
 refine F.ok scGd (fun vs H Q E h => ?_) (fun cdv A outer s H vs Q E hr h => ?_)
 · obtain ⟨a, l, g, ls, ks, most, rfl, _⟩ := h
   rfl
 · obtain ⟨a, l, g, ls, ks, most, rfl, ha, hne, hg8, hran, hl, hM, h8, hok, k⟩ := h
   have hu64 := hr.units
   have hu0 := Nat.lt_of_le_of_lt (Nat.le_add_right _ 64) hu64
   have hll : ls.length = ks.length := hM.1
   refine ⟨_, pss_cons (ps_set (i := 3) scGd.nd rfl (Or.inr rfl) (pe_call GL hr rfl gL FL.kp bL .nil pass0 (pa_cons (pe_lc scGd1 rfl rfl rfl (pi_list (pv 0)) (fun fp C s1 H1 => pg_name (i := 0) scGd1.nd rfl (Or.inl rfl)) (fun fp C s1 H1 => pts_nil) (fun fp C s1 H1 => pe_ix (r := rIxL K) ix_list (pv 1) (pv 0) (fun _ _ => rfl))) pa_nil)))
     (pss_cons (ps_if (PW.pt (pw_or (pt_cmp (pc_isN (pv 3))) (pw_or1 (pt_cmpR op_gt (pe_callB call_len_seq (by rfl) T.len PySem.boot_len (pa_cons (pe_lc scGd2 rfl rfl rfl (pi_list (pv 3)) (fun fp C s1 H1 => pg_name (i := 0) scGd2.nd rfl (Or.inl rfl))
         (fun fp C s1 H1 => pts_one (pt_cmpR op_eq (pe_ix (r := rIxT K) ix_tup (pv 0) pe_int (fun _ _ => rfl)) pe_str (by with_unfolding_all rfl))) (fun fp C s1 H1 => pv 0)) pa_nil)) (pv 2) (nomark _))))) (pss_one (ps_ret pe_bl)) pss_nil)
     (pss_one (ps_ret (pe_cmpR (r := rEqE K) (op_eqE hu0) (pe_lc scGd3 rfl rfl rfl (pi_range1 rfl T.range (pa_cons (pe_callB call_len_seq (by rfl) T.len PySem.boot_len (pa_cons (pv 1) pa_nil)) pa_nil)) (fun fp C s1 H1 => pg_name (i := 0) scGd3.nd rfl (Or.inl rfl))
         (fun fp C s1 H1 => pts_one (PW.pt (pw_and (pt_cmpR (r := L2.rIn K true) op_notIn_seq (pv 0) (pv 2) (by with_unfolding_all rfl)) (pw_and1 (pt_val (pe_call GF hr rfl gF FF.kp bF .nil pass0 (pa_cons (pv 1) (pa_cons (pe_ix (r := rIxL K) ix_list (pv 3) (pv 0) (fun _ _ => rfl)) pa_nil))))))))
         (fun fp C s1 H1 => pv 0)) (pe_lst pa_nil) (nomark _))))), ?_⟩
   -- the rows of the group
   refine ⟨_, rfl, a, rfl, ⟨_, SqL.of ha⟩, fun D hD => ?_⟩
   refine lc_list (K := K) (a := a) (xs := g.map V.int) (fun j ys H1 => ∃ ms : List Addr, ys = ms.map V.ref ∧ Same H H1 ∧ H1 D = some (.lst (ms.map V.ref)) ∧ MsAt H1 ms (rIn ks (g.take j)) ∧ ys.length ≤ j ∧ ∀ m ∈ ms, m ≠ D) (Nat.le_of_lt (small1000 (by rw [List.length_map]; omega)))
     ⟨[], rfl, (Same.refl H).upd_free hD, upd_same, by rw [List.take_zero]; exact MsAt.nil, Nat.le_refl _, fun m hm => by cases hm⟩ (fun j ys H1 ⟨_, _, _, _, _, h, _⟩ => h) (fun j ys H1 ⟨_, _, h, _⟩ => SqL.of (h _ _ ha)) ?_ ?_
   · rintro j ys H1 x N M hx ⟨ms, rfl, u1, u2, u3, u4, u5⟩ hN hM'
     rw [List.getElem?_map] at hx
     cases ex : g[j]? with
     | none => rw [ex] at hx; cases hx
     | some z =>
       rw [ex] at hx
       cases hx
       have hz := hran z (List.mem_of_getElem? ex)
       obtain ⟨r, m, er, em, hm⟩ := (hM.same u1).get (i := z.toNat) (by omega)
       have erk : ks.getD z.toNat [] = r := by rw [List.getD_eq_getElem?_getD, er]; rfl
       have nm : m ≠ D := fun e => by
         have h0 := hM.2 z.toNat r er
         obtain ⟨m', e1, e2⟩ := h0
         rw [em] at e1
         cases e1
         obtain ⟨ts, q1, _⟩ := e2
         rw [e, hD] at q1
         cases q1
       have n2 : ∀ x ∈ ms ++ [m], x ≠ D := fun x hx => by
         rcases List.mem_append.mp hx with q | q
         · exact u5 x q
         · rw [List.mem_singleton.mp q]; exact nm
       refine ⟨_, rfl, _, rfl, l, _, _, .ref m, rfl, rfl, SqL.of (u1 _ _ hl), atI_int hz.1 (by rw [List.getElem?_map, em]; rfl), hN _ H1 u2 ⟨ms ++ [m], by rw [List.map_append]; rfl, u1.upd_free hD, by rw [upd_same, List.map_append]; rfl, ?_, by rw [List.length_append, List.length_singleton]; omega, n2⟩⟩
       rw [rIn_take ks ex, erk]
       exact (u3.snoc hm).upd u2 n2
   rintro ys H1 ⟨ms, rfl, s1, hD1, hMs, _, _⟩
   rw [List.length_map, List.take_of_length_le (Nat.le_refl _)] at hMs
   have hrl : (rIn ks g).length = g.length := by unfold rIn; exact List.length_map _
   have hg1 : 1 ≤ g.length := List.length_pos_iff.mpr hne
   have hrok := rIn_ok hok hran
   refine ⟨D, ms, rIn ks g, rfl, hD1, hMs, by omega, by omega, hrok, fun v H2 s2 hv => ?_⟩
   have t2 := s1.trans s2
   have hgood : goodB ks most g = match fWith most (rIn ks g) with | none => false | some es => !othersM es g ks := rfl
   cases hf : formM (rIn ks g) with
   | none =>
     rw [hf] at hv
     cases (show v = .non from hv)
     have : goodB ks most g = false := by
       rw [hgood]
       unfold fWith
       rw [hf]
     have q := k H2 t2
     rw [this] at q
     exact ⟨_, rfl, true, rfl, iteT (iteT q)⟩
   | some es =>
     rw [hf] at hv
     obtain ⟨p, us, rfl, hp, hPt⟩ := hv
     have hul : us.length = es.length := by rw [hPt.len, List.length_map]
     have hfw : fWith most (rIn ks g) = if most < (nGaps es : Int) then none else some es := by
       unfold fWith
       rw [hf]
     have hes8 : es.length ≤ 8 := by
       rw [form_len hf]
       cases hr0 : rIn ks g with
       | nil => exact Nat.zero_le _
       | cons r rs => exact (hrok r (by rw [hr0]; exact List.mem_cons_self)).2.1
     refine ⟨_, rfl, false, rfl, iteF ?_⟩
     refine ⟨_, rfl, p, rfl, ⟨_, SqL.of hp⟩, fun B hB => ?_⟩
     refine lc_list (K := K) (a := p) (xs := us) (fun i ys H3 => ys.length = nGaps (es.take i) ∧ Same H2 H3 ∧ H3 B = some (.lst ys)) (Nat.le_of_lt (small1000 (by omega))) ⟨rfl, (Same.refl H2).upd_free hB, upd_same⟩
       (fun i ys H3 h => by rw [h.1]; exact nGaps_take es i) (fun i ys H3 h => SqL.of (h.2.1 _ _ hp)) ?_ ?_
     · rintro i ys H3 x N M' hx ⟨hy, s3, hB3⟩ hN hM'
       have hi : i < es.length := by
         have := (List.getElem?_eq_some_iff.mp hx).1
         omega
       obtain ⟨e, he⟩ : ∃ e, es[i]? = some e := ⟨es[i], by simp [hi]⟩
       obtain ⟨q, hq1, hq2⟩ := FoAt.get hPt he
       rw [hq1] at hx
       cases hx
       have tk : nGaps (es.take (i + 1)) = nGaps (es.take i) + (if e.1 = sGap then 1 else 0) := by
         unfold nGaps
         rw [List.take_add_one, he, List.filter_append, List.length_append]
         by_cases hg : e.1 = sGap
         · simp [hg]
         · simp [hg]
       refine ⟨_, rfl, q, _, _, .str e.1, rfl, rfl, SqT.of (s3 _ _ hq2), atI_nat (j := 0) rfl, rfl, _, rfl, ?_⟩
       rw [gapStr]
       cases hb : isG e with
       | true =>
         rw [if_pos (of_decide_eq_true hb)] at tk
         refine iteT ⟨_, rfl, hN _ H3 hB3 ⟨?_, s3.upd_free hB, upd_same⟩⟩
         rw [List.length_append, List.length_singleton, hy, tk]
       | false =>
         rw [if_neg (of_decide_eq_false hb)] at tk
         exact iteF (hM' H3 ⟨by rw [hy, tk, Nat.add_zero], s3, hB3⟩)
     rintro ys H3 ⟨hy, s3, hB3⟩
     rw [hul, List.take_of_length_le (Nat.le_refl _)] at hy
     refine ⟨B, _, rfl, .inl (SqL.of hB3), _, rfl, _, _, rfl, rfl, _, rfl, ?_⟩
     rw [hy]
     have t3 := t2.trans s3
     by_cases hg : most < (nGaps es : Int)
     · have : goodB ks most g = false := by
         rw [hgood, hfw, if_pos hg]
       have q := k H3 t3
       rw [this] at q
       exact iteTK (decide_eq_true hg) q
     · refine iteFK (decide_eq_false hg) ?_
       rw [if_neg hg] at hfw
       refine ⟨_, rfl, l, _, rfl, .inl (SqL.of (t3 _ _ hl)), _, rfl, by omega, by rw [List.length_map]; omega, fun B2 hB2 => ?_⟩
       rw [List.length_map, hll, Int.toNat_natCast]
       refine lc_range (n := ks.length) (fun j ys H4 => Same H3 H4 ∧ H4 B2 = some (.lst ys) ∧ ys = ((List.range j).filter (othK es g ks)).map fun (i : Nat) => V.int (i : Int)) (Nat.le_of_lt (small1000 (by omega))) ⟨(Same.refl H3).upd_free hB2, upd_same, rfl⟩ (fun j ys H4 h => ?_) ?_ ?_
       · rw [h.2.2, List.length_map]
         exact Nat.le_trans (List.length_filter_le _ _) (by rw [List.length_range]; exact Nat.le_refl _)
       · rintro j ys H4 N M' hj ⟨u1, u2, rfl⟩ hN hM'
         have j0 : 0 + (j : Int) = (j : Int) := Int.zero_add _
         rw [j0]
         have t4 := t3.trans u1
         have sn := oth_snoc es g ks j
         refine ⟨_, rfl, _, rfl, a, _, rfl, .inl (SqL.of (t4 _ _ ha)), rfl, flat_ints g, _, rfl, ?_⟩
         by_cases hin : (j : Int) ∈ g
         · have ho : othK es g ks j = false := by unfold othK; rw [decide_eq_true hin]; rfl
           rw [ho, if_neg Bool.false_ne_true, List.append_nil] at sn
           refine iteFK (by show (!inV _ _) = false; rw [inV_nums, decide_eq_true hin]; rfl) (iteF (hM' H4 ⟨u1, u2, by rw [sn]⟩))
         · refine iteTK (by show (!inV _ _) = true; rw [inV_nums, decide_eq_false hin]; rfl) ?_
           obtain ⟨r, m, er, em, hm⟩ := (hM.same t4).get (i := j) hj
           have erk : ks.getD j [] = r := by rw [List.getD_eq_getElem?_getD, er]; rfl
           have ho : othK es g ks j = fitsB es r := by unfold othK; rw [decide_eq_false hin, erk]; rfl
           have t24 := s3.trans u1
           refine ⟨_, rfl, _, rfl, _, rfl, l, _, _, .ref m, rfl, rfl, SqL.of (t4 _ _ hl), atI_nat (by rw [List.getElem?_map, em]; rfl), p, m, us, es, r, rfl, t24 _ _ hp, hPt.tsame t24.tups, form_tx (by omega) hrok hf, form_kind hf, by omega, hm, hok r (List.mem_of_getElem? er), fun H5 s5 => ?_⟩
           refine ⟨_, rfl, ?_⟩
           cases hb : fitsB es r with
           | true =>
             rw [ho, hb, if_pos rfl] at sn
             refine iteT ⟨_, rfl, hN _ H5 (s5 _ _ u2) ⟨(u1.trans s5).upd_free hB2, upd_same, ?_⟩⟩
             rw [sn, List.map_append]
             rfl
           | false =>
             rw [ho, hb, if_neg Bool.false_ne_true, List.append_nil] at sn
             exact iteF (hM' H5 ⟨u1.trans s5, s5 _ _ u2, by rw [sn]⟩)
       · rintro ys H4 ⟨u1, u2, rfl⟩
         refine ⟨Nat.zero_le _, fun le hle => ?_⟩
         have x1 := (Same.refl H4).upd_free (o := .lst []) hle
         refine ⟨B2, le, _, rfl, rfl, SqL.of (x1 _ _ u2), SqL.of upd_same, ?_⟩
         have e : decide (((List.range ks.length).filter (othK es g ks)).map (fun (i : Nat) => V.int (i : Int)) = []) = goodB ks most g := by
           rw [hgood, hfw]
           show _ = !othersM es g ks
           rw [← oth_nil]
           exact decide_eq_decide.mpr List.map_eq_nil_iff
         rw [e]
         exact k _ (t3.trans (u1.trans x1))
end
end SL
namespace SL
open PySem L2
def TKi (H : Hp) (xs : List (KTu × Addr × V)) : Prop := ∀ x ∈ xs, H x.2.1 = some (.tup (x.1.map V.int))
theorem TKi.same {H H' : Hp} {xs : List (KTu × Addr × V)} (h : TKi H xs) (s : ∀ c ys, H c = some (.tup ys) → H' c = some (.tup ys)) : TKi H' xs := fun x hx => s _ _ (h x hx)
theorem nums_int : ∀ k : List Int, Nums (k.map V.int) k
 | [] => rfl
 | x :: k => by
   have := nums_int k
   unfold Nums at this ⊢
   rw [List.map_cons, List.map_cons, List.map_cons, this]
   rfl
theorem TKi.ks {H : Hp} {xs : List (KTu × Addr × V)} (h : TKi H xs) : TKs H xs := fun x hx => ⟨_, h x hx, nums_int _⟩
theorem bits_mem2 {c n k : Nat} : (k : Int) ∈ bitsM c n ↔ k < n ∧ c / 2 ^ k % 2 = 1 := by
 unfold bitsM
 rw [List.mem_map]
 constructor
 · rintro ⟨j, hj, e⟩
   obtain ⟨h1, h2⟩ := List.mem_filter.mp hj
   have : j = k := by omega
   subst this
   exact ⟨List.mem_range.mp h1, of_decide_eq_true h2⟩
 · rintro ⟨h1, h2⟩
   exact ⟨k, List.mem_filter.mpr ⟨List.mem_range.mpr h1, decide_eq_true h2⟩, rfl⟩
theorem bits_inj {c c' n : Nat} (h : bitsM c n = bitsM c' n) (hc : c < 2 ^ n) (hc' : c' < 2 ^ n) : c = c' := by
 refine Nat.eq_of_testBit_eq fun k => ?_
 by_cases hk : k < n
 · rw [Nat.testBit_eq_decide_div_mod_eq, Nat.testBit_eq_decide_div_mod_eq]
   refine decide_eq_decide.mpr ?_
   have h1 : (k : Int) ∈ bitsM c n ↔ (k : Int) ∈ bitsM c' n := by rw [h]
   rw [bits_mem2, bits_mem2] at h1
   exact ⟨fun z => (h1.mp ⟨hk, z⟩).2, fun z => (h1.mpr ⟨hk, z⟩).2⟩
 · have e : ∀ d, d < 2 ^ n → d.testBit k = false := fun d hd => Nat.testBit_lt_two_pow (Nat.lt_of_lt_of_le hd (Nat.pow_le_pow_right (by decide) (by omega)))
   rw [e c hc, e c' hc']
theorem bits_zero (n : Nat) : bitsM 0 n = [] := by
 unfold bitsM
 rw [List.map_eq_nil_iff, List.filter_eq_nil_iff]
 intro k _
 simp
def Gds (ks : List (List Str)) (most : Int) (xs : List (KTu × Addr × V)) (m : Nat) : Prop := ∀ key : List Int, (∃ x ∈ xs, x.1 = key) ↔ ∃ c : Nat, 1 ≤ c ∧ c < m ∧ key = bitsM c ks.length ∧ goodB ks most key = true
def spGs (P : Program) (w : World) : Sp := fun vs H Q _ => ∃ (l : Addr) (ps : List Addr) (ks : List (List Str)) (most : Int), vs = [.ref l, .int most] ∧ H l = some (.lst (ps.map V.ref)) ∧ RowsAt H ps ks ∧ ks.length ≤ 8 ∧ (∀ r ∈ ks, RowOk r) ∧
 ∀ (d : Addr) (xs : List (KTu × Addr × V)) (o : Obj) (H' : Hp), Same H H' → H' d = some (TD P w d xs o) → TKi H' xs → (∀ g : List Int, GOk ks.length g → (xs.any fun x => decide (x.1 = g)) = goodB ks most g) → Q (.ref d) H'
theorem gds_end {ks : List (List Str)} {most : Int} {xs : List (KTu × Addr × V)} (h : Gds ks most xs (2 ^ ks.length)) : ∀ g : List Int, GOk ks.length g → (xs.any fun x => decide (x.1 = g)) = goodB ks most g := by
 intro g hg
 obtain ⟨c, hc, e⟩ := bits_all ks.length g hg.inc hg.ran
 have h1 : 1 ≤ c := by
   refine Nat.pos_of_ne_zero fun z => ?_
   rw [z, bits_zero] at e
   exact hg.ne e.symm
 cases hb : goodB ks most g with
 | true =>
   obtain ⟨x, hx, ex⟩ := (h g).mpr ⟨c, h1, hc, e.symm, hb⟩
   exact List.any_eq_true.mpr ⟨x, hx, decide_eq_true ex⟩
 | false =>
   refine List.any_eq_false.mpr fun x hx z => ?_
   obtain ⟨_, _, _, _, q⟩ := (h g).mp ⟨x, hx, of_decide_eq_true z⟩
   rw [hb] at q
   cases q
section
variable {P : Program} {w : World} {K : W.Frag} {mg : Str → Option Value} {base : Heap}
abbrev nGs : List Str := ["_law_rows_here", "_law_most", "_law_singles", "_law_found", "_law_choice", "_law_group"]
theorem scGs : FnScope nGs ["_law_rows_here", "_law_most"] (defScope sGs) := .of (by decide +kernel)
theorem scGs1 : BlkScope (defScope sGs) nGs ["_law_row"] [] [] scopeHo2 := .of (by decide +kernel)
def scopeGs2 : Scope := ⟨.function, [(".0", .local), ("_law_k", .local), ("_law_choice", .free)], false, false, []⟩
theorem scGs2 : BlkScope (defScope sGs) nGs ["_law_k"] ["_law_choice"] [4] scopeGs2 := .of (by decide +kernel)
theorem ok_gs {f fO fG : Addr} {fd fdO fdG : FuncData} (F : Fun K "_law_goods" "_law_goods" sGs f fd) (T : Txt mg) (FO : Fun K "_law_sort" "_law_sort" sLs fO fdO) (bO : Binds K fdO ["_law_word_here"] []) (gO : mg "_law_sort" = some (.ref fO))
   (FG : Fun K "_law_good" "_law_good" sGd fG fdG) (bG : Binds K fdG ["_law_group", "_law_singles", "_law_most"] []) (gG : mg "_law_good" = some (.ref fG)) (GG : FnOk P w K mg base CX0 2 fG fdG ["_law_group", "_law_singles", "_law_most"] spGd) :
   FnOk P w K mg base CX0 3 f fd ["_law_rows_here", "_law_most"] (spGs P w) := by
 have GO : FnOk P w K mg base CX0 1 fO fdO ["_law_word_here"] spLs := ok_ls FO T
 refine F.ok scGs (fun vs H Q E h => ?_) (fun cdv A outer s H vs Q E hr h => ?_)
 · obtain ⟨l, ps, ks, most, rfl, _⟩ := h
   rfl
 · obtain ⟨l, ps, ks, most, rfl, hL, hP, h8, hkok, k⟩ := h
   have hu64 := hr.units
   have hu1 := Nat.lt_of_le_of_lt (Nat.add_le_add_left (show 1 ≤ 64 by decide) _) hu64
   have hr1 : Room 1 _ := hr.mono (by decide)
   have hpl : (ps.map V.ref).length = ks.length := by rw [List.length_map]; exact hP.1
   refine ⟨_, pss_cons (ps_setlc (i := 2) scGs1 rfl rfl rfl (pi_list (pv 0)) (fun fp C s1 H1 => pg_name (i := 0) scGs1.nd rfl (Or.inl rfl)) (fun fp C s1 H1 => pts_nil)
         (fun fp C s1 H1 => pe_lc scHo3 rfl rfl rfl (pi_tupK (K := K) rfl (pv 0)) (fun fp2 C2 s2 H2 => pg_name (i := 0) scHo3.nd rfl (Or.inl rfl)) (fun fp2 C2 s2 H2 => pts_nil)
           (fun fp2 C2 s2 H2 => pe_tup (pa_cons (pv 0) (pa_cons (pe_call GO hr1 rfl gO FO.kp bO .nil pass0 (pa_cons (pv 0) pa_nil)) pa_nil)))) scGs.nd rfl rfl rfl)
     (pss_cons (ps_set (i := 3) scGs.nd rfl (Or.inl rfl) (pe_tnewP (P := P) (w := w) rfl rfl))
     (pss_cons (ps_for PassesOwn.never rfl (pi_range2 rfl T.range (pa_cons pe_int (pa_cons (pe_op op_shl pe_int (pe_callB call_len_seq (by rfl) T.len PySem.boot_len (pa_cons (pv 2) pa_nil))) pa_nil))) (pg_name (i := 4) scGs.nd rfl (Or.inr rfl))
       (pss_cons (ps_setlc (i := 5) scGs2 rfl rfl rfl (pi_range1 rfl T.range (pa_cons (pe_callB call_len_seq (by rfl) T.len PySem.boot_len (pa_cons (pv 2) pa_nil)) pa_nil)) (fun fp C s1 H1 => pg_name (i := 0) scGs2.nd rfl (Or.inl rfl))
           (fun fp C s1 H1 => pts_one (pt_cmpR op_eq (pe_op op_and (pe_op op_shr (pv 1) (pv 0)) pe_int) pe_int (by with_unfolding_all rfl))) (fun fp C s1 H1 => pv 0) scGs.nd rfl rfl rfl)
       (pss_one (ps_if (pt_val (pe_call GG hr rfl gG FG.kp bG .nil pass0 (pa_cons (pv 5) (pa_cons (pv 2) (pa_cons (pv 1) pa_nil)))))
           (pss_one (ps_tputP (P := P) (w := w) rfl rfl hu1 (pv 3) (pe_callTy call_tuple_of (by rfl) T.tuple PyProof.Rows.boot_tuple (pa_cons (pv 5) pa_nil)) pe_bl rfl)) pss_nil))))
     (pss_one (ps_ret (pv 3))))), ?_⟩
   -- the words with their sorts
   refine ⟨_, rfl, l, rfl, ⟨_, SqL.of hL⟩, fun D2 hD2 => ?_⟩
   refine lc_list (K := K) (a := l) (xs := ps.map V.ref) (fun j ys H6 => ∃ ls : List Addr, ys = ls.map V.ref ∧ Same H H6 ∧ H6 D2 = some (.lst (ls.map V.ref)) ∧ MsAt H6 ls (ks.take j) ∧ ys.length ≤ j ∧ ∀ l ∈ ls, l ≠ D2) (Nat.le_of_lt (small1000 (by omega)))
     ⟨[], rfl, (Same.refl H).upd_free hD2, upd_same, by rw [List.take_zero]; exact MsAt.nil, Nat.le_refl _, fun l hl => by cases hl⟩ (fun j ys H6 ⟨_, _, _, _, _, h, _⟩ => h) (fun j ys H6 ⟨_, _, h, _⟩ => SqL.of (h _ _ hL)) ?_ ?_
   · rintro j ys H6 x N M hx ⟨ls, rfl, u1, u2, u3, u4, u5⟩ hN hM
     have hj : j < ks.length := by
       have := (List.getElem?_eq_some_iff.mp hx).1
       omega
     obtain ⟨r, q, er, eq, hq, hok'⟩ := row_get hP hj
     rw [List.getElem?_map, eq] at hx
     cases hx
     have hq6 := u1 _ _ hq
     have hro := hkok r (List.mem_of_getElem? er)
     refine ⟨_, rfl, q, rfl, ⟨_, SqT.of hq6⟩, fun D3 hD3 => ?_⟩
     refine lc_tup (K := K) (a := q) (xs := r.map V.str) (fun i zs H7 => ∃ ts : List Addr, zs = ts.map V.ref ∧ Same H6 H7 ∧ H7 D3 = some (.lst (ts.map V.ref)) ∧ ts.length = i ∧ ∀ (m : Nat) (z : Str), (r.take i)[m]? = some z → ∃ t, ts[m]? = some t ∧ H7 t = some (.tup [.str z, .str (lawS z).str])) (Nat.le_of_lt (small1000 (by rw [List.length_map]; omega)))
       ⟨[], rfl, (Same.refl H6).upd_free hD3, upd_same, rfl, fun m z h => by simp at h⟩ (fun i zs H7 ⟨ts, e, _, _, h, _⟩ => by rw [e, List.length_map]; omega) (fun i zs H7 ⟨_, _, h, _⟩ => SqT.of (h _ _ hq6)) ?_ ?_
     · rintro i zs H7 x N' M' hx ⟨ts, rfl, w1, w2, w3, w4⟩ hN' hM'
       rw [List.getElem?_map] at hx
       cases et : r[i]? with
       | none => rw [et] at hx; cases hx
       | some z =>
         rw [et] at hx
         cases hx
         refine ⟨_, rfl, _, rfl, z, rfl, hro.2.2 z (List.mem_of_getElem? et), fun H8 s8 => ?_⟩
         refine ⟨(by show 2 ≤ sizeLine; decide), fun t ht => ?_⟩
         have s9 := (Same.refl H8).upd_free (o := .tup [.str z, .str (lawS z).str]) ht
         have s89 := s8.trans s9
         have hD9 := s89 _ _ w2
         have hil : i < r.length := (List.getElem?_eq_some_iff.mp et).1
         have tsm : TSame (upd H8 t (.tup [.str z, .str (lawS z).str])) (upd (upd H8 t (.tup [.str z, .str (lawS z).str])) D3 (.lst (ts.map V.ref ++ [.ref t]))) := TSame.upd_lst (fun _ _ e => e) hD9
         refine hN' _ _ hD9 ⟨ts ++ [t], by rw [List.map_append]; rfl, (w1.trans s89).upd_free hD3, by rw [upd_same, List.map_append]; rfl, by rw [List.length_append, List.length_singleton]; omega, fun m y hy => ?_⟩
         rw [List.take_add_one, et] at hy
         have hyl : m < (r.take i).length + 1 := by
           have := (List.getElem?_eq_some_iff.mp hy).1
           simpa using this
         rw [List.length_take, Nat.min_eq_left (Nat.le_of_lt hil)] at hyl
         by_cases hm : m < i
         · rw [List.getElem?_append_left (by rw [List.length_take]; omega)] at hy
           obtain ⟨t', e1, e2⟩ := w4 m y hy
           exact ⟨t', by rw [List.getElem?_append_left (by omega)]; exact e1, tsm _ _ (s89 _ _ e2)⟩
         · have hmi : m = i := by omega
           subst hmi
           rw [List.getElem?_append_right (by rw [List.length_take]; omega), List.length_take, Nat.min_eq_left (Nat.le_of_lt hil), Nat.sub_self] at hy
           cases hy
           exact ⟨t, by rw [List.getElem?_append_right (by omega), w3, Nat.sub_self]; rfl, tsm _ _ upd_same⟩
     · rintro zs H7 ⟨ts, rfl, w1, w2, w3, w4⟩
       rw [List.length_map] at w3 w4
       rw [List.take_of_length_le (Nat.le_refl _)] at w4
       have hD27 := w1 _ _ u2
       have nD : D3 ≠ D2 := fun e => by rw [e, u2] at hD3; cases hD3
       have n2 : ∀ l ∈ ls ++ [D3], l ≠ D2 := fun l hl => by
         rcases List.mem_append.mp hl with hl | hl
         · exact u5 l hl
         · rw [List.mem_singleton] at hl
           rw [hl]
           exact nD
       refine hN _ H7 hD27 ⟨ls ++ [D3], by rw [List.map_append]; rfl, (u1.trans w1).upd_free hD2, by rw [upd_same, List.map_append]; rfl, ?_, by rw [List.length_append, List.length_singleton]; omega, n2⟩
       rw [List.take_add_one, er]
       exact ((u3.same w1).snoc ⟨ts, w2, w3, w4⟩).upd hD27 n2
   rintro ys H6 ⟨ls, rfl, s6, hD6, hMs, _⟩
   rw [hpl, List.take_of_length_le (Nat.le_refl _)] at hMs
   -- the choices
   have hll : ls.length = ks.length := hMs.1
   refine fun d o0 hd => ?_
   have s7 := (Same.refl H6).upd_free (o := TD P w d [] o0) hd
   have e7 : upd H6 d (TD P w d [] o0) d = some (TD P w d [] o0) := upd_same
   have hd6 : H6 d = none := hd
   generalize upd H6 d (TD P w d [] o0) = H7 at s7 e7
   have p8 : 2 ^ ks.length ≤ 2 ^ 8 := Nat.pow_le_pow_right (by decide) h8
   have p1 : 1 ≤ 2 ^ ks.length := Nat.one_le_two_pow
   refine ⟨_, rfl, D2, _, rfl, .inl (SqL.of (s7 _ _ hD6)), _, _, rfl, rfl, ⟨by omega, by rw [List.length_map]; omega, by decide⟩, ?_⟩
   have ep : (1 : Int) * 2 ^ (((ls.map V.ref).length : Int)).toNat = ((2 ^ ks.length : Nat) : Int) := by
     rw [List.length_map, hll, Int.toNat_natCast, Int.one_mul]
     push_cast
     rfl
   obtain ⟨NN, hNN⟩ : ∃ NN, NN = 2 ^ ks.length := ⟨_, rfl⟩
   rw [← hNN] at p8 ep p1
   refine ⟨1, (NN : Int), congrArg (fun z => [V.int 1, V.int z]) ep, ⟨by decide, by decide, by omega, by omega⟩, ?_⟩
   have eN : ((NN : Int) - 1).toNat = NN - 1 := by omega
   rw [eN]
   refine for_range (n := NN - 1) (fun i σ H8 => ∃ xs o v4 v5, σ = [some (.ref l), some (.int most), some (.ref D2), some (.ref d), v4, v5] ∧ Same H6 H8 ∧ H8 d = some (TD P w d xs o) ∧ TKi H8 xs ∧ xs.length ≤ i ∧ Gds ks most xs (1 + i))
     ⟨[], o0, none, none, rfl, s7, e7, (fun x hx => by cases hx), Nat.le_refl _, fun key => ⟨fun ⟨x, hx, _⟩ => absurd hx List.not_mem_nil, fun ⟨c, h1, h2, _⟩ => by omega⟩⟩ ?_ ?_
   · rintro i σ H8 hi ⟨xs, o, v4, v5, rfl, s8, hd8, hk8, hx8, hg8⟩
     obtain ⟨c, hc⟩ : ∃ c : Nat, c = 1 + i := ⟨_, rfl⟩
     have c0 : 1 + (i : Int) = (c : Int) := by omega
     rw [c0]
     have hcN : c < NN := by omega
     have hD8 := s8 _ _ hD6
     refine ⟨_, rfl, D2, _, rfl, .inl (SqL.of hD8), _, rfl, by omega, by rw [List.length_map]; omega, fun D hD => ?_⟩
     rw [List.length_map, hll, Int.toNat_natCast]
     refine lc_range (n := ks.length) (fun j ys H9 => Same H8 H9 ∧ H9 D = some (.lst ys) ∧ ys = (bitsM c j).map V.int) (Nat.le_of_lt (small1000 (by omega))) ⟨(Same.refl H8).upd_free hD, upd_same, rfl⟩ (fun j ys H9 h => by rw [h.2.2, List.length_map]; exact bits_len c j) ?_ ?_
     · rintro j ys H9 N M hj ⟨u1, u2, rfl⟩ hN hM
       have j0 : 0 + (j : Int) = (j : Int) := Int.zero_add _
       rw [j0]
       refine ⟨_, rfl, _, rfl, _, _, rfl, rfl, by omega, _, _, rfl, rfl, rfl, _, rfl, ?_⟩
       have eb : decide (V.int (Builtin.bitAnd ((c : Int) / 2 ^ ((j : Int)).toNat) 1) = V.int 1) = decide (c / 2 ^ j % 2 = 1) := by
         rw [dec_intV, PyProof.Rows.bitAnd_m1, Int.toNat_natCast]
         refine decide_eq_decide.mpr ?_
         have : (c : Int) / 2 ^ j % 2 = ((c / 2 ^ j % 2 : Nat) : Int) := by push_cast; rfl
         rw [this]
         omega
       refine (show _ from ?_)
       by_cases hb : c / 2 ^ j % 2 = 1
       · refine iteTK (by rw [eb]; exact decide_eq_true hb) ⟨_, rfl, hN _ _ u2 ⟨u1.upd_free hD, upd_same, ?_⟩⟩
         rw [bits_snoc, if_pos hb, List.map_append]
         rfl
       · refine iteFK (by rw [eb]; exact decide_eq_false hb) (hM _ ⟨u1, u2, ?_⟩)
         rw [bits_snoc, if_neg hb, List.append_nil]
     rintro ys H9 ⟨u1, u2, rfl⟩
     have t9 := s8.trans u1
     have hbl := bits_len c ks.length
     have hbn : bitsM c ks.length ≠ [] := fun z => by
       have := bits_inj (c := c) (c' := 0) (n := ks.length) (by rw [z, bits_zero]) (by omega) (by omega)
       omega
     refine ⟨_, rfl, _, rfl, _, rfl, D, D2, bitsM c ks.length, ls, ks, most, rfl, u2, hbn, by omega, (fun x hx => bits_mem hx), t9 _ _ hD6, hMs.same t9, h8, hkok, fun H10 s10 => ?_⟩
     refine ⟨_, rfl, ?_⟩
     have t10 := u1.trans s10
     have hd10 := t10 _ _ hd8
     have hk10 : TKi H10 xs := hk8.same t10.tups
     cases hb : goodB ks most (bitsM c ks.length) with
     | false =>
       refine iteF ⟨xs, o, _, _, rfl, s8.trans t10, hd10, hk10, by omega, fun key => ?_⟩
       rw [hg8 key]
       constructor
       · rintro ⟨c', h1, h2, h3, h4⟩
         exact ⟨c', h1, by omega, h3, h4⟩
       · rintro ⟨c', h1, h2, h3, h4⟩
         refine ⟨c', h1, ?_, h3, h4⟩
         have : c' ≠ c := fun z => by rw [h3, z, hb] at h4; cases h4
         omega
     | true =>
       refine iteT ?_
       refine ⟨_, rfl, _, rfl, D, _, rfl, .inl ⟨SqL.of (s10 _ _ u2), fun t ht => ?_⟩⟩
       have s11 := (Same.refl H10).upd_free (o := .tup ((bitsM c ks.length).map V.int)) ht
       have e11 : upd H10 t (.tup ((bitsM c ks.length).map V.int)) t = some (.tup ((bitsM c ks.length).map V.int)) := upd_same
       generalize upd H10 t (.tup ((bitsM c ks.length).map V.int)) = H11 at s11 e11
       have t11 := t10.trans s11
       have hk11 : TKi H11 xs := hk10.same s11.tups
       have hd11 := t11 _ _ hd8
       refine ⟨d, xs, o, t, bitsM c ks.length, rfl, hd11, hk11.ks, rfl, ⟨_, e11, nums_int _⟩, small1000 (by omega), fun x hx ex => ?_, fun o' => ?_⟩
       · obtain ⟨c', h1, h2, h3, _⟩ := (hg8 x.1).mp ⟨x, hx, rfl⟩
         have := bits_inj (c := c) (c' := c') (n := ks.length) (by rw [← ex, h3]) (by omega) (by omega)
         omega
       · have ts : TSame H11 (upd H11 d (TD P w d (xs ++ [(bitsM c ks.length, t, .bl true)]) o')) := fun b ys e => by
           rw [upd_ne (fun z => by rw [z, hd11] at e; cases e)]
           exact e
         refine ⟨xs ++ [(bitsM c ks.length, t, .bl true)], o', _, _, rfl, (s8.trans t11).upd_free hd6, upd_same, fun x hx => ?_, by rw [List.length_append, List.length_singleton]; omega, fun key => ?_⟩
         · rcases List.mem_append.mp hx with q | q
           · exact ts _ _ (hk11 x q)
           · rw [List.mem_singleton.mp q]
             exact ts _ _ e11
         · constructor
           · rintro ⟨x, hx, ex⟩
             rcases List.mem_append.mp hx with q | q
             · obtain ⟨c', h1, h2, h3, h4⟩ := (hg8 key).mp ⟨x, q, ex⟩
               exact ⟨c', h1, by omega, h3, h4⟩
             · rw [List.mem_singleton.mp q] at ex
               have ex' : bitsM c ks.length = key := ex
               exact ⟨c, by omega, by omega, ex'.symm, by rw [← ex']; exact hb⟩
           · rintro ⟨c', h1, h2, h3, h4⟩
             by_cases ec : c' = c
             · exact ⟨(bitsM c ks.length, t, .bl true), by simp, by rw [h3, ec]⟩
             · obtain ⟨x, hx, ex⟩ := (hg8 key).mpr ⟨c', h1, by omega, h3, h4⟩
               exact ⟨x, List.mem_append_left _ hx, ex⟩
   · rintro σ H8 ⟨xs, o, v4, v5, rfl, s8, hd8, hk8, hx8, hg8⟩
     have e : 1 + (NN - 1) = 2 ^ ks.length := by omega
     rw [e] at hg8
     exact ⟨_, rfl, k d xs o H8 (s6.trans s8) hd8 hk8 (gds_end hg8)⟩
end
end SL
namespace L2
open PySem
theorem TupsAt.nil {H : Hp} : TupsAt H [] [] := ⟨rfl, fun i n e => by simp at e⟩
theorem TupsAt.app {H : Hp} {ts us : List Addr} {ns ms : List (List Int)} (h : TupsAt H ts ns) (g : TupsAt H us ms) : TupsAt H (ts ++ us) (ns ++ ms) := by
 refine ⟨by rw [List.length_append, List.length_append, h.1, g.1], fun i n e => ?_⟩
 by_cases hi : i < ns.length
 · rw [List.getElem?_append_left hi] at e
   obtain ⟨t, h1, h2⟩ := h.2 i n e
   exact ⟨t, by rw [List.getElem?_append_left (by rw [h.1]; exact hi)]; exact h1, h2⟩
 · rw [List.getElem?_append_right (by omega)] at e
   obtain ⟨t, h1, h2⟩ := g.2 _ n e
   exact ⟨t, by rw [List.getElem?_append_right (by rw [h.1]; omega), h.1]; exact h1, h2⟩
theorem TupsAt.one {H : Hp} {t : Addr} {n : List Int} (h : H t = some (.tup (n.map V.int))) : TupsAt H [t] [n] := ⟨rfl, fun i m e => by
 cases i with
 | zero => cases e; exact ⟨t, rfl, h⟩
 | succ i => simp at e⟩
theorem TupsAt.take {H : Hp} {ts : List Addr} {ns : List (List Int)} (h : TupsAt H ts ns) (k : Nat) : TupsAt H (ts.take k) (ns.take k) := by
 refine ⟨by rw [List.length_take, List.length_take, h.1], fun i n e => ?_⟩
 rw [List.getElem?_take] at e
 split at e
 · rename_i hi
   obtain ⟨t, h1, h2⟩ := h.2 i n e
   exact ⟨t, by rw [List.getElem?_take, if_pos hi]; exact h1, h2⟩
 · cases e
theorem TupsAt.drop {H : Hp} {ts : List Addr} {ns : List (List Int)} (h : TupsAt H ts ns) (k : Nat) : TupsAt H (ts.drop k) (ns.drop k) := by
 refine ⟨by rw [List.length_drop, List.length_drop, h.1], fun i n e => ?_⟩
 rw [List.getElem?_drop] at e
 obtain ⟨t, h1, h2⟩ := h.2 _ n e
 exact ⟨t, by rw [List.getElem?_drop]; exact h1, h2⟩
end L2
namespace SL
open PySem L2
theorem cut_drop_ref (qs : List Addr) (k : Nat) : cutV (qs.map V.ref) (some (k : Int)) none = (qs.drop k).map V.ref := by
 unfold cutV
 have e1 : HT.sIx (qs.map V.ref).length 0 (some (k : Int)) = min k qs.length := by
   unfold HT.sIx
   simp
   intro z
   omega
 have e2 : HT.sIx (qs.map V.ref).length (qs.map V.ref).length none = qs.length := by
   unfold HT.sIx
   simp
 rw [e1, e2, ← List.map_drop, ← List.map_take]
 congr 1
 by_cases hk : k ≤ qs.length
 · rw [Nat.min_eq_left hk, List.take_of_length_le (by rw [List.length_drop]; omega)]
 · rw [Nat.min_eq_right (by omega), List.drop_eq_nil_of_le (Nat.le_refl _), List.drop_eq_nil_of_le (by omega), List.take_nil]
def WaysAt (H : Hp) (us : List Addr) (ws : List (List (List Int))) : Prop := us.length = ws.length ∧ ∀ (i : Nat) (w : List (List Int)), ws[i]? = some w → ∃ l ts, us[i]? = some l ∧ H l = some (.lst (ts.map V.ref)) ∧ TupsAt H ts w
theorem WaysAt.same {H H' : Hp} {us : List Addr} {ws : List (List (List Int))} (h : WaysAt H us ws) (s : Same H H') : WaysAt H' us ws := ⟨h.1, fun i w e => by
 obtain ⟨l, ts, h1, h2, h3⟩ := h.2 i w e
 exact ⟨l, ts, h1, s _ _ h2, h3.tsame s.tups⟩⟩
theorem WaysAt.nil {H : Hp} : WaysAt H [] [] := ⟨rfl, fun i w e => by simp at e⟩
theorem WaysAt.put {H : Hp} {ms : List Addr} {ws : List (List (List Int))} {lm p : Addr} {zs : List V} {ts : List Addr} {w : List (List Int)} (h : WaysAt H ms ws) (hlm : H lm = some (.lst zs)) (hne : ∀ m ∈ ms, m ≠ lm) (hp : H p = some (.lst (ts.map V.ref))) (hpn : p ≠ lm) (hT : TupsAt H ts w) (o : HO) : WaysAt (upd H lm o) (ms ++ [p]) (ws ++ [w]) := by
 have tsm : TSame H (upd H lm o) := TSame.upd_lst (fun _ _ e => e) hlm
 refine ⟨by rw [List.length_append, List.length_append, h.1]; rfl, fun i x e => ?_⟩
 by_cases hi : i < ws.length
 · rw [List.getElem?_append_left hi] at e
   obtain ⟨l, ts', h1, h2, h3⟩ := h.2 i x e
   exact ⟨l, ts', by rw [List.getElem?_append_left (by rw [h.1]; exact hi)]; exact h1, by rw [upd_ne (hne l (List.mem_of_getElem? h1))]; exact h2, h3.tsame tsm⟩
 · rw [List.getElem?_append_right (by omega)] at e
   have : i = ws.length := by
     have := (List.getElem?_eq_some_iff.mp e).1
     simp at this
     omega
   subst this
   rw [Nat.sub_self] at e
   cases e
   exact ⟨p, ts, by rw [List.getElem?_append_right (by rw [h.1]; exact Nat.le_refl _), h.1, Nat.sub_self]; rfl, by rw [upd_ne hpn]; exact hp, hT.tsame tsm⟩
def spWy : Sp := fun vs H Q _ => ∃ n : Nat, vs = [.int (n : Int)] ∧ n ≤ 8 ∧ ∀ (l : Addr) (us : List Addr) (H' : Hp), Same H H' → H' l = some (.lst (us.map V.ref)) → WaysAt H' us (waysM n) → Q (.ref l) H'
theorem fact_mono {k : Nat} (h : k ≤ 8) : (waysM k).length ≤ 40320 := Nat.le_trans (ways_count k) (fact8 k h)
theorem flat_take {k i : Nat} {w : List (List Int)} (hw : (waysM k)[i]? = some w) : ((waysM k).take (i + 1)).flatMap (nextM k) = ((waysM k).take i).flatMap (nextM k) ++ nextM k w := by
 rw [List.take_add_one, hw, List.flatMap_append]
 show _ ++ (nextM k w ++ []) = _
 rw [List.append_nil]
theorem flat_bound {k i : Nat} (h : k < 8) (hi : i ≤ (waysM k).length) : (((waysM k).take i).flatMap (nextM k)).length ≤ 322560 := by
 have h1 := flat_le (f := nextM k) (c := 8) ((waysM k).take i) fun w hw => by
   rw [next_len]
   have := wpart_len (ways_part k w (List.mem_of_mem_take hw))
   omega
 have h2 := fact_mono (k := k) (by omega)
 rw [List.length_take] at h1
 have : min i (waysM k).length ≤ 40320 := by omega
 omega
section
variable {P : Program} {w : World} {K : W.Frag} {mg : Str → Option Value} {base : Heap}
abbrev nWy : List Str := ["_law_many", "_law_found", "_law_k", "_law_more", "_law_way", "_law_at"]
theorem scWy : FnScope nWy ["_law_many"] (defScope sWy) := .of (by decide +kernel)
theorem ok_wy {f : Addr} {fd : FuncData} (F : Fun K "_law_ways" "_law_ways" sWy f fd) (T : Txt mg) : FnOk P w K mg base CX0 1 f fd ["_law_many"] spWy := by
 refine F.ok scWy (fun vs H Q E h => ?_) (fun cdv A outer s H vs Q E hr h => ?_)
 · obtain ⟨n, rfl, _⟩ := h
   rfl
 · obtain ⟨n, rfl, h8, k⟩ := h
   refine ⟨_, pss_cons (ps_set (i := 1) scWy.nd rfl (Or.inl rfl) (pe_lst (pa_cons (pe_lst pa_nil) pa_nil)))
     (pss_cons (ps_for PassesOwn.never rfl (pi_range1 rfl T.range (pa_cons (pv 0) pa_nil)) (pg_name (i := 2) scWy.nd rfl (Or.inl rfl))
       (pss_cons (ps_set (i := 3) scWy.nd rfl (Or.inl rfl) (pe_lst pa_nil))
       (pss_cons (ps_for PassesOwn.never rfl (pi_list (pv 1)) (pg_name (i := 4) scWy.nd rfl (Or.inl rfl))
         (pss_cons (ps_expr (pe_bm PySem.F.plainAttrs_list PySem.F.slot_list_append PySem.F.type_list_append mt_append (pv 3) (pa_cons (pe_op op_catL (pv 4) (pe_lst (pa_cons (pe_tup (pa_cons (pv 2) pa_nil)) pa_nil))) pa_nil)))
         (pss_one (ps_for PassesOwn.never rfl (pi_range1 rfl T.range (pa_cons (pe_callB call_len_seq (by rfl) T.len PySem.boot_len (pa_cons (pv 4) pa_nil)) pa_nil)) (pg_name (i := 5) scWy.nd rfl (Or.inl rfl))
           (pss_one (ps_expr (pe_bm PySem.F.plainAttrs_list PySem.F.slot_list_append PySem.F.type_list_append mt_append (pv 3) (pa_cons (pe_op op_catL (pe_op op_catL (pe_slice (r := rSlL K) sl_list (pv 4) po_none (po_some (pv 5))) (pe_lst (pa_cons (pe_op op_catN (pe_ix ix_list (pv 4) (pv 5) (fun _ _ => rfl)) (pe_tup (pa_cons (pv 2) pa_nil))) pa_nil))) (pe_slice (r := rSlL K) sl_list (pv 4) (po_some (pe_op op_add (pv 5) pe_int)) po_none)) pa_nil))))))))
       (pss_one (ps_set (i := 1) scWy.nd rfl (Or.inl rfl) (pv 3))))))
     (pss_one (ps_ret (pv 1)))), ?_⟩
   refine ⟨Nat.zero_le _, fun l0 hl0 => ⟨(by show 1 ≤ sizeLine; decide), fun lf hlf => ?_⟩⟩
   have s0 := (Same.refl H).upd_free (o := .lst []) hl0
   have e0 : upd H l0 (.lst []) l0 = some (.lst []) := upd_same
   generalize upd H l0 (.lst []) = Ha at s0 e0 hlf
   have s1 := (Same.refl Ha).upd_free (o := .lst [.ref l0]) hlf
   have e1 : upd Ha lf (.lst [.ref l0]) lf = some (.lst [.ref l0]) := upd_same
   generalize upd Ha lf (.lst [.ref l0]) = Hb at s1 e1
   refine ⟨_, rfl, _, rfl, by omega, by omega, ?_⟩
   rw [Int.toNat_natCast]
   refine for_range (n := n) (fun i σ H2 => ∃ lf us v2 v3 v4 v5, σ = [some (.int (n : Int)), some (.ref lf), v2, v3, v4, v5] ∧ Same H H2 ∧ H2 lf = some (.lst (us.map V.ref)) ∧ WaysAt H2 us (waysM i))
     ⟨lf, [l0], none, none, none, none, rfl, s0.trans s1, e1, ⟨rfl, fun i w e => by
       cases i with
       | zero =>
         cases e
         exact ⟨l0, [], rfl, s1 _ _ e0, TupsAt.nil⟩
       | succ i => simp [waysM] at e⟩⟩ ?_ ?_
   · rintro i σ H2 hi ⟨lf, us, v2, v3, v4, v5, rfl, s2, hlf, hW⟩
     have i0 : 0 + (i : Int) = (i : Int) := Int.zero_add _
     rw [i0]
     have hul := hW.1
     have hwc := fact_mono (k := i) (by omega)
     refine ⟨Nat.zero_le _, fun lm hlm => ?_⟩
     have s3 := (Same.refl H2).upd_free (o := .lst []) hlm
     have e3 : upd H2 lm (.lst []) lm = some (.lst []) := upd_same
     generalize upd H2 lm (.lst []) = H3 at s3 e3
     refine ⟨_, rfl, lf, rfl, ⟨_, SqL.of (s3 _ _ hlf)⟩, ?_⟩
     refine for_list (K := K) (a := lf) (xs := us.map V.ref) (fun j σ H4 => ∃ ms v4 v5, σ = [some (.int (n : Int)), some (.ref lf), some (.int (i : Int)), some (.ref lm), v4, v5] ∧ Same H2 H4 ∧ H4 lm = some (.lst (ms.map V.ref)) ∧ (∀ m ∈ ms, m ≠ lm) ∧ WaysAt H4 ms (((waysM i).take j).flatMap (nextM i)))
       ⟨[], v4, v5, rfl, s3, e3, (fun m hm => by cases hm), by rw [List.take_zero]; exact WaysAt.nil⟩ (fun j σ H4 _ ⟨_, _, _, _, h, _⟩ => SqL.of (h _ _ hlf)) ?_ ?_
     · rintro j x σ H4 hx ⟨ms, v4, v5, rfl, s4, hm4, hne, hWm⟩
       have hj : j < (waysM i).length := by
         have := (List.getElem?_eq_some_iff.mp hx).1
         rw [List.length_map] at this
         omega
       obtain ⟨w, hw⟩ : ∃ w, (waysM i)[j]? = some w := ⟨(waysM i)[j], by simp [hj]⟩
       obtain ⟨lw, ts, hu1, hlw, hT⟩ := hW.2 j w hw
       rw [List.getElem?_map, hu1] at hx
       cases hx
       have hwl : w.length ≤ i := wpart_len (ways_part i w (List.mem_of_getElem? hw))
       have htl : ts.length = w.length := hT.1
       have hml : ms.length ≤ 322560 := by rw [hWm.1]; exact flat_bound (by omega) (by omega)
       have hsz : ∀ zs : List Addr, zs.length ≤ 322570 → (zs.map V.ref).length < sizeLine := fun zs hz => by
         rw [List.length_map]
         exact Nat.lt_of_le_of_lt hz (by decide)
       refine ⟨_, rfl, .inl ⟨rfl, _, SqL.of hm4⟩, _, rfl, _, rfl, (by show 1 ≤ sizeLine; decide), fun t ht => ⟨(by show 1 ≤ sizeLine; decide), fun l1 hl1 => ?_⟩⟩
       have s5 := (Same.refl H4).upd_free (o := .tup [.int (i : Int)]) ht
       have e5 : upd H4 t (.tup [.int (i : Int)]) t = some (.tup [.int (i : Int)]) := upd_same
       generalize upd H4 t (.tup [.int (i : Int)]) = H5 at s5 e5 hl1
       have s6 := (Same.refl H5).upd_free (o := .lst [.ref t]) hl1
       have e6 : upd H5 l1 (.lst [.ref t]) l1 = some (.lst [.ref t]) := upd_same
       generalize upd H5 l1 (.lst [.ref t]) = H6 at s6 e6
       have t6 := s5.trans s6
       refine ⟨lw, l1, _, _, rfl, rfl, SqL.of ((s4.trans t6) _ _ hlw), SqL.of e6, Nat.le_of_lt (small1000 (by rw [List.length_map]; show ts.length + 1 ≤ 1000; omega)), fun p hp => ?_⟩
       have s7 := (Same.refl H6).upd_free (o := .lst ((ts ++ [t]).map V.ref)) hp
       have eap : ts.map V.ref ++ [V.ref t] = (ts ++ [t]).map V.ref := by rw [List.map_append]; rfl
       rw [eap]
       have e7 : upd H6 p (.lst ((ts ++ [t]).map V.ref)) p = some (.lst ((ts ++ [t]).map V.ref)) := upd_same
       generalize upd H6 p (.lst ((ts ++ [t]).map V.ref)) = H7 at s7 e7
       have t7 := t6.trans s7
       have hm7 := t7 _ _ hm4
       have hpn : p ≠ lm := fun z => by rw [z, t6 _ _ hm4] at hp; cases hp
       refine ⟨lm, _, _, rfl, rfl, hm7, hsz _ (by omega), ?_⟩
       have hT7 : TupsAt H7 (ts ++ [t]) (w ++ [[(i : Int)]]) := ((hT.tsame (s4.trans t7).tups).app (TupsAt.one (n := [(i : Int)]) ((s6.trans s7) _ _ e5)))
       have W7 := (hWm.same t7).put hm7 hne e7 hpn hT7 (.lst (ms.map V.ref ++ [.ref p]))
       have s8 : Same H2 (upd H7 lm (.lst (ms.map V.ref ++ [.ref p]))) := (s4.trans t7).upd_free hlm
       have e8 : upd H7 lm (.lst (ms.map V.ref ++ [.ref p])) lm = some (.lst ((ms ++ [p]).map V.ref)) := by rw [upd_same, List.map_append]; rfl
       have hne8 : ∀ m ∈ ms ++ [p], m ≠ lm := fun m hm => by
         rcases List.mem_append.mp hm with q | q
         · exact hne m q
         · rw [List.mem_singleton.mp q]; exact hpn
       generalize upd H7 lm (.lst (ms.map V.ref ++ [.ref p])) = H8 at W7 s8 e8
       refine ⟨_, rfl, lw, _, rfl, .inl (SqL.of (s8 _ _ hlw)), _, rfl, by omega, by rw [List.length_map]; omega, ?_⟩
       rw [List.length_map, htl, Int.toNat_natCast]
       refine for_range (n := w.length) (fun b σ H9 => ∃ ns v5, σ = [some (.int (n : Int)), some (.ref lf), some (.int (i : Int)), some (.ref lm), some (.ref lw), v5] ∧ Same H2 H9 ∧ H9 lm = some (.lst (ns.map V.ref)) ∧ (∀ m ∈ ns, m ≠ lm) ∧ ns.length ≤ 322561 + b ∧ WaysAt H9 ns ((((waysM i).take j).flatMap (nextM i)) ++ (w ++ [[(i : Int)]]) :: (List.range b).map fun a => w.take a ++ (w.getD a [] ++ [(i : Int)]) :: w.drop (a + 1)))
         ⟨ms ++ [p], v5, rfl, s8, e8, hne8, by rw [List.length_append, List.length_singleton]; omega, W7⟩ ?_ ?_
       · rintro b σ H9 hb ⟨ns, v5, rfl, s9, hm9, hne9, hnl, W9⟩
         have b0 : 0 + (b : Int) = (b : Int) := Int.zero_add _
         rw [b0]
         have hlw9 := s9 _ _ hlw
         have hT9 := hT.tsame s9.tups
         obtain ⟨g, hg⟩ : ∃ g, w[b]? = some g := ⟨w[b], by simp [hb]⟩
         have egd : w.getD b [] = g := by rw [List.getD_eq_getElem?_getD, hg]; rfl
         obtain ⟨tb, ht1, ht2⟩ := hT9.2 b g hg
         refine ⟨_, rfl, .inl ⟨rfl, _, SqL.of hm9⟩, _, rfl, _, rfl, _, rfl, lw, _, rfl, SqL.of hlw9, fun q1 hq1 => ?_⟩
         rw [cut_take_ref]
         have s10 := (Same.refl H9).upd_free (o := .lst ((ts.take b).map V.ref)) hq1
         have e10 : upd H9 q1 (.lst ((ts.take b).map V.ref)) q1 = some (.lst ((ts.take b).map V.ref)) := upd_same
         generalize upd H9 q1 (.lst ((ts.take b).map V.ref)) = H10 at s10 e10
         refine ⟨_, rfl, _, rfl, lw, _, _, .ref tb, rfl, rfl, SqL.of (s10 _ _ hlw9), atI_nat (by rw [List.getElem?_map, ht1]; rfl), _, rfl, (by show 1 ≤ sizeLine; decide), fun tk htk => ?_⟩
         have s11 := (Same.refl H10).upd_free (o := .tup [.int (i : Int)]) htk
         have e11 : upd H10 tk (.tup [.int (i : Int)]) tk = some (.tup [.int (i : Int)]) := upd_same
         generalize upd H10 tk (.tup [.int (i : Int)]) = H11 at s11 e11
         have t11 := s10.trans s11
         have hgl : g.length ≤ 8 := by
           have hP := ways_part i w (List.mem_of_getElem? hw)
           have : g.length ≤ w.flatten.length := by
             have := List.append_of_mem (List.mem_of_getElem? hg)
             obtain ⟨A', B', e⟩ := this
             rw [e, List.flatten_append, List.flatten_cons, List.length_append, List.length_append]
             omega
           have e := hP.perm.length_eq
           rw [nums_len] at e
           omega
         refine ⟨tb, tk, _, _, rfl, rfl, SqT.of (t11 _ _ ht2), e11, by simp, Nat.le_of_lt (small1000 (by rw [List.length_map]; show g.length + 1 ≤ 1000; omega)), fun tn H12 s12 htn => ?_⟩
         have etn : g.map V.int ++ [V.int (i : Int)] = (g ++ [(i : Int)]).map V.int := by rw [List.map_append]; rfl
         rw [etn] at htn
         have t12 := t11.trans s12
         refine ⟨(by show 1 ≤ sizeLine; decide), fun l2 hl2 => ?_⟩
         have s13 := (Same.refl H12).upd_free (o := .lst [.ref tn]) hl2
         have e13 : upd H12 l2 (.lst [.ref tn]) l2 = some (.lst [.ref tn]) := upd_same
         generalize upd H12 l2 (.lst [.ref tn]) = H13 at s13 e13
         have t13 := t12.trans s13
         refine ⟨q1, l2, _, _, rfl, rfl, SqL.of ((s11.trans (s12.trans s13)) _ _ e10), SqL.of e13, Nat.le_of_lt (small1000 (by rw [List.length_map, List.length_take]; show min b ts.length + 1 ≤ 1000; omega)), fun q2 hq2 => ?_⟩
         have eq2 : (ts.take b).map V.ref ++ [V.ref tn] = (ts.take b ++ [tn]).map V.ref := by rw [List.map_append]; rfl
         rw [eq2]
         have s14 := (Same.refl H13).upd_free (o := .lst ((ts.take b ++ [tn]).map V.ref)) hq2
         have e14 : upd H13 q2 (.lst ((ts.take b ++ [tn]).map V.ref)) q2 = some (.lst ((ts.take b ++ [tn]).map V.ref)) := upd_same
         generalize upd H13 q2 (.lst ((ts.take b ++ [tn]).map V.ref)) = H14 at s14 e14
         have t14 := t13.trans s14
         refine ⟨_, rfl, _, rfl, _, _, rfl, rfl, _, rfl, lw, _, rfl, SqL.of (t14 _ _ hlw9), fun q3 hq3 => ?_⟩
         have ecd : cutV (ts.map V.ref) (some ((b : Int) + 1)) none = (ts.drop (b + 1)).map V.ref := cut_drop_ref ts (b + 1)
         have s15 := (Same.refl H14).upd_free (o := .lst (cutV (ts.map V.ref) (some ((b : Int) + 1)) none)) hq3
         have e15 : upd H14 q3 (.lst (cutV (ts.map V.ref) (some ((b : Int) + 1)) none)) q3 = some (.lst ((ts.drop (b + 1)).map V.ref)) := by rw [upd_same, ecd]
         refine ⟨q2, q3, _, _, rfl, rfl, SqL.of (s15 _ _ e14), SqL.of e15, Nat.le_of_lt (small1000 (by rw [List.length_map, List.length_map, List.length_append, List.length_take, List.length_drop, List.length_singleton]; omega)), fun q4 hq4 => ?_⟩
         have hq4' : upd H14 q3 (.lst (cutV (ts.map V.ref) (some ((b : Int) + 1)) none)) q4 = none := hq4
         have eq4 : (ts.take b ++ [tn]).map V.ref ++ (ts.drop (b + 1)).map V.ref = (ts.take b ++ tn :: ts.drop (b + 1)).map V.ref := by rw [← List.map_append, List.append_assoc]; rfl
         rw [eq4]
         show _
         have t15 := t14.trans s15
         have s16 := (Same.refl (upd H14 q3 (.lst (cutV (ts.map V.ref) (some ((b : Int) + 1)) none)))).upd_free (o := .lst ((ts.take b ++ tn :: ts.drop (b + 1)).map V.ref)) hq4'
         have e16 : upd (upd H14 q3 (.lst (cutV (ts.map V.ref) (some ((b : Int) + 1)) none))) q4 (.lst ((ts.take b ++ tn :: ts.drop (b + 1)).map V.ref)) q4 = some (.lst ((ts.take b ++ tn :: ts.drop (b + 1)).map V.ref)) := upd_same
         have t16 := t15.trans s16
         have hm16 := t16 _ _ hm9
         have hq4n : q4 ≠ lm := fun z => by rw [z, t15 _ _ hm9] at hq4'; cases hq4'
         refine ⟨lm, _, _, rfl, rfl, hm16, hsz _ (by omega), ?_⟩
         have hT16 : TupsAt (upd (upd H14 q3 (.lst (cutV (ts.map V.ref) (some ((b : Int) + 1)) none))) q4 (.lst ((ts.take b ++ tn :: ts.drop (b + 1)).map V.ref))) (ts.take b ++ tn :: ts.drop (b + 1)) (w.take b ++ (w.getD b [] ++ [(i : Int)]) :: w.drop (b + 1)) := by
           rw [egd]
           have hA := hT9.tsame t16.tups
           exact (hA.take b).app ((TupsAt.one (n := g ++ [(i : Int)]) ((s13.trans (s14.trans (s15.trans s16))) _ _ htn)).app (hA.drop (b + 1)))
         have W16 := (W9.same t16).put hm16 hne9 e16 hq4n hT16 (.lst (ns.map V.ref ++ [.ref q4]))
         refine ⟨ns ++ [q4], _, rfl, (s9.trans t16).upd_free hlm, by rw [upd_same, List.map_append]; rfl, fun m hm => ?_, by rw [List.length_append, List.length_singleton]; omega, ?_⟩
         · rcases List.mem_append.mp hm with q | q
           · exact hne9 m q
           · rw [List.mem_singleton.mp q]; exact hq4n
         · rw [List.range_succ, List.map_append (f := fun a => w.take a ++ (w.getD a [] ++ [(i : Int)]) :: w.drop (a + 1))]
           rw [List.append_assoc] at W16
           exact W16
       · rintro σ H9 ⟨ns, v5, rfl, s9, hm9, hne9, _, W9⟩
         refine ⟨ns, _, _, rfl, s9, hm9, hne9, ?_⟩
         rw [flat_take hw]
         exact W9
     · rintro σ H4 ⟨ms, v4, v5, rfl, s4, hm4, hne, hWm⟩
       rw [List.length_map, hul, List.take_of_length_le (Nat.le_refl _)] at hWm
       exact ⟨_, rfl, lm, ms, _, _, _, _, rfl, s2.trans s4, hm4, hWm⟩
   · rintro σ H2 ⟨lf, us, v2, v3, v4, v5, rfl, s2, hlf, hW⟩
     exact ⟨_, rfl, k lf us H2 s2 hlf hW⟩
end
end SL
namespace SL
open PySem L2
def DwAt (H : Hp) (v : V) : Option (List (List Int)) → Prop
 | none => v = .non
 | some d => ∃ l ts, v = .ref l ∧ H l = some (.lst (ts.map V.ref)) ∧ TupsAt H ts d
theorem DwAt.same {H H' : Hp} (s : Same H H') {v : V} : ∀ {o : Option (List (List Int))}, DwAt H v o → DwAt H' v o
 | none, h => h
 | some _, ⟨l, ts, h1, h2, h3⟩ => ⟨l, ts, h1, s _ _ h2, h3.tsame s.tups⟩
def spFt : Sp := fun vs H Q _ => ∃ (l : Addr) (ps : List Addr) (ks : List (List Str)) (most : Int), vs = [.ref l, .int most] ∧ H l = some (.lst (ps.map V.ref)) ∧ RowsAt H ps ks ∧ ks.length ≤ 8 ∧ (∀ r ∈ ks, RowOk r) ∧ 0 ≤ most ∧ ks.Nodup ∧
 ∀ (p : Addr) (ts : List Addr) (H' : Hp), Same H H' → H' p = some (.tup (ts.map V.ref)) → TupsAt H' ts (groupsM ks most) → Q (.ref p) H'
section
variable {P : Program} {w : World} {K : W.Frag} {mg : Str → Option Value} {base : Heap}
abbrev nFt : List Str := ["_law_rows_here", "_law_most", "_law_goods_here", "_law_due", "_law_some"]
theorem scFt : FnScope nFt ["_law_rows_here", "_law_most"] (defScope sFt) := .of (by decide +kernel)
def scopeFt1 : Scope := ⟨.function, [(".0", .local), ("_law_group", .local), ("_law_goods_here", .free)], false, false, []⟩
theorem scFt1 : BlkScope (defScope sFt) nFt ["_law_group"] ["_law_goods_here"] [2] scopeFt1 := .of (by decide +kernel)
theorem ok_ft {f fG fY : Addr} {fd fdG fdY : FuncData} (F : Fun K "_law_first" "_law_first" sFt f fd) (T : Txt mg)
   (FG : Fun K "_law_goods" "_law_goods" sGs fG fdG) (bG : Binds K fdG ["_law_rows_here", "_law_most"] []) (gG : mg "_law_goods" = some (.ref fG)) (GG : FnOk P w K mg base CX0 3 fG fdG ["_law_rows_here", "_law_most"] (spGs P w))
   (FY : Fun K "_law_ways" "_law_ways" sWy fY fdY) (bY : Binds K fdY ["_law_many"] []) (gY : mg "_law_ways" = some (.ref fY)) :
   FnOk P w K mg base CX0 4 f fd ["_law_rows_here", "_law_most"] spFt := by
 have GY : FnOk P w K mg base CX0 1 fY fdY ["_law_many"] spWy := ok_wy FY T
 refine F.ok scFt (fun vs H Q E h => ?_) (fun cdv A outer s H vs Q E hr h => ?_)
 · obtain ⟨l, ps, ks, most, rfl, _⟩ := h
   rfl
 · obtain ⟨l, ps, ks, most, rfl, hL, hP, h8, hkok, hm0, hnd, k⟩ := h
   have hu64 := hr.units
   have hu0 := Nat.lt_of_le_of_lt (Nat.le_add_right _ 64) hu64
   have hu1 := Nat.lt_of_le_of_lt (Nat.add_le_add_left (show 1 ≤ 64 by decide) _) hu64
   have hr1 : Room 1 _ := hr.mono (by decide)
   have hpl : (ps.map V.ref).length = ks.length := by rw [List.length_map]; exact hP.1
   refine ⟨_, pss_cons (ps_set (i := 2) scFt.nd rfl (Or.inr rfl) (pe_call GG hr rfl gG FG.kp bG .nil pass0 (pa_cons (pv 0) (pa_cons (pv 1) pa_nil))))
     (pss_cons (ps_set (i := 3) scFt.nd rfl (Or.inl rfl) pe_non)
     (pss_cons (ps_for PassesOwn.never rfl (pi_list (pe_call GY hr1 rfl gY FY.kp bY .nil pass0 (pa_cons (pe_callB call_len_seq (by rfl) T.len PySem.boot_len (pa_cons (pv 0) pa_nil)) pa_nil))) (pg_name (i := 4) scFt.nd rfl (Or.inl rfl))
       (pss_one (ps_if (pt_cmpR (r := rEqE K) (op_eqE hu0) (pe_lc scFt1 rfl rfl rfl (pi_list (pv 4)) (fun fp C s1 H1 => pg_name (i := 0) scFt1.nd rfl (Or.inl rfl))
           (fun fp C s1 H1 => pts_one (pt_cmp (pc_tnotinP (P := P) (w := w) rfl rfl hu1 (pv 0) (pv 1)) (by with_unfolding_all rfl))) (fun fp C s1 H1 => pv 0)) (pe_lst pa_nil) (nomark _))
         (pss_one (ps_if (pt_cut (PW.pt (pw_or (pt_cmp (pc_isN (pv 3))) (pw_or (pt_cmpR op_lt (pe_callB call_len_seq (by rfl) T.len PySem.boot_len (pa_cons (pv 4) pa_nil)) (pe_callB call_len_seq (by rfl) T.len PySem.boot_len (pa_cons (pv 3) pa_nil)) (nomark _))
             (pw_or1 (PW.pt (pw_and (pt_cmpR op_eq (pe_callB call_len_seq (by rfl) T.len PySem.boot_len (pa_cons (pv 4) pa_nil)) (pe_callB call_len_seq (by rfl) T.len PySem.boot_len (pa_cons (pv 3) pa_nil)) (nomark _)) (pw_and1 (pt_cmpR (r := rLtLL K) (op_ltLL hu64) (pv 4) (pv 3) (nomark _))))))))))
           (pss_one (ps_set (i := 3) scFt.nd rfl (Or.inl rfl) (pv 4))) pss_nil)) pss_nil)))
     (pss_one (ps_ret (pe_callTy call_tuple_of (by rfl) T.tuple PyProof.Rows.boot_tuple (pa_cons (pv 3) pa_nil)))))), ?_⟩
   refine ⟨_, rfl, _, rfl, l, ps, ks, most, rfl, hL, hP, h8, hkok, fun d xs od H1 s1 hd hk hgo => ?_⟩
   refine ⟨_, rfl, l, _, rfl, .inl (SqL.of (s1 _ _ hL)), ks.length, by rw [hpl]; rfl, h8, fun lw us H2 s2 hlw hW => ?_⟩
   have hul := hW.1
   refine ⟨lw, rfl, ⟨_, SqL.of hlw⟩, ?_⟩
   refine for_list (K := K) (a := lw) (xs := us.map V.ref) (fun i σ H3 => ∃ o v3 v4, σ = [some (.ref l), some (.int most), some (.ref d), some v3, v4] ∧ Same H2 H3 ∧ DwAt H3 v3 o ∧ Best ks most ((waysM ks.length).take i) o)
     ⟨none, .non, none, rfl, Same.refl H2, rfl, fun w hw => by rw [List.take_zero] at hw; cases hw⟩ (fun i σ H3 _ ⟨_, _, _, _, h, _⟩ => SqL.of (h _ _ hlw)) ?_ ?_
   · rintro i x σ H3 hx ⟨o, v3, v4, rfl, s3, hdu, hbe⟩
     have hi : i < (waysM ks.length).length := by
       have := (List.getElem?_eq_some_iff.mp hx).1
       rw [List.length_map] at this
       omega
     obtain ⟨wy, hwy⟩ : ∃ wy, (waysM ks.length)[i]? = some wy := ⟨(waysM ks.length)[i], by simp [hi]⟩
     obtain ⟨ls, ts, hu1', hls, hT⟩ := hW.2 i wy hwy
     rw [List.getElem?_map, hu1'] at hx
     cases hx
     have hWP := ways_part _ wy (List.mem_of_getElem? hwy)
     have hwl := wpart_len hWP
     have htl : ts.length = wy.length := hT.1
     have tk : (waysM ks.length).take (i + 1) = (waysM ks.length).take i ++ [wy] := by rw [List.take_add_one, hwy]; rfl
     have hls3 := s3 _ _ hls
     have hT3 := hT.tsame s3.tups
     refine ⟨_, rfl, ls, rfl, ⟨_, SqL.of hls3⟩, fun B hB => ?_⟩
     refine lc_list (K := K) (a := ls) (xs := ts.map V.ref) (fun j ys H4 => Same H3 H4 ∧ H4 B = some (.lst ys) ∧ ys.length ≤ j ∧ (ys = [] ↔ (wy.take j).all (goodB ks most) = true)) (Nat.le_of_lt (small1000 (by rw [List.length_map]; omega))) ⟨(Same.refl H3).upd_free hB, upd_same, Nat.le_refl _, by simp⟩ (fun j ys H4 h => h.2.2.1) (fun j ys H4 h => SqL.of (h.1 _ _ hls3)) ?_ ?_
     · rintro j ys H4 x N M hx ⟨u1, u2, u3, u4⟩ hN hM
       have hj : j < wy.length := by
         have := (List.getElem?_eq_some_iff.mp hx).1
         rw [List.length_map] at this
         omega
       obtain ⟨g, hg⟩ : ∃ g, wy[j]? = some g := ⟨wy[j], by simp [hj]⟩
       obtain ⟨t, ht1, ht2⟩ := hT3.2 j g hg
       rw [List.getElem?_map, ht1] at hx
       cases hx
       have hgm := List.mem_of_getElem? hg
       have hgok : GOk ks.length g := ⟨(hWP.ok g hgm).1, (hWP.ok g hgm).2, hWP.lt hgm⟩
       have tj : (wy.take (j + 1)).all (goodB ks most) = ((wy.take j).all (goodB ks most) && goodB ks most g) := by
         rw [List.take_add_one, hg, List.all_append]
         show ((wy.take j).all (goodB ks most) && (goodB ks most g && true)) = _
         rw [Bool.and_true]
       have t14 := (s2.trans s3).trans u1
       refine ⟨_, rfl, _, rfl, d, xs, od, t, g, rfl, t14 _ _ hd, (TKi.same hk t14.tups).ks, rfl, ⟨_, u1 _ _ ht2, nums_int g⟩, _, rfl, ?_⟩
       rw [hgo g hgok]
       cases hb : goodB ks most g with
       | true =>
         refine iteF (hM H4 ⟨u1, u2, by omega, ?_⟩)
         rw [tj, hb, Bool.and_true]
         exact u4
       | false =>
         refine iteT ⟨_, rfl, hN _ H4 u2 ⟨u1.upd_free hB, upd_same, by rw [List.length_append, List.length_singleton]; omega, ?_⟩⟩
         rw [tj, hb, Bool.and_false]
         exact ⟨fun z => by simp at z, fun z => absurd z Bool.false_ne_true⟩
     rintro ys H4 ⟨u1, u2, u3, u4⟩
     rw [List.length_map, htl, List.take_of_length_le (Nat.le_refl _)] at u4
     refine ⟨Nat.zero_le _, fun le hle => ?_⟩
     have x1 := (Same.refl H4).upd_free (o := .lst []) hle
     have e1 : upd H4 le (.lst []) le = some (.lst []) := upd_same
     generalize upd H4 le (.lst []) = H5 at x1 e1
     have t35 := u1.trans x1
     have hdu5 := hdu.same t35
     refine ⟨B, le, ys, rfl, rfl, SqL.of (x1 _ _ u2), SqL.of e1, _, rfl, ?_⟩
     by_cases hy : ys = []
     · have hall := u4.mp hy
       refine iteTK (decide_eq_true hy) ?_
       have hls5 := t35 _ _ hls3
       have hT5 := hT3.tsame t35.tups
       refine ⟨fun b H' => H5 = H' ∧ b = betterB wy o, ?_, ?_⟩
       · cases o with
         | none =>
           cases (show v3 = .non from hdu5)
           exact ⟨_, rfl, _, rfl, iteTK rfl ⟨rfl, rfl⟩⟩
         | some dd =>
           obtain ⟨ld, td, rfl, hld, hTd⟩ := hdu5
           have htd : td.length = dd.length := hTd.1
           refine ⟨_, rfl, _, rfl, iteFK (decide_eq_false (fun z => by cases z)) ?_⟩
           refine ⟨_, rfl, ls, _, rfl, .inl (SqL.of hls5), _, rfl, ld, _, rfl, .inl (SqL.of hld), _, _, rfl, rfl, _, rfl, ?_⟩
           rw [List.length_map, List.length_map, htl, htd]
           have eB : betterB wy (some dd) = (decide (wy.length < dd.length) || (decide (wy.length = dd.length) && HT.llLt wy dd)) := rfl
           by_cases c1 : wy.length < dd.length
           · refine iteTK (decide_eq_true (by omega)) ⟨rfl, ?_⟩
             rw [eB, decide_eq_true c1]
             rfl
           · refine iteFK (decide_eq_false (by omega)) ?_
             rw [decide_eq_false c1, Bool.false_or] at eB
             refine ⟨_, rfl, ls, _, rfl, .inl (SqL.of hls5), _, rfl, ld, _, rfl, .inl (SqL.of hld), rfl, _, rfl, ?_⟩
             rw [List.length_map, List.length_map, htl, htd, dec_intV]
             by_cases c2 : wy.length = dd.length
             · refine iteTK (decide_eq_true (by omega)) ?_
               rw [decide_eq_true c2, Bool.true_and] at eB
               exact ⟨_, rfl, _, rfl, ls, ld, ts, td, wy, dd, rfl, rfl, SqL.of hls5, SqL.of hld, hT5, hTd, _, rfl, rfl, eB.symm⟩
             · refine iteFK (decide_eq_false (by omega)) ⟨rfl, ?_⟩
               rw [eB, decide_eq_false c2]
               rfl
       · rintro b H' ⟨rfl, rfl⟩
         cases hb : betterB wy o with
         | true =>
           refine iteT ⟨_, rfl, some wy, .ref ls, _, rfl, s3.trans t35, ⟨ls, ts, rfl, hls5, hT5⟩, ?_⟩
           rw [tk]
           exact best_put hbe hall hb
         | false =>
           refine iteF ⟨o, v3, _, rfl, s3.trans t35, hdu5, ?_⟩
           rw [tk]
           cases o with
           | none => cases hb
           | some dd => exact best_keep hbe hb
     · refine iteFK (decide_eq_false hy) ⟨o, v3, _, rfl, s3.trans t35, hdu5, ?_⟩
       rw [tk]
       refine best_skip hbe ?_
       cases hq : wy.all (goodB ks most) with
       | false => rfl
       | true => exact absurd (u4.mpr hq) hy
   · rintro σ H3 ⟨o, v3, v4, rfl, s3, hdu, hbe⟩
     rw [List.length_map, hul, List.take_of_length_le (Nat.le_refl _)] at hbe
     have := best_end h8 hm0 hnd hbe
     subst this
     obtain ⟨ld, td, rfl, hld, hTd⟩ := hdu
     refine ⟨_, rfl, ld, _, rfl, .inl ⟨SqL.of hld, fun p hp => ?_⟩⟩
     have s4 := (Same.refl H3).upd_free (o := .tup (td.map V.ref)) hp
     exact k p td _ (s1.trans (s2.trans (s3.trans s4))) upd_same (hTd.tsame s4.tups)
end
end SL
namespace SL
open PySem L2
def dG (g : List Int) : PyData := .tuple (g.map PyData.int)
theorem gs_lay : ∀ gs : List (List Int), PyData.canLayAll0 (gs.map dG) = true
 | [] => rfl
 | g :: gs => by
   have h1 : (dG g).canLay0 = true := dints_lay g
   rw [List.map_cons, PyData.canLayAll0, h1, gs_lay gs]
   rfl
theorem gs_depth : ∀ gs : List (List Int), PyData.depthAll (gs.map dG) ≤ 1
 | [] => Nat.zero_le _
 | g :: gs => by
   rw [List.map_cons, PyData.depthAll]
   refine Nat.max_le.mpr ⟨?_, gs_depth gs⟩
   show PyData.depth (.tuple _) ≤ 1
   rw [PyData.depth, dints_depth]
   exact Nat.le_refl _
theorem gs_okD (gs : List (List Int)) : DOk (.tuple (gs.map dG)) := ⟨gs_lay gs, by
 rw [PyData.depth]
 have := gs_depth gs
 omega⟩
theorem gat_data {K : W.Frag} {H : Hp} : ∀ {us : List V} {gs : List (List Int)}, GAt H us gs → DsAt K H us (gs.map dG)
 | [], [], _ => .nil
 | [], _ :: _, h => h.elim
 | _ :: _, [], h => h.elim
 | _ :: us, g :: gs, ⟨⟨q, e, h1⟩, h2⟩ => by
   subst e
   exact .cons (.tup (SqT.of h1) (dints_at g)) (gat_data h2)
theorem tups_data {K : W.Frag} {H : Hp} : ∀ {ts : List Addr} {gs : List (List Int)}, TupsAt H ts gs → DsAt K H (ts.map V.ref) (gs.map dG)
 | [], [], _ => .nil
 | [], _ :: _, h => by cases h.1
 | _ :: _, [], h => by cases h.1
 | t :: ts, g :: gs, h => by
   obtain ⟨t', h1, h2⟩ := h.2 0 g rfl
   cases h1
   refine .cons (.tup (SqT.of h2) (dints_at g)) (tups_data ⟨by have := h.1; simpa using this, fun i n e => ?_⟩)
   obtain ⟨q, g1, g2⟩ := h.2 (i + 1) n (by simpa using e)
   exact ⟨q, by simpa using g1, g2⟩
def spLaw (K : W.Frag) : Sp := fun vs H Q _ => ∃ (a : Addr) (ns : List Int), vs = [.ref a] ∧ SqL K H a (ns.map V.int) ∧ ns.length ≤ 63 ∧ ∀ H', Q (.bl true) H'
theorem seven {i : Int} (h0 : 0 ≤ i) (h7 : i < 7) : ∃ m : Int, 0 ≤ m ∧ m ≤ 8 ∧ atI [V.int 2, .int 1, .int 3, .int 0, .int 2, .int 8, .int 4] i = some (.int m) := by
 have : i = 0 ∨ i = 1 ∨ i = 2 ∨ i = 3 ∨ i = 4 ∨ i = 5 ∨ i = 6 := by omega
 rcases this with rfl | rfl | rfl | rfl | rfl | rfl | rfl
 · exact ⟨2, by decide, by decide, rfl⟩
 · exact ⟨1, by decide, by decide, rfl⟩
 · exact ⟨3, by decide, by decide, rfl⟩
 · exact ⟨0, by decide, by decide, rfl⟩
 · exact ⟨2, by decide, by decide, rfl⟩
 · exact ⟨8, by decide, by decide, rfl⟩
 · exact ⟨4, by decide, by decide, rfl⟩
section
variable {P : Program} {w : World} {K : W.Frag} {mg : Str → Option Value} {base : Heap}
abbrev nLaw : List Str := ["_law_script", "_law_many", "_law_rows_here", "_law_singles", "_law_way", "_law_most"]
theorem scLaw : FnScope nLaw ["_law_script"] (defScope sLaw) := .of (by decide +kernel)
theorem scLaw1 : BlkScope (defScope sLaw) nLaw ["_law_k"] ["_law_rows_here"] [2] scopeFe1 := .of (by decide +kernel)
theorem ok_law {f fG fC fR fT : Addr} {fd fdG fdC fdR fdT : FuncData} {itg : Array Value} {dGr : Value} (F : Fun K "law" "law" sLaw f fd) (T : Txt mg)
   (FG : FunD K "groups" "groups" sGr fG fdG itg) (bG : Binds K fdG ["rows", "most"] []) (gG : mg "groups" = some (.ref fG)) (GG : FnOk P w K mg base CX0 20 fG fdG ["rows", "most"] spGr) (bG1 : Binds K fdG ["rows", "most"] [dGr]) (rG : RelV (.int 2) dGr)
   (FC : Fun K "_law_cell_at" "_law_cell_at" sCe fC fdC) (bC : Binds K fdC ["_law_script", "_law_k"] []) (gC : mg "_law_cell_at" = some (.ref fC))
   (FR : Fun K "_law_rows" "_law_rows" sRo fR fdR) (bR : Binds K fdR ["_law_script", "_law_most"] []) (gR : mg "_law_rows" = some (.ref fR)) (GR : FnOk P w K mg base CX0 6 fR fdR ["_law_script", "_law_most"] (spRo K))
   (FT : Fun K "_law_first" "_law_first" sFt fT fdT) (bT : Binds K fdT ["_law_rows_here", "_law_most"] []) (gT : mg "_law_first" = some (.ref fT)) (GT : FnOk P w K mg base CX0 4 fT fdT ["_law_rows_here", "_law_most"] spFt) :
   FnOk P w K mg base CX0 21 f fd ["_law_script"] (spLaw K) := by
 have GC : FnOk P w K mg base CX0 1 fC fdC ["_law_script", "_law_k"] (spCe K) := ok_ce FC T
 refine F.ok scLaw (fun vs H Q E h => ?_) (fun cdv A outer s H vs Q E hr h => ?_)
 · obtain ⟨a, ns, rfl, _⟩ := h
   rfl
 · obtain ⟨a, ns, rfl, hS, hlen, k⟩ := h
   have hu64 := hr.units
   have hr1 : Room 1 _ := hr.mono (by decide)
   have hr4 : Room 4 _ := hr.mono (by decide)
   have hr6 : Room 6 _ := hr.mono (by decide)
   refine ⟨_, pss_cons (ps_cut (ps_set (i := 1) scLaw.nd rfl (Or.inl rfl) (pe_op op_mod (pe_op op_fdiv (pe_call GC hr1 rfl gC FC.kp bC .nil pass0 (pa_cons (pv 0) (pa_cons pe_int pa_nil))) pe_int) pe_int)))
     (pss_cons (ps_cut (ps_if (pt_cmpR op_eq (pe_op op_mod (pe_op op_fdiv (pe_call GC hr1 rfl gC FC.kp bC .nil pass0 (pa_cons (pv 0) (pa_cons pe_int pa_nil))) pe_int) pe_int) pe_int (nomark _))
       (pss_one (ps_set (i := 1) scLaw.nd rfl (Or.inl rfl) (pe_op op_add pe_int (pe_op op_mod (pe_op op_fdiv (pe_call GC hr1 rfl gC FC.kp bC .nil pass0 (pa_cons (pv 0) (pa_cons pe_int pa_nil))) pe_int) pe_int)))) pss_nil))
     (pss_cons (ps_set (i := 2) scLaw.nd rfl (Or.inr rfl) (pe_call GR hr6 rfl gR FR.kp bR .nil pass0 (pa_cons (pv 0) (pa_cons pe_int pa_nil))))
     (pss_cons (ps_set (i := 3) scLaw.nd rfl (Or.inl rfl) (pe_slice (r := rSlL K) sl_list (pe_lc scLaw1 rfl rfl rfl (pi_range1 rfl T.range (pa_cons (pe_callB call_len_seq (by rfl) T.len PySem.boot_len (pa_cons (pv 2) pa_nil)) pa_nil)) (fun fp C s1 H1 => pg_name (i := 0) scLaw1.nd rfl (Or.inl rfl))
         (fun fp C s1 H1 => pts_one (pt_cmpR (r := rInD K true) (op_notInD hu64) (pe_ix (r := rIxL K) ix_list (pv 1) (pv 0) (fun _ _ => rfl)) (pe_slice (r := rSlL K) sl_list (pv 1) po_none (po_some (pv 0))) (by with_unfolding_all rfl)))
         (fun fp C s1 H1 => pe_ix (r := rIxL K) ix_list (pv 1) (pv 0) (fun _ _ => rfl))) po_none (po_some (pv 1))))
     (pss_cons (ps_set (i := 4) scLaw.nd rfl (Or.inl rfl) (pe_op op_mod (pe_op op_fdiv (pe_call GC hr1 rfl gC FC.kp bC .nil pass0 (pa_cons (pv 0) (pa_cons pe_int pa_nil))) pe_int) pe_int))
     (pss_cons (ps_if (pt_cmpR op_eq (pv 4) pe_int (nomark _))
       (pss_one (ps_ret (pe_cmpR (op_eqD hu64) (pe_call GG hr rfl gG FG.kp bG1 (.cons rG .nil) pass0 (pa_cons (pe_callTy call_tuple_of (by rfl) T.tuple PyProof.Rows.boot_tuple (pa_cons (pv 3) pa_nil)) pa_nil)) (pe_call GT hr4 rfl gT FT.kp bT .nil pass0 (pa_cons (pv 3) (pa_cons pe_int pa_nil))) (nomark _)))) pss_nil)
     (@pss_cons _ _ _ _ _ (@ps_set _ _ 5 _ _ _ _ scLaw.nd rfl (Or.inl rfl) (@pe_ix _ _ _ _ _ _ _ ix_list (@pe_lst _ _ _ _ (@pa_cons _ _ _ _ _ pe_int (@pa_cons _ _ _ _ _ pe_int (@pa_cons _ _ _ _ _ pe_int (@pa_cons _ _ _ _ _ pe_int (@pa_cons _ _ _ _ _ pe_int (@pa_cons _ _ _ _ _ pe_int (@pa_cons _ _ _ _ _ pe_int pa_nil (by rfl)) (by rfl)) (by rfl)) (by rfl)) (by rfl)) (by rfl)) (by rfl))) (pv 4) (fun _ _ => rfl)) (by rfl) (by first | exact Or.inl rfl | exact Or.inr rfl))
     (pss_one (ps_ret (pe_cmpR (op_eqD hu64) (pe_call GG hr rfl gG FG.kp bG .nil pass0 (pa_cons (pe_callTy call_tuple_of (by rfl) T.tuple PyProof.Rows.boot_tuple (pa_cons (pv 3) pa_nil)) (pa_cons (pv 5) pa_nil))) (pe_call GT hr4 rfl gT FT.kp bT .nil pass0 (pa_cons (pv 3) (pa_cons (pv 5) pa_nil))) (nomark _)))))))))), ?_⟩
   -- how many
   refine ⟨fun σ' H' => ∃ m : Nat, m ≤ 8 ∧ σ' = [some (.ref a), some (.int (m : Int)), none, none, none, none] ∧ Same H H', ?_, ?_⟩
   · refine ⟨_, rfl, a, ns, 0, rfl, hS, by omega, by decide, by decide, fun z H1 s1 => ?_⟩
     refine ⟨_, _, rfl, rfl, ⟨by decide, by decide⟩, _, _, rfl, rfl, (by show (0 : Int) < 7; decide), (z / 8 % 7).toNat, by omega, ?_, s1⟩
     have e : (((z / 8 % 7).toNat : Nat) : Int) = z / 8 % 7 := by omega
     rw [e]
     rfl
   rintro σ' H1 ⟨m0, hm0, rfl, s1⟩
   refine ⟨fun σ' H' => ∃ m : Nat, m ≤ 8 ∧ σ' = [some (.ref a), some (.int (m : Int)), none, none, none, none] ∧ Same H H', ?_, ?_⟩
   · refine ⟨_, rfl, a, ns, 0, rfl, s1.seq hS, by omega, by decide, by decide, fun z H2 s2 => ?_⟩
     refine ⟨_, _, rfl, rfl, ⟨by decide, by decide⟩, _, _, rfl, rfl, (by show (0 : Int) < 16; decide), rfl, _, rfl, ?_⟩
     have s02 := s1.trans s2
     by_cases hz : z / 56 % 16 = 11
     · refine iteTK (by rw [dec_intV]; exact decide_eq_true hz) ?_
       refine ⟨_, rfl, a, ns, 0, rfl, s02.seq hS, by omega, by decide, by decide, fun z2 H3 s3 => ?_⟩
       refine ⟨_, _, rfl, rfl, ⟨by decide, by decide⟩, _, _, rfl, rfl, (by show (0 : Int) < 2; decide), _, _, rfl, rfl, (7 + z2 / 896 % 2).toNat, by omega, ?_, s02.trans s3⟩
       have e : (((7 + z2 / 896 % 2).toNat : Nat) : Int) = 7 + z2 / 896 % 2 := by omega
       rw [e]
       rfl
     · refine iteFK (by rw [dec_intV]; exact decide_eq_false hz) ⟨m0, hm0, rfl, s02⟩
   rintro σ' H2 ⟨many, hmany, rfl, s2⟩
   refine ⟨_, rfl, a, ns, 40, rfl, by decide, by decide, s2.seq hS, hlen, fun l qs rows H3 s3 hL hR h64 _ hok => ?_⟩
   have hql : (qs.map V.ref).length = rows.length := by rw [List.length_map]; exact hR.1
   -- the unlike rows
   refine ⟨_, rfl, l, _, rfl, .inl (SqL.of hL), _, rfl, by omega, by omega, fun D hD => ?_⟩
   refine lc_range (n := ((qs.map V.ref).length : Int).toNat) (fun j ys H5 => ∃ ps : List Addr, ys = ps.map V.ref ∧ Same H3 H5 ∧ H5 D = some (.lst (ps.map V.ref)) ∧ RowsAt H5 ps (unl (rows.take j)) ∧ ys.length ≤ j) (Nat.le_of_lt (small1000 (by omega)))
     ⟨[], rfl, (Same.refl H3).upd_free hD, upd_same, by rw [List.take_zero]; exact RowsAt.nil, Nat.le_refl _⟩ (fun j ys H5 ⟨_, _, _, _, _, h⟩ => h) ?_ ?_
   · rintro j ys H5 N M hj ⟨ps, rfl, u1, u2, u3, u4⟩ hN hM
     have hj' : j < rows.length := by omega
     obtain ⟨r, q, er, eq, hq, hok'⟩ := row_get hR hj'
     have e0 : 0 + (j : Int) = (j : Int) := Int.zero_add _
     have ib : atI (qs.map V.ref) (0 + (j : Int)) = some (.ref q) := by rw [e0]; exact atI_nat (by rw [List.getElem?_map, eq]; rfl)
     have tk : rows.take (j + 1) = rows.take j ++ [r] := by rw [List.take_add_one, er]; rfl
     refine ⟨_, rfl, _, rfl, l, _, _, _, rfl, rfl, SqL.of (u1 _ _ hL), ib, _, rfl, _, rfl, _, rfl, l, _, rfl, SqL.of (u1 _ _ hL), fun p hp => ?_⟩
     rw [e0, cut_take_ref]
     have v1 : Same H5 (upd H5 p (.lst ((qs.take j).map V.ref))) := (Same.refl H5).upd_free hp
     have hd := rows_data (K := K) _ _ (((hR.take j).tsame u1.tups).tsame v1.tups)
     refine ⟨p, _, dRow r, _, rfl, .inl (SqL.of upd_same), hd.1, .tup (SqT.of (v1 _ _ (u1 _ _ hq))) (strs_at r), row_ok hok'.2, hd.2, _, rfl, ?_⟩
     rw [any_row]
     by_cases hin : r ∈ rows.take j
     · rw [decide_eq_true hin]
       refine iteF ?_
       refine hM _ ⟨ps, rfl, u1.trans v1, v1 _ _ u2, ?_, by omega⟩
       rw [tk, unl_snoc, if_pos ((mem_unl _ _).mpr hin)]
       exact u3.tsame v1.tups
     · rw [decide_eq_false hin]
       refine iteT ?_
       refine ⟨_, rfl, _, rfl, l, _, _, _, rfl, rfl, SqL.of (v1 _ _ (u1 _ _ hL)), by rw [e0] at ib; exact ib, ?_⟩
       have ts : TSame (upd H5 p (.lst ((qs.take j).map V.ref))) (upd (upd H5 p (.lst ((qs.take j).map V.ref))) D (.lst (ps.map V.ref ++ [.ref q]))) := TSame.upd_lst (fun _ _ e => e) (v1 _ _ u2)
       refine hN _ _ (v1 _ _ u2) ⟨ps ++ [q], by rw [List.map_append]; rfl, (u1.trans v1).upd_free hD, by rw [upd_same, List.map_append]; rfl, ?_, by rw [List.length_append, List.length_singleton]; omega⟩
       rw [tk, unl_snoc, if_neg (fun z => hin ((mem_unl _ _).mp z))]
       exact ((u3.tsame v1.tups).tsame ts).snoc (ts _ _ (v1 _ _ (u1 _ _ hq))) hok'
   rintro ys H5 ⟨ps0, rfl, s5, hD5, hP0, _⟩
   rw [hql, Int.toNat_natCast, List.take_of_length_le (Nat.le_refl _)] at hP0
   refine ⟨_, rfl, _, rfl, D, _, rfl, SqL.of hD5, fun ds hds => ?_⟩
   rw [cut_take_ref]
   have s6 := (Same.refl H5).upd_free (o := .lst ((ps0.take many).map V.ref)) hds
   have hD6 : upd H5 ds (.lst ((ps0.take many).map V.ref)) ds = some (.lst ((ps0.take many).map V.ref)) := upd_same
   generalize upd H5 ds (.lst ((ps0.take many).map V.ref)) = H6 at s6 hD6
   have hP : RowsAt H6 (ps0.take many) ((unl rows).take many) := (hP0.take many).tsame s6.tups
   have hkok : ∀ r ∈ (unl rows).take many, RowOk r := fun r hr' => hok r ((mem_unl r rows).mp (List.mem_of_mem_take hr'))
   have hk8 : ((unl rows).take many).length ≤ 8 := by rw [List.length_take]; omega
   have hnd : ((unl rows).take many).Nodup := (unl_nd rows).sublist (List.take_sublist _ _)
   generalize ps0.take many = ps at hD6 hP
   generalize (unl rows).take many = ks at hP hkok hk8 hnd
   have hu : unl ks = ks := unlF_id ks [] (by simpa using hnd)
   have t6 := s2.trans (s3.trans (s5.trans s6))
   refine ⟨_, rfl, a, ns, 0, rfl, t6.seq hS, by omega, by decide, by decide, fun z2 H7 s7 => ?_⟩
   refine ⟨_, _, rfl, rfl, ⟨by decide, by decide⟩, _, _, rfl, rfl, (by show (0 : Int) < 8; decide), ?_⟩
   have w0 : 0 ≤ z2 / 1792 % 8 := by omega
   have w8 : z2 / 1792 % 8 < 8 := by omega
   have hD7 := s7 _ _ hD6
   have hP7 := hP.tsame s7.tups
   show _
   refine ⟨_, rfl, rfl, _, rfl, ?_⟩
   rw [dec_intV]
   by_cases h7 : z2 / 1792 % 8 = 7
   · rw [decide_eq_true h7]
     refine iteT ?_
     refine ⟨_, rfl, ds, _, rfl, .inl ⟨SqL.of hD7, fun pt hpt => ?_⟩⟩
     have s8 := (Same.refl H7).upd_free (o := .tup (ps.map V.ref)) hpt
     refine ⟨pt, ps, ks, 2, rfl, upd_same, hP7.tsame s8.tups, by omega, hkok, by rw [hu]; exact hk8, fun pg ug H9 s9 hpg hG => ?_⟩
     rw [hu] at hG
     have t9 := s8.trans s9
     refine ⟨_, rfl, ds, ps, ks, 2, rfl, t9 _ _ hD7, hP7.tsame t9.tups, hk8, hkok, by decide, hnd, fun pq tq H10 s10 hpq hT => ?_⟩
     have okD := gs_okD (groupsM ks 2)
     refine ⟨.tuple ((groupsM ks 2).map dG), .tuple ((groupsM ks 2).map dG), .tup (SqT.of (s10 _ _ hpg)) (gat_data (GAt.tsame s10.tups hG)), .tup (SqT.of hpq) (tups_data hT), okD, okD, ?_⟩
     have er : PyData.eqv (.tuple ((groupsM ks 2).map dG)) (.tuple ((groupsM ks 2).map dG)) = true := SeqAt.eqv_refl _ okD.1
     rw [er]
     exact k _
   · rw [decide_eq_false h7]
     refine iteF ?_
     refine ⟨(by show 7 ≤ sizeLine; decide), fun lm hlm => ?_⟩
     have s8 := (Same.refl H7).upd_free (o := .lst [V.int 2, .int 1, .int 3, .int 0, .int 2, .int 8, .int 4]) hlm
     obtain ⟨most, hm0', _, em⟩ := seven (i := z2 / 1792 % 8) w0 (by omega)
     refine ⟨_, rfl, lm, _, _, .int most, rfl, rfl, SqL.of upd_same, em, ?_⟩
     have hD8 := s8 _ _ hD7
     refine ⟨_, rfl, ds, _, rfl, .inl ⟨SqL.of hD8, fun pt hpt => ?_⟩⟩
     generalize upd H7 lm (.lst [V.int 2, .int 1, .int 3, .int 0, .int 2, .int 8, .int 4]) = H8 at s8 hD8 hpt
     have s9 := (Same.refl H8).upd_free (o := .tup (ps.map V.ref)) hpt
     refine ⟨_, rfl, pt, ps, ks, most, rfl, upd_same, hP7.tsame (s8.trans s9).tups, by omega, hkok, by rw [hu]; exact hk8, fun pg ug H9 s10 hpg hG => ?_⟩
     rw [hu] at hG
     have t9 := s9.trans s10
     refine ⟨_, rfl, _, rfl, ds, ps, ks, most, rfl, t9 _ _ hD8, hP7.tsame (s8.trans t9).tups, hk8, hkok, hm0', hnd, fun pq tq H10 s11 hpq hT => ?_⟩
     have okD := gs_okD (groupsM ks most)
     refine ⟨.tuple ((groupsM ks most).map dG), .tuple ((groupsM ks most).map dG), .tup (SqT.of (s11 _ _ hpg)) (gat_data (GAt.tsame s11.tups hG)), .tup (SqT.of hpq) (tups_data hT), okD, okD, ?_⟩
     have er : PyData.eqv (.tuple ((groupsM ks most).map dG)) (.tuple ((groupsM ks most).map dG)) = true := SeqAt.eqv_refl _ okD.1
     rw [er]
     exact k _
end
end SL
namespace SL
open PySem L2
section
variable {P : Program} {w : World} {K : W.Frag} {mg : Str → Option Value} {base : Heap}
theorem ok_all {f fSo fIg fPt fFm fWr fUn fWa fLp fLf fFw fRi fWt fGo fFg fGr fCe fPi fSi fMk fNa fWo fLs fTu fRo fLl fFi fGd fGs fWy fFt : Addr} {fd fdSo fdIg fdPt fdFm fdWr fdUn fdWa fdLp fdLf fdFw fdRi fdWt fdGo fdFg fdGr fdCe fdPi fdSi fdMk fdNa fdWo fdLs fdTu fdRo fdLl fdFi fdGd fdGs fdWy fdFt : FuncData} {itg : Array Value} {dGr : Value} (F : Fun K "law" "law" sLaw f fd) (T : Txt mg) (TT : TS mg) (hset : mg "set" = none) (hmin : mg "min" = none) (hany : mg "any" = none) (henum : mg "enumerate" = none) (hmu : ∃ u, mg "MOST_UNLIKE" = some u ∧ RelV (.int 8) u)
   (FSo : Fun K "sort_of" "sort_of" sSo fSo fdSo) (bSo : Binds K fdSo ["text"] []) (gSo : mg "sort_of" = some (.ref fSo)) (GSo : FnOk P w K mg base CX0 5 fSo fdSo ["text"] spSo)
   (FIg : Fun K "is_gap" "is_gap" sIg fIg fdIg) (bIg : Binds K fdIg ["part"] []) (gIg : mg "is_gap" = some (.ref fIg))
   (FPt : Fun K "part_takes" "part_takes" sPt fPt fdPt) (bPt : Binds K fdPt ["part", "word"] []) (gPt : mg "part_takes" = some (.ref fPt))
   (FFm : Fun K "first_misfit" "first_misfit" sFm fFm fdFm) (bFm : Binds K fdFm ["parts", "words"] []) (gFm : mg "first_misfit" = some (.ref fFm))
   (FWr : Fun K "writes" "writes" sWr fWr fdWr) (bWr : Binds K fdWr ["form", "row"] []) (gWr : mg "writes" = some (.ref fWr))
   (FUn : Fun K "unlike" "unlike" sUn fUn fdUn) (bUn : Binds K fdUn ["rows"] []) (gUn : mg "unlike" = some (.ref fUn))
   (FWa : Fun K "words_at" "words_at" sWa fWa fdWa) (bWa : Binds K fdWa ["place", "rows"] []) (gWa : mg "words_at" = some (.ref fWa))
   (FLp : Fun K "least_part" "least_part" sLp fLp fdLp) (bLp : Binds K fdLp ["words"] []) (gLp : mg "least_part" = some (.ref fLp))
   (FLf : Fun K "least_form" "least_form" sLf fLf fdLf) (bLf : Binds K fdLf ["rows"] []) (gLf : mg "least_form" = some (.ref fLf))
   (FFw : Fun K "form_within" "form_within" sFw fFw fdFw) (bFw : Binds K fdFw ["rows", "most"] []) (gFw : mg "form_within" = some (.ref fFw))
   (FRi : Fun K "rows_in" "rows_in" sRi fRi fdRi) (bRi : Binds K fdRi ["group", "known"] []) (gRi : mg "rows_in" = some (.ref fRi))
   (FWt : Fun K "writes_others" "writes_others" sWt fWt fdWt) (bWt : Binds K fdWt ["form", "group", "known"] []) (gWt : mg "writes_others" = some (.ref fWt))
   (FGo : Fun K "groups_on" "groups_on" sGo fGo fdGo) (bGo : Binds K fdGo ["group", "known", "most"] []) (gGo : mg "groups_on" = some (.ref fGo))
   (FFg : Fun K "first_grouping" "first_grouping" sFg fFg fdFg) (bFg : Binds K fdFg ["left", "choices", "many"] []) (gFg : mg "first_grouping" = some (.ref fFg))
   (FGr : FunD K "groups" "groups" sGr fGr fdGr itg) (bGr : Binds K fdGr ["rows", "most"] []) (gGr : mg "groups" = some (.ref fGr)) (bGr1 : Binds K fdGr ["rows", "most"] [dGr]) (rGr : RelV (.int 2) dGr)
   (FCe : Fun K "_law_cell_at" "_law_cell_at" sCe fCe fdCe) (bCe : Binds K fdCe ["_law_script", "_law_k"] []) (gCe : mg "_law_cell_at" = some (.ref fCe))
   (FPi : Fun K "_law_pick" "_law_pick" sPi fPi fdPi) (bPi : Binds K fdPi ["_law_cell", "_law_k", "_law_many"] []) (gPi : mg "_law_pick" = some (.ref fPi))
   (FSi : Fun K "_law_signs" "_law_signs" sSi fSi fdSi) (bSi : Binds K fdSi ["_law_cell", "_law_many", "_law_signs_here"] []) (gSi : mg "_law_signs" = some (.ref fSi))
   (FMk : Fun K "_law_mark" "_law_mark" sMk fMk fdMk) (bMk : Binds K fdMk ["_law_cell"] []) (gMk : mg "_law_mark" = some (.ref fMk))
   (FNa : Fun K "_law_name" "_law_name" sNa fNa fdNa) (bNa : Binds K fdNa ["_law_cell"] []) (gNa : mg "_law_name" = some (.ref fNa))
   (FWo : Fun K "_law_word" "_law_word" sWo fWo fdWo) (bWo : Binds K fdWo ["_law_sort_here", "_law_cell"] []) (gWo : mg "_law_word" = some (.ref fWo))
   (FLs : Fun K "_law_sort" "_law_sort" sLs fLs fdLs) (bLs : Binds K fdLs ["_law_word_here"] []) (gLs : mg "_law_sort" = some (.ref fLs))
   (FTu : Fun K "_law_turned" "_law_turned" sTu fTu fdTu) (bTu : Binds K fdTu ["_law_row", "_law_cell", "_law_salt"] []) (gTu : mg "_law_turned" = some (.ref fTu))
   (FRo : Fun K "_law_rows" "_law_rows" sRo fRo fdRo) (bRo : Binds K fdRo ["_law_script", "_law_most"] []) (gRo : mg "_law_rows" = some (.ref fRo))
   (FLl : Fun K "_law_least" "_law_least" sLl fLl fdLl) (bLl : Binds K fdLl ["_law_rows_here"] []) (gLl : mg "_law_least" = some (.ref fLl))
   (FFi : Fun K "_law_fits" "_law_fits" sFi fFi fdFi) (bFi : Binds K fdFi ["_law_form", "_law_row"] []) (gFi : mg "_law_fits" = some (.ref fFi))
   (FGd : Fun K "_law_good" "_law_good" sGd fGd fdGd) (bGd : Binds K fdGd ["_law_group", "_law_singles", "_law_most"] []) (gGd : mg "_law_good" = some (.ref fGd))
   (FGs : Fun K "_law_goods" "_law_goods" sGs fGs fdGs) (bGs : Binds K fdGs ["_law_rows_here", "_law_most"] []) (gGs : mg "_law_goods" = some (.ref fGs))
   (FWy : Fun K "_law_ways" "_law_ways" sWy fWy fdWy) (bWy : Binds K fdWy ["_law_many"] []) (gWy : mg "_law_ways" = some (.ref fWy))
   (FFt : Fun K "_law_first" "_law_first" sFt fFt fdFt) (bFt : Binds K fdFt ["_law_rows_here", "_law_most"] []) (gFt : mg "_law_first" = some (.ref fFt))
   : FnOk P w K mg base CX0 21 f fd ["_law_script"] (spLaw K) := by
 have GLf : FnOk P w K mg base CX0 7 fLf fdLf ["rows"] spLfL := ok_lfL FLf TT T hset FSo bSo gSo GSo FLp bLp gLp FWa bWa gWa
 have GPt : FnOk P w K mg base CX0 6 fPt fdPt ["part", "word"] spPt := ok_pt FPt FIg bIg gIg FSo bSo gSo GSo
 have GFm : FnOk P w K mg base CX0 7 fFm fdFm ["parts", "words"] spFm := ok_fm FFm T hmin FPt bPt gPt GPt
 have GWr : FnOk P w K mg base CX0 8 fWr fdWr ["form", "row"] spWr := ok_wr FWr FFm bFm gFm GFm
 have GFw : FnOk P w K mg base CX0 8 fFw fdFw ["rows", "most"] spFw := ok_fw FFw T FLf bLf gLf GLf FIg bIg gIg
 have GWt : FnOk P w K mg base CX0 9 fWt fdWt ["form", "group", "known"] spWt := ok_wt FWt hany henum FWr bWr gWr GWr
 have GGo : FnOk P w K mg base CX0 19 fGo fdGo ["group", "known", "most"] (spGo 9) := ok_go FGo bGo gGo T FFw bFw gFw GFw FRi bRi gRi FWt bWt gWt GWt 9
 have GGr : FnOk P w K mg base CX0 20 fGr fdGr ["rows", "most"] spGr := ok_gr FGr T hmu FUn bUn gUn FGo bGo gGo GGo FFg bFg gFg TT.all
 have GGd : FnOk P w K mg base CX0 2 fGd fdGd ["_law_group", "_law_singles", "_law_most"] spGd := ok_gd FGd T FLl bLl gLl FFi bFi gFi
 have GGs : FnOk P w K mg base CX0 3 fGs fdGs ["_law_rows_here", "_law_most"] (spGs P w) := ok_gs FGs T FLs bLs gLs FGd bGd gGd GGd
 have GFt : FnOk P w K mg base CX0 4 fFt fdFt ["_law_rows_here", "_law_most"] spFt := ok_ft FFt T FGs bGs gGs GGs FWy bWy gWy
 have GWo : FnOk P w K mg base CX0 4 fWo fdWo ["_law_sort_here", "_law_cell"] spWd := ok_wd FWo T FPi bPi gPi FSi bSi gSi FMk bMk gMk FNa bNa gNa
 have GTu : FnOk P w K mg base CX0 5 fTu fdTu ["_law_row", "_law_cell", "_law_salt"] spTu := ok_tu FTu T FPi bPi gPi FLs bLs gLs FWo bWo gWo GWo
 have GRo : FnOk P w K mg base CX0 6 fRo fdRo ["_law_script", "_law_most"] (spRo K) := ok_ro FRo T FCe bCe gCe FPi bPi gPi FWo bWo gWo GWo FTu bTu gTu GTu
 exact ok_law F T FGr bGr gGr GGr bGr1 rGr FCe bCe gCe FRo bRo gRo GRo FFt bFt gFt GFt
end
end SL
namespace SL
open PySem L2
theorem all_mk {l : W.OpenLaw} {w : World} {K : W.Frag} {h : Heap} {mg : Str → Option Value} {fa CN CA CI CK fMo fIi fAl fSo fIg fPt fFm fWr fUn fWa fLp fLf fFw fRi fWt fGo fFg fGr fCe fPi fSi fMk fNa fWo fLs fTu fRo fLl fFi fGd fGs fWy fFt fZ fNt fNw fAt fAw fIt fIw fKt fKw : Addr} (X : K.In h) (G : h.Ns mainGlobals mg) (hfa : mg "law" = some (.ref fa))
   {odMo anMo odIi anIi odAl anAl odSo anSo odIg anIg odPt anPt odFm anFm odWr anWr odUn anUn odWa anWa odLp anLp odLf anLf odFw anFw odRi anRi odWt anWt odGo anGo odFg anFg odGr anGr odCe anCe odPi anPi odSi anSi odMk anMk odNa anNa odWo anWo odLs anLs odTu anTu odRo anRo odLl anLl odFi anFi odGd anGd odGs anGs odWy anWy odFt anFt odZ anZ odNt anNt odNw anNw odAt anAt odAw anAw odIt anIt odIw anIw odKt anKt odKw anKw : Option Addr} {slMo slIi slAl slSo slIg slPt slFm slWr slUn slWa slLp slLf slFw slRi slWt slGo slFg slGr slCe slPi slSi slMk slNa slWo slLs slTu slRo slLl slFi slGd slGs slWy slFt slZ slNt slNw slAt slAw slIt slIw slKt slKw : Array (Option Value)} {ocMo kVMo dcMo pmMo cdMo ctMo ocIi kVIi dcIi pmIi cdIi ctIi ocAl kVAl dcAl pmAl cdAl ctAl ocSo kVSo dcSo pmSo cdSo ctSo ocIg kVIg dcIg pmIg cdIg ctIg ocPt kVPt dcPt pmPt cdPt ctPt ocFm kVFm dcFm pmFm cdFm ctFm ocWr kVWr dcWr pmWr cdWr ctWr ocUn kVUn dcUn pmUn cdUn ctUn ocWa kVWa dcWa pmWa cdWa ctWa ocLp kVLp dcLp pmLp cdLp ctLp ocLf kVLf dcLf pmLf cdLf ctLf ocFw kVFw dcFw pmFw cdFw ctFw ocRi kVRi dcRi pmRi cdRi ctRi ocWt kVWt dcWt pmWt cdWt ctWt ocGo kVGo dcGo pmGo cdGo ctGo ocFg kVFg dcFg pmFg cdFg ctFg ocGr kVGr dcGr pmGr cdGr ctGr ocCe kVCe dcCe pmCe cdCe ctCe ocPi kVPi dcPi pmPi cdPi ctPi ocSi kVSi dcSi pmSi cdSi ctSi ocMk kVMk dcMk pmMk cdMk ctMk ocNa kVNa dcNa pmNa cdNa ctNa ocWo kVWo dcWo pmWo cdWo ctWo ocLs kVLs dcLs pmLs cdLs ctLs ocTu kVTu dcTu pmTu cdTu ctTu ocRo kVRo dcRo pmRo cdRo ctRo ocLl kVLl dcLl pmLl cdLl ctLl ocFi kVFi dcFi pmFi cdFi ctFi ocGd kVGd dcGd pmGd cdGd ctGd ocGs kVGs dcGs pmGs cdGs ctGs ocWy kVWy dcWy pmWy cdWy ctWy ocFt kVFt dcFt pmFt cdFt ctFt ocZ kVZ dcZ pmZ cdZ ctZ ocNt kVNt dcNt pmNt cdNt ctNt ocNw kVNw dcNw pmNw cdNw ctNw ocAt kVAt dcAt pmAt cdAt ctAt ocAw kVAw dcAw pmAw cdAw ctAw ocIt kVIt dcIt pmIt cdIt ctIt ocIw kVIw dcIw pmIw cdIw ctIw ocKt kVKt dcKt pmKt cdKt ctKt ocKw kVKw dcKw pmKw cdKw ctKw : Value}
   {tkf tks tkn tkm tka tkb tkc tku : Tok}
   {tkdGr : Tok} {dTGr : Addr} {ddcGr : Value} {ddoGr : Option Addr} {ddsGr : Array (Option Value)} {ddnGr : Nat}
   (aCN : W.nsIn K mainGlobals "Number" = some (some (.ref CN)))
   (pgCN : W.plainGet K CN Str.empty = true)
   (hdCN : W.hasDictIn K CN = true)
   (poCN : W.plainOver K CN = true)
   (saCN : W.findIn K (.ref CN) "__setattr__" = some (some (.builtin "object.__setattr__")))
   (mkCN : W.makesIn K CN = true)
   (kcCN : W.keepIn K (.ref CN) = true)
   (haCN : W.findIn K (.ref CN) "__class__" = some (some (.builtin "object.__class__")))
   (hmCN : W.mroIn K CN (.type "object") = some true)
   (inCN : W.findIn K (.ref CN) "__init__" = some (some (.builtin "object.__init__")))
   (aCA : W.nsIn K mainGlobals "Name" = some (some (.ref CA)))
   (pgCA : W.plainGet K CA Str.empty = true)
   (hdCA : W.hasDictIn K CA = true)
   (poCA : W.plainOver K CA = true)
   (saCA : W.findIn K (.ref CA) "__setattr__" = some (some (.builtin "object.__setattr__")))
   (mkCA : W.makesIn K CA = true)
   (kcCA : W.keepIn K (.ref CA) = true)
   (haCA : W.findIn K (.ref CA) "__class__" = some (some (.builtin "object.__class__")))
   (hmCA : W.mroIn K CA (.type "object") = some true)
   (inCA : W.findIn K (.ref CA) "__init__" = some (some (.builtin "object.__init__")))
   (aCI : W.nsIn K mainGlobals "Items" = some (some (.ref CI)))
   (pgCI : W.plainGet K CI Str.empty = true)
   (hdCI : W.hasDictIn K CI = true)
   (poCI : W.plainOver K CI = true)
   (saCI : W.findIn K (.ref CI) "__setattr__" = some (some (.builtin "object.__setattr__")))
   (mkCI : W.makesIn K CI = true)
   (kcCI : W.keepIn K (.ref CI) = true)
   (haCI : W.findIn K (.ref CI) "__class__" = some (some (.builtin "object.__class__")))
   (hmCI : W.mroIn K CI (.type "object") = some true)
   (inCI : W.findIn K (.ref CI) "__init__" = some (some (.builtin "object.__init__")))
   (aCK : W.nsIn K mainGlobals "Mark" = some (some (.ref CK)))
   (pgCK : W.plainGet K CK Str.empty = true)
   (hdCK : W.hasDictIn K CK = true)
   (poCK : W.plainOver K CK = true)
   (saCK : W.findIn K (.ref CK) "__setattr__" = some (some (.builtin "object.__setattr__")))
   (mkCK : W.makesIn K CK = true)
   (kcCK : W.keepIn K (.ref CK) = true)
   (haCK : W.findIn K (.ref CK) "__class__" = some (some (.builtin "object.__class__")))
   (hmCK : W.mroIn K CK (.type "object") = some true)
   (inCK : W.findIn K (.ref CK) "__init__" = some (some (.builtin "object.__init__")))
   (hn : W.specialIn K (.builtin "object.__class__") "__get__" = some (some (.builtin "getset_descriptor.__get__")))
   (htk : W.takesIn K (.builtin "object.__class__") = some true)
   (aMo : W.nsIn K mainGlobals "made_of" = some (some (.ref fMo)))
   (lMo : K.lookup fMo = some ⟨ocMo, odMo, .func (W.fnOf "made_of" "made_of" (defArgs sMo) (defBody sMo) (defScope sMo) .none kVMo dcMo pmMo anMo cdMo ctMo), slMo⟩)
   (cMo : W.codeIn K cdMo "made_of" = true)
   (kMo : W.keepIn K (.ref fMo) = true)
   (aIi : W.nsIn K mainGlobals "is_item" = some (some (.ref fIi)))
   (lIi : K.lookup fIi = some ⟨ocIi, odIi, .func (W.fnOf "is_item" "is_item" (defArgs sIi) (defBody sIi) (defScope sIi) .none kVIi dcIi pmIi anIi cdIi ctIi), slIi⟩)
   (cIi : W.codeIn K cdIi "is_item" = true)
   (kIi : W.keepIn K (.ref fIi) = true)
   (aAl : W.nsIn K mainGlobals "all_sorts" = some (some (.ref fAl)))
   (lAl : K.lookup fAl = some ⟨ocAl, odAl, .func (W.fnOf "all_sorts" "all_sorts" (defArgs sAl) (defBody sAl) (defScope sAl) .none kVAl dcAl pmAl anAl cdAl ctAl), slAl⟩)
   (cAl : W.codeIn K cdAl "all_sorts" = true)
   (kAl : W.keepIn K (.ref fAl) = true)
   (aSo : W.nsIn K mainGlobals "sort_of" = some (some (.ref fSo)))
   (lSo : K.lookup fSo = some ⟨ocSo, odSo, .func (W.fnOf "sort_of" "sort_of" (defArgs sSo) (defBody sSo) (defScope sSo) .none kVSo dcSo pmSo anSo cdSo ctSo), slSo⟩)
   (cSo : W.codeIn K cdSo "sort_of" = true)
   (kSo : W.keepIn K (.ref fSo) = true)
   (aIg : W.nsIn K mainGlobals "is_gap" = some (some (.ref fIg)))
   (lIg : K.lookup fIg = some ⟨ocIg, odIg, .func (W.fnOf "is_gap" "is_gap" (defArgs sIg) (defBody sIg) (defScope sIg) .none kVIg dcIg pmIg anIg cdIg ctIg), slIg⟩)
   (cIg : W.codeIn K cdIg "is_gap" = true)
   (kIg : W.keepIn K (.ref fIg) = true)
   (aPt : W.nsIn K mainGlobals "part_takes" = some (some (.ref fPt)))
   (lPt : K.lookup fPt = some ⟨ocPt, odPt, .func (W.fnOf "part_takes" "part_takes" (defArgs sPt) (defBody sPt) (defScope sPt) .none kVPt dcPt pmPt anPt cdPt ctPt), slPt⟩)
   (cPt : W.codeIn K cdPt "part_takes" = true)
   (kPt : W.keepIn K (.ref fPt) = true)
   (aFm : W.nsIn K mainGlobals "first_misfit" = some (some (.ref fFm)))
   (lFm : K.lookup fFm = some ⟨ocFm, odFm, .func (W.fnOf "first_misfit" "first_misfit" (defArgs sFm) (defBody sFm) (defScope sFm) .none kVFm dcFm pmFm anFm cdFm ctFm), slFm⟩)
   (cFm : W.codeIn K cdFm "first_misfit" = true)
   (kFm : W.keepIn K (.ref fFm) = true)
   (aWr : W.nsIn K mainGlobals "writes" = some (some (.ref fWr)))
   (lWr : K.lookup fWr = some ⟨ocWr, odWr, .func (W.fnOf "writes" "writes" (defArgs sWr) (defBody sWr) (defScope sWr) .none kVWr dcWr pmWr anWr cdWr ctWr), slWr⟩)
   (cWr : W.codeIn K cdWr "writes" = true)
   (kWr : W.keepIn K (.ref fWr) = true)
   (aUn : W.nsIn K mainGlobals "unlike" = some (some (.ref fUn)))
   (lUn : K.lookup fUn = some ⟨ocUn, odUn, .func (W.fnOf "unlike" "unlike" (defArgs sUn) (defBody sUn) (defScope sUn) .none kVUn dcUn pmUn anUn cdUn ctUn), slUn⟩)
   (cUn : W.codeIn K cdUn "unlike" = true)
   (kUn : W.keepIn K (.ref fUn) = true)
   (aWa : W.nsIn K mainGlobals "words_at" = some (some (.ref fWa)))
   (lWa : K.lookup fWa = some ⟨ocWa, odWa, .func (W.fnOf "words_at" "words_at" (defArgs sWa) (defBody sWa) (defScope sWa) .none kVWa dcWa pmWa anWa cdWa ctWa), slWa⟩)
   (cWa : W.codeIn K cdWa "words_at" = true)
   (kWa : W.keepIn K (.ref fWa) = true)
   (aLp : W.nsIn K mainGlobals "least_part" = some (some (.ref fLp)))
   (lLp : K.lookup fLp = some ⟨ocLp, odLp, .func (W.fnOf "least_part" "least_part" (defArgs sLp) (defBody sLp) (defScope sLp) .none kVLp dcLp pmLp anLp cdLp ctLp), slLp⟩)
   (cLp : W.codeIn K cdLp "least_part" = true)
   (kLp : W.keepIn K (.ref fLp) = true)
   (aLf : W.nsIn K mainGlobals "least_form" = some (some (.ref fLf)))
   (lLf : K.lookup fLf = some ⟨ocLf, odLf, .func (W.fnOf "least_form" "least_form" (defArgs sLf) (defBody sLf) (defScope sLf) .none kVLf dcLf pmLf anLf cdLf ctLf), slLf⟩)
   (cLf : W.codeIn K cdLf "least_form" = true)
   (kLf : W.keepIn K (.ref fLf) = true)
   (aFw : W.nsIn K mainGlobals "form_within" = some (some (.ref fFw)))
   (lFw : K.lookup fFw = some ⟨ocFw, odFw, .func (W.fnOf "form_within" "form_within" (defArgs sFw) (defBody sFw) (defScope sFw) .none kVFw dcFw pmFw anFw cdFw ctFw), slFw⟩)
   (cFw : W.codeIn K cdFw "form_within" = true)
   (kFw : W.keepIn K (.ref fFw) = true)
   (aRi : W.nsIn K mainGlobals "rows_in" = some (some (.ref fRi)))
   (lRi : K.lookup fRi = some ⟨ocRi, odRi, .func (W.fnOf "rows_in" "rows_in" (defArgs sRi) (defBody sRi) (defScope sRi) .none kVRi dcRi pmRi anRi cdRi ctRi), slRi⟩)
   (cRi : W.codeIn K cdRi "rows_in" = true)
   (kRi : W.keepIn K (.ref fRi) = true)
   (aWt : W.nsIn K mainGlobals "writes_others" = some (some (.ref fWt)))
   (lWt : K.lookup fWt = some ⟨ocWt, odWt, .func (W.fnOf "writes_others" "writes_others" (defArgs sWt) (defBody sWt) (defScope sWt) .none kVWt dcWt pmWt anWt cdWt ctWt), slWt⟩)
   (cWt : W.codeIn K cdWt "writes_others" = true)
   (kWt : W.keepIn K (.ref fWt) = true)
   (aGo : W.nsIn K mainGlobals "groups_on" = some (some (.ref fGo)))
   (lGo : K.lookup fGo = some ⟨ocGo, odGo, .func (W.fnOf "groups_on" "groups_on" (defArgs sGo) (defBody sGo) (defScope sGo) .none kVGo dcGo pmGo anGo cdGo ctGo), slGo⟩)
   (cGo : W.codeIn K cdGo "groups_on" = true)
   (kGo : W.keepIn K (.ref fGo) = true)
   (aFg : W.nsIn K mainGlobals "first_grouping" = some (some (.ref fFg)))
   (lFg : K.lookup fFg = some ⟨ocFg, odFg, .func (W.fnOf "first_grouping" "first_grouping" (defArgs sFg) (defBody sFg) (defScope sFg) .none kVFg dcFg pmFg anFg cdFg ctFg), slFg⟩)
   (cFg : W.codeIn K cdFg "first_grouping" = true)
   (kFg : W.keepIn K (.ref fFg) = true)
   (aGr : W.nsIn K mainGlobals "groups" = some (some (.ref fGr)))
   (lGr : K.lookup fGr = some ⟨ocGr, odGr, .func (W.fnOf "groups" "groups" (defArgs sGr) (defBody sGr) (defScope sGr) (.ref dTGr) kVGr dcGr pmGr anGr cdGr ctGr), slGr⟩)
   (ddGr : K.lookup dTGr = some ⟨ddcGr, ddoGr, .seq #[.int 2 tkdGr] ddnGr, ddsGr⟩)
   (cGr : W.codeIn K cdGr "groups" = true)
   (kGr : W.keepIn K (.ref fGr) = true)
   (aCe : W.nsIn K mainGlobals "_law_cell_at" = some (some (.ref fCe)))
   (lCe : K.lookup fCe = some ⟨ocCe, odCe, .func (W.fnOf "_law_cell_at" "_law_cell_at" (defArgs sCe) (defBody sCe) (defScope sCe) .none kVCe dcCe pmCe anCe cdCe ctCe), slCe⟩)
   (cCe : W.codeIn K cdCe "_law_cell_at" = true)
   (kCe : W.keepIn K (.ref fCe) = true)
   (aPi : W.nsIn K mainGlobals "_law_pick" = some (some (.ref fPi)))
   (lPi : K.lookup fPi = some ⟨ocPi, odPi, .func (W.fnOf "_law_pick" "_law_pick" (defArgs sPi) (defBody sPi) (defScope sPi) .none kVPi dcPi pmPi anPi cdPi ctPi), slPi⟩)
   (cPi : W.codeIn K cdPi "_law_pick" = true)
   (kPi : W.keepIn K (.ref fPi) = true)
   (aSi : W.nsIn K mainGlobals "_law_signs" = some (some (.ref fSi)))
   (lSi : K.lookup fSi = some ⟨ocSi, odSi, .func (W.fnOf "_law_signs" "_law_signs" (defArgs sSi) (defBody sSi) (defScope sSi) .none kVSi dcSi pmSi anSi cdSi ctSi), slSi⟩)
   (cSi : W.codeIn K cdSi "_law_signs" = true)
   (kSi : W.keepIn K (.ref fSi) = true)
   (aMk : W.nsIn K mainGlobals "_law_mark" = some (some (.ref fMk)))
   (lMk : K.lookup fMk = some ⟨ocMk, odMk, .func (W.fnOf "_law_mark" "_law_mark" (defArgs sMk) (defBody sMk) (defScope sMk) .none kVMk dcMk pmMk anMk cdMk ctMk), slMk⟩)
   (cMk : W.codeIn K cdMk "_law_mark" = true)
   (kMk : W.keepIn K (.ref fMk) = true)
   (aNa : W.nsIn K mainGlobals "_law_name" = some (some (.ref fNa)))
   (lNa : K.lookup fNa = some ⟨ocNa, odNa, .func (W.fnOf "_law_name" "_law_name" (defArgs sNa) (defBody sNa) (defScope sNa) .none kVNa dcNa pmNa anNa cdNa ctNa), slNa⟩)
   (cNa : W.codeIn K cdNa "_law_name" = true)
   (kNa : W.keepIn K (.ref fNa) = true)
   (aWo : W.nsIn K mainGlobals "_law_word" = some (some (.ref fWo)))
   (lWo : K.lookup fWo = some ⟨ocWo, odWo, .func (W.fnOf "_law_word" "_law_word" (defArgs sWo) (defBody sWo) (defScope sWo) .none kVWo dcWo pmWo anWo cdWo ctWo), slWo⟩)
   (cWo : W.codeIn K cdWo "_law_word" = true)
   (kWo : W.keepIn K (.ref fWo) = true)
   (aLs : W.nsIn K mainGlobals "_law_sort" = some (some (.ref fLs)))
   (lLs : K.lookup fLs = some ⟨ocLs, odLs, .func (W.fnOf "_law_sort" "_law_sort" (defArgs sLs) (defBody sLs) (defScope sLs) .none kVLs dcLs pmLs anLs cdLs ctLs), slLs⟩)
   (cLs : W.codeIn K cdLs "_law_sort" = true)
   (kLs : W.keepIn K (.ref fLs) = true)
   (aTu : W.nsIn K mainGlobals "_law_turned" = some (some (.ref fTu)))
   (lTu : K.lookup fTu = some ⟨ocTu, odTu, .func (W.fnOf "_law_turned" "_law_turned" (defArgs sTu) (defBody sTu) (defScope sTu) .none kVTu dcTu pmTu anTu cdTu ctTu), slTu⟩)
   (cTu : W.codeIn K cdTu "_law_turned" = true)
   (kTu : W.keepIn K (.ref fTu) = true)
   (aRo : W.nsIn K mainGlobals "_law_rows" = some (some (.ref fRo)))
   (lRo : K.lookup fRo = some ⟨ocRo, odRo, .func (W.fnOf "_law_rows" "_law_rows" (defArgs sRo) (defBody sRo) (defScope sRo) .none kVRo dcRo pmRo anRo cdRo ctRo), slRo⟩)
   (cRo : W.codeIn K cdRo "_law_rows" = true)
   (kRo : W.keepIn K (.ref fRo) = true)
   (aLl : W.nsIn K mainGlobals "_law_least" = some (some (.ref fLl)))
   (lLl : K.lookup fLl = some ⟨ocLl, odLl, .func (W.fnOf "_law_least" "_law_least" (defArgs sLl) (defBody sLl) (defScope sLl) .none kVLl dcLl pmLl anLl cdLl ctLl), slLl⟩)
   (cLl : W.codeIn K cdLl "_law_least" = true)
   (kLl : W.keepIn K (.ref fLl) = true)
   (aFi : W.nsIn K mainGlobals "_law_fits" = some (some (.ref fFi)))
   (lFi : K.lookup fFi = some ⟨ocFi, odFi, .func (W.fnOf "_law_fits" "_law_fits" (defArgs sFi) (defBody sFi) (defScope sFi) .none kVFi dcFi pmFi anFi cdFi ctFi), slFi⟩)
   (cFi : W.codeIn K cdFi "_law_fits" = true)
   (kFi : W.keepIn K (.ref fFi) = true)
   (aGd : W.nsIn K mainGlobals "_law_good" = some (some (.ref fGd)))
   (lGd : K.lookup fGd = some ⟨ocGd, odGd, .func (W.fnOf "_law_good" "_law_good" (defArgs sGd) (defBody sGd) (defScope sGd) .none kVGd dcGd pmGd anGd cdGd ctGd), slGd⟩)
   (cGd : W.codeIn K cdGd "_law_good" = true)
   (kGd : W.keepIn K (.ref fGd) = true)
   (aGs : W.nsIn K mainGlobals "_law_goods" = some (some (.ref fGs)))
   (lGs : K.lookup fGs = some ⟨ocGs, odGs, .func (W.fnOf "_law_goods" "_law_goods" (defArgs sGs) (defBody sGs) (defScope sGs) .none kVGs dcGs pmGs anGs cdGs ctGs), slGs⟩)
   (cGs : W.codeIn K cdGs "_law_goods" = true)
   (kGs : W.keepIn K (.ref fGs) = true)
   (aWy : W.nsIn K mainGlobals "_law_ways" = some (some (.ref fWy)))
   (lWy : K.lookup fWy = some ⟨ocWy, odWy, .func (W.fnOf "_law_ways" "_law_ways" (defArgs sWy) (defBody sWy) (defScope sWy) .none kVWy dcWy pmWy anWy cdWy ctWy), slWy⟩)
   (cWy : W.codeIn K cdWy "_law_ways" = true)
   (kWy : W.keepIn K (.ref fWy) = true)
   (aFt : W.nsIn K mainGlobals "_law_first" = some (some (.ref fFt)))
   (lFt : K.lookup fFt = some ⟨ocFt, odFt, .func (W.fnOf "_law_first" "_law_first" (defArgs sFt) (defBody sFt) (defScope sFt) .none kVFt dcFt pmFt anFt cdFt ctFt), slFt⟩)
   (cFt : W.codeIn K cdFt "_law_first" = true)
   (kFt : W.keepIn K (.ref fFt) = true)
   (aZ : W.nsIn K mainGlobals "law" = some (some (.ref fZ)))
   (lZ : K.lookup fZ = some ⟨ocZ, odZ, .func (W.fnOf "law" "law" (defArgs sLaw) (defBody sLaw) (defScope sLaw) .none kVZ dcZ pmZ anZ cdZ ctZ), slZ⟩)
   (cZ : W.codeIn K cdZ "law" = true)
   (kZ : W.keepIn K (.ref fZ) = true)
   (aNt : W.findIn K (.ref CN) "takes" = some (some (.ref fNt)))
   (iNt : W.isFn K (.ref fNt) = true)
   (lNt : K.lookup fNt = some ⟨ocNt, odNt, .func (W.fnOf "takes" "Number.takes" (defArgs sNt) (defBody sNt) (defScope sNt) .none kVNt dcNt pmNt anNt cdNt ctNt), slNt⟩)
   (cNt : W.codeIn K cdNt "Number.takes" = true)
   (kNt : W.keepIn K (.ref fNt) = true)
   (aNw : W.findIn K (.ref CN) "word" = some (some (.ref fNw)))
   (iNw : W.isFn K (.ref fNw) = true)
   (lNw : K.lookup fNw = some ⟨ocNw, odNw, .func (W.fnOf "word" "Number.word" (defArgs sNw) (defBody sNw) (defScope sNw) .none kVNw dcNw pmNw anNw cdNw ctNw), slNw⟩)
   (cNw : W.codeIn K cdNw "Number.word" = true)
   (kNw : W.keepIn K (.ref fNw) = true)
   (aAt : W.findIn K (.ref CA) "takes" = some (some (.ref fAt)))
   (iAt : W.isFn K (.ref fAt) = true)
   (lAt : K.lookup fAt = some ⟨ocAt, odAt, .func (W.fnOf "takes" "Name.takes" (defArgs sAt) (defBody sAt) (defScope sAt) .none kVAt dcAt pmAt anAt cdAt ctAt), slAt⟩)
   (cAt : W.codeIn K cdAt "Name.takes" = true)
   (kAt : W.keepIn K (.ref fAt) = true)
   (aAw : W.findIn K (.ref CA) "word" = some (some (.ref fAw)))
   (iAw : W.isFn K (.ref fAw) = true)
   (lAw : K.lookup fAw = some ⟨ocAw, odAw, .func (W.fnOf "word" "Name.word" (defArgs sAw) (defBody sAw) (defScope sAw) .none kVAw dcAw pmAw anAw cdAw ctAw), slAw⟩)
   (cAw : W.codeIn K cdAw "Name.word" = true)
   (kAw : W.keepIn K (.ref fAw) = true)
   (aIt : W.findIn K (.ref CI) "takes" = some (some (.ref fIt)))
   (iIt : W.isFn K (.ref fIt) = true)
   (lIt : K.lookup fIt = some ⟨ocIt, odIt, .func (W.fnOf "takes" "Items.takes" (defArgs sIt) (defBody sIt) (defScope sIt) .none kVIt dcIt pmIt anIt cdIt ctIt), slIt⟩)
   (cIt : W.codeIn K cdIt "Items.takes" = true)
   (kIt : W.keepIn K (.ref fIt) = true)
   (aIw : W.findIn K (.ref CI) "word" = some (some (.ref fIw)))
   (iIw : W.isFn K (.ref fIw) = true)
   (lIw : K.lookup fIw = some ⟨ocIw, odIw, .func (W.fnOf "word" "Items.word" (defArgs sIw) (defBody sIw) (defScope sIw) .none kVIw dcIw pmIw anIw cdIw ctIw), slIw⟩)
   (cIw : W.codeIn K cdIw "Items.word" = true)
   (kIw : W.keepIn K (.ref fIw) = true)
   (aKt : W.findIn K (.ref CK) "takes" = some (some (.ref fKt)))
   (iKt : W.isFn K (.ref fKt) = true)
   (lKt : K.lookup fKt = some ⟨ocKt, odKt, .func (W.fnOf "takes" "Mark.takes" (defArgs sKt) (defBody sKt) (defScope sKt) .none kVKt dcKt pmKt anKt cdKt ctKt), slKt⟩)
   (cKt : W.codeIn K cdKt "Mark.takes" = true)
   (kKt : W.keepIn K (.ref fKt) = true)
   (aKw : W.findIn K (.ref CK) "word" = some (some (.ref fKw)))
   (iKw : W.isFn K (.ref fKw) = true)
   (lKw : K.lookup fKw = some ⟨ocKw, odKw, .func (W.fnOf "word" "Mark.word" (defArgs sKw) (defBody sKw) (defScope sKw) .none kVKw dcKw pmKw anKw cdKw ctKw), slKw⟩)
   (cKw : W.codeIn K cdKw "Mark.word" = true)
   (kKw : W.keepIn K (.ref fKw) = true)
   (qf : W.nsIn K mainGlobals "FIGURES" = some (some (.str FIG tkf)))
   (qs : W.nsIn K mainGlobals "SMALL_LETTERS" = some (some (.str SMA tks)))
   (qn : W.nsIn K mainGlobals "NAME_SIGNS" = some (some (.str NAM tkn)))
   (qm : W.nsIn K mainGlobals "MARK_SIGNS" = some (some (.str MAR tkm)))
   (qa : W.nsIn K mainGlobals "MOST_FIGURES" = some (some (.int 9 tka)))
   (qb : W.nsIn K mainGlobals "MOST_SIGNS" = some (some (.int 12 tkb)))
   (qc : W.nsIn K mainGlobals "MOST_ITEMS" = some (some (.int 4 tkc)))
   (qu : W.nsIn K mainGlobals "MOST_UNLIKE" = some (some (.int 8 tku)))
   (zall : W.nsIn K mainGlobals "all" = some none)
   (zset : W.nsIn K mainGlobals "set" = some none)
   (zmin : W.nsIn K mainGlobals "min" = some none)
   (zany : W.nsIn K mainGlobals "any" = some none)
   (zenum : W.nsIn K mainGlobals "enumerate" = some none)
   (zlen : W.nsIn K mainGlobals "len" = some none)
   (zrange : W.nsIn K mainGlobals "range" = some none)
   (ztuple : W.nsIn K mainGlobals "tuple" = some none)
   (zisin : W.nsIn K mainGlobals "isinstance" = some none)
   (zstr : W.nsIn K mainGlobals "str" = some none)
   (zlist : W.nsIn K mainGlobals "list" = some none)
   : ∃ fd : FuncData, (∀ (s : Shared) (v : Value), BindsTo s fd ⟨[v], []⟩ [("_law_script", v)]) ∧ ∀ base : Heap, K.In base → base.Ns mainGlobals mg → FnOk l.prog w K mg base CX0 21 fa fd ["_law_script"] (spLaw K) := by
 have e := hfa.symm.trans (W.mg_of X G aZ)
 cases e
 have T : Txt mg := ⟨W.mg_none_of X G zlen, W.mg_none_of X G zrange, W.mg_none_of X G ztuple, W.mg_none_of X G zisin, W.mg_none_of X G zstr, W.mg_none_of X G zlist⟩
 have mgCN := W.mg_of X G aCN
 have clCN : Cls K CN := ⟨pgCN, hdCN, poCN, saCN⟩
 have MCN : MkN K CN := ⟨mkCN, inCN, kcCN⟩
 have mgCA := W.mg_of X G aCA
 have clCA : Cls K CA := ⟨pgCA, hdCA, poCA, saCA⟩
 have MCA : MkN K CA := ⟨mkCA, inCA, kcCA⟩
 have mgCI := W.mg_of X G aCI
 have clCI : Cls K CI := ⟨pgCI, hdCI, poCI, saCI⟩
 have MCI : MkN K CI := ⟨mkCI, inCI, kcCI⟩
 have mgCK := W.mg_of X G aCK
 have clCK : Cls K CK := ⟨pgCK, hdCK, poCK, saCK⟩
 have MCK : MkN K CK := ⟨mkCK, inCK, kcCK⟩
 have FMo := fun_mk (st := sMo) lMo cMo kMo
 have bMo := FMo.binds (ps := ["signs", "text"]) fun _ _ _ _ _ _ u h => match u, h with | [_, _], _ => rfl
 have FIi := fun_mk (st := sIi) lIi cIi kIi
 have bIi := FIi.binds (ps := ["text"]) fun _ _ _ _ _ _ u h => match u, h with | [_], _ => rfl
 have FAl := fun_mk (st := sAl) lAl cAl kAl
 have bAl := FAl.binds (ps := []) fun _ _ _ _ _ _ u h => match u, h with | [], _ => rfl
 have FSo := fun_mk (st := sSo) lSo cSo kSo
 have bSo := FSo.binds (ps := ["text"]) fun _ _ _ _ _ _ u h => match u, h with | [_], _ => rfl
 have FIg := fun_mk (st := sIg) lIg cIg kIg
 have bIg := FIg.binds (ps := ["part"]) fun _ _ _ _ _ _ u h => match u, h with | [_], _ => rfl
 have FPt := fun_mk (st := sPt) lPt cPt kPt
 have bPt := FPt.binds (ps := ["part", "word"]) fun _ _ _ _ _ _ u h => match u, h with | [_, _], _ => rfl
 have FFm := fun_mk (st := sFm) lFm cFm kFm
 have bFm := FFm.binds (ps := ["parts", "words"]) fun _ _ _ _ _ _ u h => match u, h with | [_, _], _ => rfl
 have FWr := fun_mk (st := sWr) lWr cWr kWr
 have bWr := FWr.binds (ps := ["form", "row"]) fun _ _ _ _ _ _ u h => match u, h with | [_, _], _ => rfl
 have FUn := fun_mk (st := sUn) lUn cUn kUn
 have bUn := FUn.binds (ps := ["rows"]) fun _ _ _ _ _ _ u h => match u, h with | [_], _ => rfl
 have FWa := fun_mk (st := sWa) lWa cWa kWa
 have bWa := FWa.binds (ps := ["place", "rows"]) fun _ _ _ _ _ _ u h => match u, h with | [_, _], _ => rfl
 have FLp := fun_mk (st := sLp) lLp cLp kLp
 have bLp := FLp.binds (ps := ["words"]) fun _ _ _ _ _ _ u h => match u, h with | [_], _ => rfl
 have FLf := fun_mk (st := sLf) lLf cLf kLf
 have bLf := FLf.binds (ps := ["rows"]) fun _ _ _ _ _ _ u h => match u, h with | [_], _ => rfl
 have FFw := fun_mk (st := sFw) lFw cFw kFw
 have bFw := FFw.binds (ps := ["rows", "most"]) fun _ _ _ _ _ _ u h => match u, h with | [_, _], _ => rfl
 have FRi := fun_mk (st := sRi) lRi cRi kRi
 have bRi := FRi.binds (ps := ["group", "known"]) fun _ _ _ _ _ _ u h => match u, h with | [_, _], _ => rfl
 have FWt := fun_mk (st := sWt) lWt cWt kWt
 have bWt := FWt.binds (ps := ["form", "group", "known"]) fun _ _ _ _ _ _ u h => match u, h with | [_, _, _], _ => rfl
 have FGo := fun_mk (st := sGo) lGo cGo kGo
 have bGo := FGo.binds (ps := ["group", "known", "most"]) fun _ _ _ _ _ _ u h => match u, h with | [_, _, _], _ => rfl
 have FFg := fun_mk (st := sFg) lFg cFg kFg
 have bFg := FFg.binds (ps := ["left", "choices", "many"]) fun _ _ _ _ _ _ u h => match u, h with | [_, _, _], _ => rfl
 have FGr := funD_mk (st := sGr) lGr ddGr cGr kGr
 have bGr := FGr.binds (ps := ["rows", "most"]) (ds := []) fun _ _ _ _ _ _ _ us hl => match us, hl with | [_, _], _ => ⟨_, rfl, rfl⟩
 have FCe := fun_mk (st := sCe) lCe cCe kCe
 have bCe := FCe.binds (ps := ["_law_script", "_law_k"]) fun _ _ _ _ _ _ u h => match u, h with | [_, _], _ => rfl
 have FPi := fun_mk (st := sPi) lPi cPi kPi
 have bPi := FPi.binds (ps := ["_law_cell", "_law_k", "_law_many"]) fun _ _ _ _ _ _ u h => match u, h with | [_, _, _], _ => rfl
 have FSi := fun_mk (st := sSi) lSi cSi kSi
 have bSi := FSi.binds (ps := ["_law_cell", "_law_many", "_law_signs_here"]) fun _ _ _ _ _ _ u h => match u, h with | [_, _, _], _ => rfl
 have FMk := fun_mk (st := sMk) lMk cMk kMk
 have bMk := FMk.binds (ps := ["_law_cell"]) fun _ _ _ _ _ _ u h => match u, h with | [_], _ => rfl
 have FNa := fun_mk (st := sNa) lNa cNa kNa
 have bNa := FNa.binds (ps := ["_law_cell"]) fun _ _ _ _ _ _ u h => match u, h with | [_], _ => rfl
 have FWo := fun_mk (st := sWo) lWo cWo kWo
 have bWo := FWo.binds (ps := ["_law_sort_here", "_law_cell"]) fun _ _ _ _ _ _ u h => match u, h with | [_, _], _ => rfl
 have FLs := fun_mk (st := sLs) lLs cLs kLs
 have bLs := FLs.binds (ps := ["_law_word_here"]) fun _ _ _ _ _ _ u h => match u, h with | [_], _ => rfl
 have FTu := fun_mk (st := sTu) lTu cTu kTu
 have bTu := FTu.binds (ps := ["_law_row", "_law_cell", "_law_salt"]) fun _ _ _ _ _ _ u h => match u, h with | [_, _, _], _ => rfl
 have FRo := fun_mk (st := sRo) lRo cRo kRo
 have bRo := FRo.binds (ps := ["_law_script", "_law_most"]) fun _ _ _ _ _ _ u h => match u, h with | [_, _], _ => rfl
 have FLl := fun_mk (st := sLl) lLl cLl kLl
 have bLl := FLl.binds (ps := ["_law_rows_here"]) fun _ _ _ _ _ _ u h => match u, h with | [_], _ => rfl
 have FFi := fun_mk (st := sFi) lFi cFi kFi
 have bFi := FFi.binds (ps := ["_law_form", "_law_row"]) fun _ _ _ _ _ _ u h => match u, h with | [_, _], _ => rfl
 have FGd := fun_mk (st := sGd) lGd cGd kGd
 have bGd := FGd.binds (ps := ["_law_group", "_law_singles", "_law_most"]) fun _ _ _ _ _ _ u h => match u, h with | [_, _, _], _ => rfl
 have FGs := fun_mk (st := sGs) lGs cGs kGs
 have bGs := FGs.binds (ps := ["_law_rows_here", "_law_most"]) fun _ _ _ _ _ _ u h => match u, h with | [_, _], _ => rfl
 have FWy := fun_mk (st := sWy) lWy cWy kWy
 have bWy := FWy.binds (ps := ["_law_many"]) fun _ _ _ _ _ _ u h => match u, h with | [_], _ => rfl
 have FFt := fun_mk (st := sFt) lFt cFt kFt
 have bFt := FFt.binds (ps := ["_law_rows_here", "_law_most"]) fun _ _ _ _ _ _ u h => match u, h with | [_, _], _ => rfl
 have FZ := fun_mk (st := sLaw) lZ cZ kZ
 have FNt := fun_mk (st := sNt) lNt cNt kNt
 have bNt := FNt.binds (ps := ["self", "text"]) fun _ _ _ _ _ _ u h => match u, h with | [_, _], _ => rfl
 have FNw := fun_mk (st := sNw) lNw cNw kNw
 have bNw := FNw.binds (ps := ["self"]) fun _ _ _ _ _ _ u h => match u, h with | [_], _ => rfl
 have FAt := fun_mk (st := sAt) lAt cAt kAt
 have bAt := FAt.binds (ps := ["self", "text"]) fun _ _ _ _ _ _ u h => match u, h with | [_, _], _ => rfl
 have FAw := fun_mk (st := sAw) lAw cAw kAw
 have bAw := FAw.binds (ps := ["self"]) fun _ _ _ _ _ _ u h => match u, h with | [_], _ => rfl
 have FIt := fun_mk (st := sIt) lIt cIt kIt
 have bIt := FIt.binds (ps := ["self", "text"]) fun _ _ _ _ _ _ u h => match u, h with | [_, _], _ => rfl
 have FIw := fun_mk (st := sIw) lIw cIw kIw
 have bIw := FIw.binds (ps := ["self"]) fun _ _ _ _ _ _ u h => match u, h with | [_], _ => rfl
 have FKt := fun_mk (st := sKt) lKt cKt kKt
 have bKt := FKt.binds (ps := ["self", "text"]) fun _ _ _ _ _ _ u h => match u, h with | [_, _], _ => rfl
 have FKw := fun_mk (st := sKw) lKw cKw kKw
 have bKw := FKw.binds (ps := ["self"]) fun _ _ _ _ _ _ u h => match u, h with | [_], _ => rfl
 have gMo := W.mg_of X G aMo
 have gIi := W.mg_of X G aIi
 have gAl := W.mg_of X G aAl
 have gSo := W.mg_of X G aSo
 have gIg := W.mg_of X G aIg
 have gPt := W.mg_of X G aPt
 have gFm := W.mg_of X G aFm
 have gWr := W.mg_of X G aWr
 have gUn := W.mg_of X G aUn
 have gWa := W.mg_of X G aWa
 have gLp := W.mg_of X G aLp
 have gLf := W.mg_of X G aLf
 have gFw := W.mg_of X G aFw
 have gRi := W.mg_of X G aRi
 have gWt := W.mg_of X G aWt
 have gGo := W.mg_of X G aGo
 have gFg := W.mg_of X G aFg
 have gGr := W.mg_of X G aGr
 have gCe := W.mg_of X G aCe
 have gPi := W.mg_of X G aPi
 have gSi := W.mg_of X G aSi
 have gMk := W.mg_of X G aMk
 have gNa := W.mg_of X G aNa
 have gWo := W.mg_of X G aWo
 have gLs := W.mg_of X G aLs
 have gTu := W.mg_of X G aTu
 have gRo := W.mg_of X G aRo
 have gLl := W.mg_of X G aLl
 have gFi := W.mg_of X G aFi
 have gGd := W.mg_of X G aGd
 have gGs := W.mg_of X G aGs
 have gWy := W.mg_of X G aWy
 have gFt := W.mg_of X G aFt
 have mNt : Meth K CN "takes" fNt := ⟨aNt, iNt, kNt⟩
 have mNw : Meth K CN "word" fNw := ⟨aNw, iNw, kNw⟩
 have mAt : Meth K CA "takes" fAt := ⟨aAt, iAt, kAt⟩
 have mAw : Meth K CA "word" fAw := ⟨aAw, iAw, kAw⟩
 have mIt : Meth K CI "takes" fIt := ⟨aIt, iIt, kIt⟩
 have mIw : Meth K CI "word" fIw := ⟨aIw, iIw, kIw⟩
 have mKt : Meth K CK "takes" fKt := ⟨aKt, iKt, kKt⟩
 have mKw : Meth K CK "word" fKw := ⟨aKw, iKw, kKw⟩
 have hset := W.mg_none_of X G zset
 have TT : TS mg := ⟨T.len, W.mg_none_of X G zall, ⟨_, W.mg_of X G qf, _, rfl⟩, ⟨_, W.mg_of X G qs, _, rfl⟩, ⟨_, W.mg_of X G qn, _, rfl⟩, ⟨_, W.mg_of X G qm, _, rfl⟩, ⟨_, W.mg_of X G qa, _, rfl⟩, ⟨_, W.mg_of X G qb, _, rfl⟩, ⟨_, W.mg_of X G qc, _, rfl⟩⟩
 have hmin := W.mg_none_of X G zmin
 have hany := W.mg_none_of X G zany
 have henum := W.mg_none_of X G zenum
 have bGr1 := FGr.binds (ps := ["rows", "most"]) (ds := [.int 2 tkdGr]) fun _ _ _ _ _ _ _ us hl => match us, hl with | [_], _ => ⟨_, rfl, rfl⟩ | [], h => absurd h (by simp) | _ :: _ :: t, h => absurd h (by simp)
 exact ⟨W.fnOf "law" "law" (defArgs sLaw) (defBody sLaw) (defScope sLaw) .none kVZ dcZ pmZ anZ cdZ ctZ, fun s v => .of_eq rfl, fun base _ _ => ok_all FZ T TT hset hmin hany henum ⟨_, W.mg_of X G qu, _, rfl⟩ FSo bSo gSo (sorts_ok TT ⟨MCN, mgCN, clCN, mNt, bNt, mNw, bNw⟩ ⟨MCA, mgCA, clCA, mAt, bAt, mAw, bAw⟩ ⟨MCI, mgCI, clCI, mIt, bIt, mIw, bIw⟩ ⟨MCK, mgCK, clCK, mKt, bKt, mKw, bKw⟩ FNt FNw FAt FAw FIt FIw FKt FKw FMo bMo gMo FIi bIi gIi FAl bAl gAl FSo) FIg bIg gIg FPt bPt gPt FFm bFm gFm FWr bWr gWr FUn bUn gUn FWa bWa gWa FLp bLp gLp FLf bLf gLf FFw bFw gFw FRi bRi gRi FWt bWt gWt FGo bGo gGo FFg bFg gFg FGr bGr gGr bGr1 ⟨_, rfl⟩ FCe bCe gCe FPi bPi gPi FSi bSi gSi FMk bMk gMk FNa bNa gNa FWo bWo gWo FLs bLs gLs FTu bTu gTu FRo bRo gRo FLl bLl gLl FFi bFi gFi FGd bGd gGd FGs bGs gGs FWy bWy gWy FFt bFt gFt⟩
theorem walk {l : W.OpenLaw} {q : Program} {loose : List Str} {XP : (Str → Option Value) → Heap → Prop} {YP : World → Heap → Prop} {d : DefRec} {K : Params → W.Frag} (hn : l.most = some 63) (hdf : d.params.defaults = [])
   (hY : ∀ (w : World) (h : Heap), YP w h → (K w.params).In h)
   (F : ∀ (w : World) (mg : Str → Option Value) (fa : Addr) (h : Heap), (K w.params).In h → h.Ns mainGlobals mg → mg d.name = some (.ref fa) →
     ∃ fd : FuncData, (∀ (s : Shared) (u : Value), BindsTo s fd ⟨[u], []⟩ [("_law_script", u)]) ∧ ∀ base : Heap, (K w.params).In base → base.Ns mainGlobals mg → FnOk l.prog w (K w.params) mg base CX0 21 fa fd ["_law_script"] (spLaw (K w.params))) :
   W.WalkO q loose XP YP l.row.toRowW d [] (fun f vs => PySem.call f vs) :=
 L2.walk_of (n := 63) (k := 21) (x := "_law_script") (CX := fun _ => CX0) (sp := fun w => spLaw (K w.params)) hn (by decide) hdf ⟨rfl, by decide, by decide⟩ hY F (fun _ _ a ns hl _ hS => ⟨a, ns, rfl, hS, hl, fun _ => rfl⟩) fun _ _ _ _ _ z => z
end SL
open PySem PySem.W PyProof.Rows
set_option maxRecDepth 100000 in
set_option maxHeartbeats 0 in
theorem PySem.Challenge.cw_logloom_k13_whole_no_fewer_groups_holds : PySem.Challenge.rw_logloom_k13_whole_no_fewer_groups.Holds := by
 w_on; o_law
 refine PySem.W.holds_open (q := SL.hQ) (loose := [PySem.Str.ofString "groups"]) (Xt := SL.hX)
   (XP := PySem.W.XL SL.hQ [])
   (Yf := (PySem.W.kHook SL.hK SL.hA SL.hE).obs) (Ya := (PySem.W.kHook SL.hK SL.hA SL.hE).val)
   (YP := (PySem.W.kHook SL.hK SL.hA SL.hE).says)
   (N := 5914) SL.hL (PySem.W.kHook SL.hK SL.hA SL.hE).of (PySem.W.kHook SL.hK SL.hA SL.hE).keeps
   (fun s e => PySem.W.xl_of s (Bool.and_eq_true_iff.mp e).1) PySem.W.XL.keeps
   rfl rfl rfl
   (fun s e => PySem.W.recFacts_of (Bool.and_eq_true_iff.mp e).2)
   rfl (by first | assumption | decide +kernel) (by decide +kernel)
   ⟨rfl, rfl, rfl, rfl, rfl, by decide +kernel⟩ ?hw ?hc
 case hw => w_witness2
 k_fill
 refine SL.walk (l := PySem.Challenge.rw_logloom_k13_whole_no_fewer_groups) rfl rfl (fun w h Y => PySem.W.kIn_of Y) ?F
 case F =>
   intro w mg fa h KX G hmg
   refine' SL.all_mk KX G hmg ?aCN ?pgCN ?hdCN ?poCN ?saCN ?mkCN ?kcCN ?haCN ?hmCN ?inCN ?aCA ?pgCA ?hdCA ?poCA ?saCA ?mkCA ?kcCA ?haCA ?hmCA ?inCA ?aCI ?pgCI ?hdCI ?poCI ?saCI ?mkCI ?kcCI ?haCI ?hmCI ?inCI ?aCK ?pgCK ?hdCK ?poCK ?saCK ?mkCK ?kcCK ?haCK ?hmCK ?inCK ?hn ?htk ?aMo ?lMo ?cMo ?kMo ?aIi ?lIi ?cIi ?kIi ?aAl ?lAl ?cAl ?kAl ?aSo ?lSo ?cSo ?kSo ?aIg ?lIg ?cIg ?kIg ?aPt ?lPt ?cPt ?kPt ?aFm ?lFm ?cFm ?kFm ?aWr ?lWr ?cWr ?kWr ?aUn ?lUn ?cUn ?kUn ?aWa ?lWa ?cWa ?kWa ?aLp ?lLp ?cLp ?kLp ?aLf ?lLf ?cLf ?kLf ?aFw ?lFw ?cFw ?kFw ?aRi ?lRi ?cRi ?kRi ?aWt ?lWt ?cWt ?kWt ?aGo ?lGo ?cGo ?kGo ?aFg ?lFg ?cFg ?kFg ?aGr ?lGr ?ddGr ?cGr ?kGr ?aCe ?lCe ?cCe ?kCe ?aPi ?lPi ?cPi ?kPi ?aSi ?lSi ?cSi ?kSi ?aMk ?lMk ?cMk ?kMk ?aNa ?lNa ?cNa ?kNa ?aWo ?lWo ?cWo ?kWo ?aLs ?lLs ?cLs ?kLs ?aTu ?lTu ?cTu ?kTu ?aRo ?lRo ?cRo ?kRo ?aLl ?lLl ?cLl ?kLl ?aFi ?lFi ?cFi ?kFi ?aGd ?lGd ?cGd ?kGd ?aGs ?lGs ?cGs ?kGs ?aWy ?lWy ?cWy ?kWy ?aFt ?lFt ?cFt ?kFt ?aZ ?lZ ?cZ ?kZ ?aNt ?iNt ?lNt ?cNt ?kNt ?aNw ?iNw ?lNw ?cNw ?kNw ?aAt ?iAt ?lAt ?cAt ?kAt ?aAw ?iAw ?lAw ?cAw ?kAw ?aIt ?iIt ?lIt ?cIt ?kIt ?aIw ?iIw ?lIw ?cIw ?kIw ?aKt ?iKt ?lKt ?cKt ?kKt ?aKw ?iKw ?lKw ?cKw ?kKw ?qf ?qs ?qn ?qm ?qa ?qb ?qc ?qu ?zall ?zset ?zmin ?zany ?zenum ?zlen ?zrange ?ztuple ?zisin ?zstr ?zlist
   (case aCN => k_is)
   (case pgCN => k_is)
   (case hdCN => k_is)
   (case poCN => k_is)
   (case saCN => k_is)
   (case mkCN => k_is)
   (case kcCN => k_is)
   (case haCN => k_is)
   (case hmCN => k_is)
   (case inCN => k_is)
   (case aCA => k_is)
   (case pgCA => k_is)
   (case hdCA => k_is)
   (case poCA => k_is)
   (case saCA => k_is)
   (case mkCA => k_is)
   (case kcCA => k_is)
   (case haCA => k_is)
   (case hmCA => k_is)
   (case inCA => k_is)
   (case aCI => k_is)
   (case pgCI => k_is)
   (case hdCI => k_is)
   (case poCI => k_is)
   (case saCI => k_is)
   (case mkCI => k_is)
   (case kcCI => k_is)
   (case haCI => k_is)
   (case hmCI => k_is)
   (case inCI => k_is)
   (case aCK => k_is)
   (case pgCK => k_is)
   (case hdCK => k_is)
   (case poCK => k_is)
   (case saCK => k_is)
   (case mkCK => k_is)
   (case kcCK => k_is)
   (case haCK => k_is)
   (case hmCK => k_is)
   (case inCK => k_is)
   (case hn => k_is)
   (case htk => k_is)
   (case aMo => k_is)
   (case lMo => k_is)
   (case cMo => k_is)
   (case kMo => k_is)
   (case aIi => k_is)
   (case lIi => k_is)
   (case cIi => k_is)
   (case kIi => k_is)
   (case aAl => k_is)
   (case lAl => k_is)
   (case cAl => k_is)
   (case kAl => k_is)
   (case aSo => k_is)
   (case lSo => k_is)
   (case cSo => k_is)
   (case kSo => k_is)
   (case aIg => k_is)
   (case lIg => k_is)
   (case cIg => k_is)
   (case kIg => k_is)
   (case aPt => k_is)
   (case lPt => k_is)
   (case cPt => k_is)
   (case kPt => k_is)
   (case aFm => k_is)
   (case lFm => k_is)
   (case cFm => k_is)
   (case kFm => k_is)
   (case aWr => k_is)
   (case lWr => k_is)
   (case cWr => k_is)
   (case kWr => k_is)
   (case aUn => k_is)
   (case lUn => k_is)
   (case cUn => k_is)
   (case kUn => k_is)
   (case aWa => k_is)
   (case lWa => k_is)
   (case cWa => k_is)
   (case kWa => k_is)
   (case aLp => k_is)
   (case lLp => k_is)
   (case cLp => k_is)
   (case kLp => k_is)
   (case aLf => k_is)
   (case lLf => k_is)
   (case cLf => k_is)
   (case kLf => k_is)
   (case aFw => k_is)
   (case lFw => k_is)
   (case cFw => k_is)
   (case kFw => k_is)
   (case aRi => k_is)
   (case lRi => k_is)
   (case cRi => k_is)
   (case kRi => k_is)
   (case aWt => k_is)
   (case lWt => k_is)
   (case cWt => k_is)
   (case kWt => k_is)
   (case aGo => k_is)
   (case lGo => k_is)
   (case cGo => k_is)
   (case kGo => k_is)
   (case aFg => k_is)
   (case lFg => k_is)
   (case cFg => k_is)
   (case kFg => k_is)
   (case aGr => k_is)
   (case lGr => k_is)
   (case ddGr => k_is)
   (case cGr => k_is)
   (case kGr => k_is)
   (case aCe => k_is)
   (case lCe => k_is)
   (case cCe => k_is)
   (case kCe => k_is)
   (case aPi => k_is)
   (case lPi => k_is)
   (case cPi => k_is)
   (case kPi => k_is)
   (case aSi => k_is)
   (case lSi => k_is)
   (case cSi => k_is)
   (case kSi => k_is)
   (case aMk => k_is)
   (case lMk => k_is)
   (case cMk => k_is)
   (case kMk => k_is)
   (case aNa => k_is)
   (case lNa => k_is)
   (case cNa => k_is)
   (case kNa => k_is)
   (case aWo => k_is)
   (case lWo => k_is)
   (case cWo => k_is)
   (case kWo => k_is)
   (case aLs => k_is)
   (case lLs => k_is)
   (case cLs => k_is)
   (case kLs => k_is)
   (case aTu => k_is)
   (case lTu => k_is)
   (case cTu => k_is)
   (case kTu => k_is)
   (case aRo => k_is)
   (case lRo => k_is)
   (case cRo => k_is)
   (case kRo => k_is)
   (case aLl => k_is)
   (case lLl => k_is)
   (case cLl => k_is)
   (case kLl => k_is)
   (case aFi => k_is)
   (case lFi => k_is)
   (case cFi => k_is)
   (case kFi => k_is)
   (case aGd => k_is)
   (case lGd => k_is)
   (case cGd => k_is)
   (case kGd => k_is)
   (case aGs => k_is)
   (case lGs => k_is)
   (case cGs => k_is)
   (case kGs => k_is)
   (case aWy => k_is)
   (case lWy => k_is)
   (case cWy => k_is)
   (case kWy => k_is)
   (case aFt => k_is)
   (case lFt => k_is)
   (case cFt => k_is)
   (case kFt => k_is)
   (case aZ => k_is)
   (case lZ => k_is)
   (case cZ => k_is)
   (case kZ => k_is)
   (case aNt => k_is)
   (case iNt => k_is)
   (case lNt => k_is)
   (case cNt => k_is)
   (case kNt => k_is)
   (case aNw => k_is)
   (case iNw => k_is)
   (case lNw => k_is)
   (case cNw => k_is)
   (case kNw => k_is)
   (case aAt => k_is)
   (case iAt => k_is)
   (case lAt => k_is)
   (case cAt => k_is)
   (case kAt => k_is)
   (case aAw => k_is)
   (case iAw => k_is)
   (case lAw => k_is)
   (case cAw => k_is)
   (case kAw => k_is)
   (case aIt => k_is)
   (case iIt => k_is)
   (case lIt => k_is)
   (case cIt => k_is)
   (case kIt => k_is)
   (case aIw => k_is)
   (case iIw => k_is)
   (case lIw => k_is)
   (case cIw => k_is)
   (case kIw => k_is)
   (case aKt => k_is)
   (case iKt => k_is)
   (case lKt => k_is)
   (case cKt => k_is)
   (case kKt => k_is)
   (case aKw => k_is)
   (case iKw => k_is)
   (case lKw => k_is)
   (case cKw => k_is)
   (case kKw => k_is)
   (case qf => k_is)
   (case qs => k_is)
   (case qn => k_is)
   (case qm => k_is)
   (case qa => k_is)
   (case qb => k_is)
   (case qc => k_is)
   (case qu => k_is)
   (case zall => k_is)
   (case zset => k_is)
   (case zmin => k_is)
   (case zany => k_is)
   (case zenum => k_is)
   (case zlen => k_is)
   (case zrange => k_is)
   (case ztuple => k_is)
   (case zisin => k_is)
   (case zstr => k_is)
   (case zlist => k_is)
