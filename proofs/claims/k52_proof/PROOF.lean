import PyProof.Rows.All
import Wide.All
import OpenK.AllK
import Wide.FinOn
import Lean
import PyProof.EqAt
import PyProof.EqKinds
import PyProof.TupleCall
import PySem.Challenge.RW_logloom_k52_questions_refused
set_option Elab.async false
set_option linter.all false
set_option maxRecDepth 100000
namespace HT
open PySem PySem.W
abbrev annR:Option Value:=some (.ref 6)
noncomputable abbrev okQ:Thread->Bool:=Fast.tw6613529449190102663 11 annR
noncomputable abbrev stQ (p:Program) (w:World):SharedT->Thread->Option (SharedT×Thread):=
 Fast.tw10156331382660048174 (Fast.tw11892475500146522536 Fast.tw14364793385576792824) p w
noncomputable def runQ (p:Program) (w:World):Nat->SharedT->Thread->Option SharedT
 |0,_,_=>none
 |fuel+1,a,th=>@Bool.rec (fun _=>Option SharedT)
   (@Bool.rec (fun _=>Option SharedT) none (@Option.rec (SharedT×Thread) (fun _=>Option SharedT) none (fun r=>runQ p w fuel r.1 r.2) (stQ p w a th)) (okQ th))
   (some a) (through th)
theorem okQ_is (th:Thread):okQ th=stepOk 11 annR th:=by
 show Fast.tw6613529449190102663 11 annR th=_
 rw[<- Fast.te6613529449190102663]
theorem stQ_is (p:Program)(w:World)(a:SharedT)(th:Thread):stQ p w a th=stepT (denote treeTable) p w a th:=by
 show Fast.tw10156331382660048174 (Fast.tw11892475500146522536 Fast.tw14364793385576792824) p w a th=_
 rw[<- Fast.te10156331382660048174,<- Fast.te11892475500146522536,<- Fast.te14364793385576792824]
theorem runQ_top {p:Program}{w:World}:∀(fuel:Nat) (a b:SharedT) (th:Thread),
  runQ p w fuel a th=some b->topRun treeTable p w 11 annR fuel a.abs th=some b.abs
 |0,_,_,_,e=>by cases e
 |fuel+1,a,b,th,e=>by
  unfold runQ at e
  unfold topRun
  rw[okQ_is,stQ_is] at e
  cases e1:through th
  ·rw[e1] at e
   cases e2:stepOk 11 annR th
   ·rw[e2] at e;cases e
   ·rw[e2] at e
    cases e3:stepT (denote treeTable) p w a th with
    |none=>rw[e3] at e;cases e
    |some r=>
     rw[e3] at e
     have e4:=stepT_spec (s':=r.1) (t':=r.2) e3
     rw[e4]
     exact runQ_top fuel r.1 b r.2 e
  ·rw[e1] at e
   have:a=b:=Option.some.inj e
   rw[this]
noncomputable def bT (P:Params):BT:=
 .node (boot_o_0 P)
  (.node (boot_o_1 P) (.node (boot_o_3 P) (.node (boot_o_7 P) .nil .nil) .nil) (.node (boot_o_5 P) (.node (boot_o_9 P) .nil .nil) .nil))
  (.node (boot_o_2 P) (.node (boot_o_4 P) (.node (boot_o_8 P) .nil .nil) .nil) (.node (boot_o_6 P) (.node (boot_o_10 P) .nil .nil) .nil))
theorem bT_boot:∀P,boot_heap P=absHeap (bT P) 11 {}:=fun P=>by kernel_rfl
noncomputable abbrev at0 (w:World) (os:OsState):SharedT:=⟨bT w.params,11,{},Array.mk [],boot_drawn,boot_toks,os⟩
theorem at0_abs (w:World)(os:OsState):(at0 w os).abs=⟨boot_heap w.params,Array.mk [],boot_drawn,boot_toks,os⟩:=by
 rw[bT_boot];rfl
theorem boot_looks:∀P:Params,(((boot_heap P).isNs mainGlobals&&(#[]:Array GenState).size==0)=true/\(boot_heap P).objs.size=11)∧
  (boot_heap P).nsMap mainGlobals "__annotations__"=annR:=fun P=>⟨⟨by kernel_rfl,by kernel_rfl⟩,by kernel_rfl⟩
noncomputable abbrev kept (p:Program) (P:Params) (b:Shared):Bool:=
 staticsOk (importedModules p.main.body) (boot_heap P) b.heap&&namesBound p b.heap&&gensDone b&&laidKept (boot_heap P) b.heap
theorem left1 {p q:Program}{loose:List Str}{Xt:Shared->Bool}{α:Type}{Yf:Shared->α}{Ya:World->α}{N:Nat}{g0:Bool}
  (e:opening p=plainProg p.main.scope.names) (hN:Nat.ble 600 N=true) (f:∀s,fenceModules? p s=some s)
  (run:∀(w:World) (os:OsState),(runQ p w N (at0 w os) (topStub p)).map (fun b=>
   (kept p w.params b.abs,Fast.tw4187177175401517315 q loose (importedModules p.main.body) Xt g0 b.abs,Yf b.abs))=some (true,openGood q loose,Ya w)):
  LeftO p q loose Xt Yf Ya N g0:=by
 intro w
 obtain⟨⟨hp,gs,d,k,os⟩,o1,o2⟩:=Option.map_eq_some_iff.mp (boot_open e hN f w)
 obtain⟨rfl,rfl,rfl,rfl⟩:hp=boot_heap w.params/\gs=Array.mk []/\d=boot_drawn/\k=boot_toks:=by
  simpa using o2
 obtain⟨⟨z1,z2⟩,z3⟩:=boot_looks w.params
 have r:=run w os
 rw[<- Fast.te4187177175401517315] at r
 obtain⟨b,r1,r2⟩:=Option.map_eq_some_iff.mp r
 rw[Prod.mk.injEq,Prod.mk.injEq] at r2
 have r3:=runQ_top N _ b _ r1
 rw[at0_abs] at r3
 have r4:topFrom treeTable p w N ⟨boot_heap w.params,Array.mk [],boot_drawn,boot_toks,os⟩=some b.abs:=by
  have k1:kept p w.params b.abs=true:=r2.1
  unfold kept at k1
  unfold topFrom
  simp only[z1,z2,z3,r3,Option.bind_some,k1]
 have r5:openEnds treeTable p w N=some b.abs:=by
  unfold openEnds
  simp only[o1,Option.bind_some,r4]
 rw[r5]
 exact congrArg some (by rw[<- r2.2.1,<- r2.2.2])
theorem left3 {p q:Program}{loose:List Str}{Xt:Shared->Bool}{α:Type}{Yf:Shared->α}{Ya:World->α}{N:Nat}{g0:Bool}(e:opening p=plainProg p.main.scope.names)(hN:Nat.ble 600 N=true)(f:∀s,fenceModules? p s=some s)
 (r1:∀(w:World) (os:OsState),(runQ p w N (at0 w os) (topStub p)).map (fun b=>kept p w.params b.abs)=some true)
 (r2:∀(w:World) (os:OsState),(runQ p w N (at0 w os) (topStub p)).map (fun b=>Fast.tw4187177175401517315 q loose (importedModules p.main.body) Xt g0 b.abs)=some (openGood q loose))
 (r3:∀(w:World) (os:OsState),(runQ p w N (at0 w os) (topStub p)).map (fun b=>Yf b.abs)=some (Ya w)):LeftO p q loose Xt Yf Ya N g0:=
 left1 e hN f fun w os=>by
 obtain⟨b,e1,e2⟩:=Option.map_eq_some_iff.mp (r1 w os)
 have h2:=r2 w os
 have h3:=r3 w os
 rw[e1] at h2 h3 ⊢
 exact congrArg some (Prod.ext e2 (Prod.ext (Option.some.inj h2) (Option.some.inj h3)))
end HT
namespace L2
open PySem
def inClass (s:Stmt)(j:Nat):Stmt:=match s with
 |.ClassDef _ _ _ body _ _ _ _ _ _ _=>body.getD j (.Pass ⟨0,0,0,0⟩)
 |_=>.Pass ⟨0,0,0,0⟩
def defArgs (s:Stmt):Arguments:=match s with
 |.FunctionDef _ a _ _ _ _ _ _ _ _=>a
 |_=>{ posonlyargs:=[],args:=[],vararg:=none,kwonlyargs:=[],kw_defaults:=[],kwarg:=none,defaults:=[] }
def defBody (s:Stmt):List Stmt:=match s with
 |.FunctionDef _ _ b _ _ _ _ _ _ _=>b
 |_=>[]
def defScope (s:Stmt):Scope:=match s with
 |.FunctionDef _ _ _ _ _ _ sc _ _ _=>sc
 |_=>{ kind:=.function,names:=[],isGenerator:=false,isCoroutine:=false }
end L2
namespace SL
open PySem L2
def top (i:Nat):Stmt:=PySem.Challenge.pw_logloom_k52_questions_refused.main.body.getD i (.Pass ⟨0,0,0,0⟩)
abbrev sMo:Stmt:=top 27
abbrev sNw:Stmt:=inClass (top 29) 0
abbrev sNt:Stmt:=inClass (top 29) 1
abbrev sAw:Stmt:=inClass (top 30) 0
abbrev sAt:Stmt:=inClass (top 30) 1
abbrev sIw:Stmt:=inClass (top 31) 0
abbrev sIt:Stmt:=inClass (top 31) 1
abbrev sKw:Stmt:=inClass (top 32) 0
abbrev sKt:Stmt:=inClass (top 32) 1
abbrev sIi:Stmt:=top 33
abbrev sAl:Stmt:=top 34
abbrev sSo:Stmt:=top 35
end SL
namespace QL
open PySem L2
def top (i:Nat):Stmt:=PySem.Challenge.pw_logloom_k52_questions_refused.main.body.getD i (.Pass ⟨0,0,0,0⟩)
abbrev sXq:Stmt:=inClass (top 7) 0
abbrev sRi:Stmt:=inClass (top 10) 0
abbrev sWi:Stmt:=inClass (top 11) 0
abbrev sHi:Stmt:=inClass (top 12) 0
abbrev sAi:Stmt:=inClass (top 13) 0
abbrev sTi:Stmt:=inClass (top 14) 0
abbrev sJi:Stmt:=inClass (top 15) 0
abbrev sNi:Stmt:=inClass (top 18) 0
abbrev sMd:Stmt:=top 41
abbrev sVo:Stmt:=top 42
abbrev sPi:Stmt:=top 43
abbrev sPt:Stmt:=top 44
abbrev sQt:Stmt:=top 45
abbrev sQo:Stmt:=top 46
abbrev sCe:Stmt:=top 48
abbrev sMi:Stmt:=top 49
abbrev sPo:Stmt:=top 50
abbrev sLe:Stmt:=top 51
abbrev sCo:Stmt:=top 52
abbrev sSh:Stmt:=top 53
abbrev sNr:Stmt:=top 54
abbrev sGw:Stmt:=top 55
abbrev sTe:Stmt:=top 56
abbrev sOp:Stmt:=top 57
abbrev sCh:Stmt:=top 58
abbrev sLm:Stmt:=top 59
abbrev sLi:Stmt:=top 60
abbrev sLw:Stmt:=top 61
abbrev sLn:Stmt:=top 62
abbrev sLo:Stmt:=top 63
abbrev sDu:Stmt:=top 64
abbrev sLr:Stmt:=top 65
abbrev sLaw:Stmt:=top 66
abbrev pGap:Str:="_law_gap"
end QL
namespace QL
open PySem L2
abbrev tu0:Obj:={cls:=.type "tuple",data:=.seq #[]}
def hK:PySem.Params->W.Frag:=fun P=>
 (nat_lit 2,{cls:=.none,data:=.dict #[]})::
 (nat_lit 3,{cls:=.type "dict",data:=.dict #[⟨PyData.keyHash P "__name__",.str "__name__" 165,.str "law_logloom_k52_questions_refused" 1062⟩,⟨PyData.keyHash P "__doc__",.str "__doc__" 166,.none⟩,⟨PyData.keyHash P "__package__",.str "__package__" 167,.none⟩,⟨PyData.keyHash P "__loader__",.str "__loader__" 168,.builtin "__main__.__loader__#opaque"⟩,⟨PyData.keyHash P "__spec__",.str "__spec__" 169,.none⟩,⟨PyData.keyHash P "__annotations__",.str "__annotations__" 170,.ref 6⟩,⟨PyData.keyHash P "__builtins__",.str "__builtins__" 171,.ref 4⟩,⟨PyData.keyHash P "__file__",.str "__file__" 173,.str "/claim/cut.py" 172⟩,⟨PyData.keyHash P "__cached__",.str "__cached__" 174,.none⟩,⟨PyData.keyHash P "_wall",.str "_wall" 193,.ref 21⟩,⟨PyData.keyHash P "LoomError",.str "LoomError" 213,.ref 31⟩,⟨PyData.keyHash P "NoRow",.str "NoRow" 238,.ref 51⟩,⟨PyData.keyHash P "NoFit",.str "NoFit" 263,.ref 70⟩,⟨PyData.keyHash P "NoGap",.str "NoGap" 288,.ref 89⟩,⟨PyData.keyHash P "NoForm",.str "NoForm" 313,.ref 108⟩,⟨PyData.keyHash P "NoQuestion",.str "NoQuestion" 338,.ref 127⟩,⟨PyData.keyHash P "Question",.str "Question" 383,.ref 160⟩,⟨PyData.keyHash P "Row",.str "Row" 417,.ref 188⟩,⟨PyData.keyHash P "With",.str "With" 454,.ref 214⟩,⟨PyData.keyHash P "Behind",.str "Behind" 501,.ref 247⟩,⟨PyData.keyHash P "Ahead",.str "Ahead" 548,.ref 280⟩,⟨PyData.keyHash P "Times",.str "Times" 600,.ref 320⟩,⟨PyData.keyHash P "Joint",.str "Joint" 641,.ref 353⟩,⟨PyData.keyHash P "Both",.str "Both" 666,.ref 372⟩,⟨PyData.keyHash P "Either",.str "Either" 691,.ref 391⟩,⟨PyData.keyHash P "Not",.str "Not" 739,.ref 431⟩,⟨PyData.keyHash P "FIGURES",.str "FIGURES" 743,.str "0123456789" 742⟩,⟨PyData.keyHash P "SMALL_LETTERS",.str "SMALL_LETTERS" 745,.str "abcdefghijklmnopqrstuvwxyz" 744⟩,⟨PyData.keyHash P "NAME_SIGNS",.str "NAME_SIGNS" 747,.str "abcdefghijklmnopqrstuvwxyz0123456789" 746⟩,⟨PyData.keyHash P "MARK_SIGNS",.str "MARK_SIGNS" 749,.str "abcdefghijklmnopqrstuvwxyzABCDEFGHIJKLMNOPQRSTUVWXYZ0123456789.:-_/=" 748⟩,⟨PyData.keyHash P "MOST_FIGURES",.str "MOST_FIGURES" 751,.int 9 750⟩,⟨PyData.keyHash P "MOST_SIGNS",.str "MOST_SIGNS" 753,.int 12 752⟩,⟨PyData.keyHash P "MOST_ITEMS",.str "MOST_ITEMS" 755,.int 4 754⟩,⟨PyData.keyHash P "made_of",.str "made_of" 761,.ref 438⟩,⟨PyData.keyHash P "Sort",.str "Sort" 796,.ref 462⟩,⟨PyData.keyHash P "Number",.str "Number" 827,.ref 490⟩,⟨PyData.keyHash P "Name",.str "Name" 858,.ref 516⟩,⟨PyData.keyHash P "Items",.str "Items" 887,.ref 540⟩,⟨PyData.keyHash P "Mark",.str "Mark" 918,.ref 566⟩,⟨PyData.keyHash P "is_item",.str "is_item" 925,.ref 575⟩,⟨PyData.keyHash P "all_sorts",.str "all_sorts" 931,.ref 582⟩,⟨PyData.keyHash P "sort_of",.str "sort_of" 939,.ref 589⟩,⟨PyData.keyHash P "MOST_PIECES",.str "MOST_PIECES" 943,.int 40 942⟩,⟨PyData.keyHash P "KINDS",.str "KINDS" 982,.ref 590⟩,⟨PyData.keyHash P "LEAST",.str "LEAST" 992,.ref 599⟩,⟨PyData.keyHash P "GREATEST",.str "GREATEST" 1002,.ref 600⟩,⟨PyData.keyHash P "made",.str "made" 1010,.ref 607⟩,⟨PyData.keyHash P "value_of",.str "value_of" 1019,.ref 614⟩,⟨PyData.keyHash P "piece_at",.str "piece_at" 1027,.ref 621⟩,⟨PyData.keyHash P "part_at",.str "part_at" 1038,.ref 628⟩,⟨PyData.keyHash P "question_at",.str "question_at" 1052,.ref 635⟩,⟨PyData.keyHash P "question_of",.str "question_of" 1061,.ref 642⟩,⟨PyData.keyHash P "_law_cell_at",.str "_law_cell_at" 1071,.ref 649⟩,⟨PyData.keyHash P "_law_mix",.str "_law_mix" 1079,.ref 656⟩,⟨PyData.keyHash P "_law_pool",.str "_law_pool" 1095,.ref 663⟩,⟨PyData.keyHash P "_law_letters",.str "_law_letters" 1103,.ref 670⟩,⟨PyData.keyHash P "_law_count",.str "_law_count" 1111,.ref 677⟩,⟨PyData.keyHash P "_law_short",.str "_law_short" 1124,.ref 684⟩,⟨PyData.keyHash P "_law_nearer",.str "_law_nearer" 1132,.ref 691⟩,⟨PyData.keyHash P "_law_grown",.str "_law_grown" 1146,.ref 698⟩,⟨PyData.keyHash P "_law_text",.str "_law_text" 1155,.ref 705⟩,⟨PyData.keyHash P "_law_odd_piece",.str "_law_odd_piece" 1164,.ref 712⟩,⟨PyData.keyHash P "_law_changed",.str "_law_changed" 1177,.ref 719⟩,⟨PyData.keyHash P "_law_made_of",.str "_law_made_of" 1183,.ref 724⟩,⟨PyData.keyHash P "_law_is_item",.str "_law_is_item" 1191,.ref 731⟩,⟨PyData.keyHash P "_law_is_word",.str "_law_is_word" 1197,.ref 736⟩,⟨PyData.keyHash P "_law_wanted",.str "_law_wanted" 1205,.ref 743⟩,⟨PyData.keyHash P "_law_goes",.str "_law_goes" 1211,.ref 748⟩,⟨PyData.keyHash P "_law_due",.str "_law_due" 1221,.ref 755⟩,⟨PyData.keyHash P "_law_right",.str "_law_right" 1234,.ref 762⟩,⟨PyData.keyHash P "law",.str "law" 1240,.ref 767⟩] 71})::
 (nat_lit 15,tu0)::
 (nat_lit 17,{cls:=.type "tuple",data:=.seq #[.str "k" 190]})::
 (nat_lit 18,tu0)::
 (nat_lit 20,{cls:=.type "code",data:=.fields #[.str "_wall" 187,.str "_wall" 188,.str "/claim/cut.py" 189,.int 1 0,.int 1 0,.int 0 0,.int 0 0,.int 3 0,.ref 15,.bool true,.int 181 0,.ref 16,.none,.ref 17,.ref 18,.ref 19,.int 191 0,.int 1 0,.str "/claim/cut.py" 192]})::
 (nat_lit 21,⟨(.type "function"),none,.func (W.fnOf "_wall" "_wall" (defArgs (top 0)) (defBody (top 0)) (defScope (top 0)) .none .none .none (.str "__main__" 164) none (.ref 20) .none),#[]⟩)::
 (nat_lit 22,{cls:=.type "tuple",data:=.seq #[.type "ValueError"]})::
 (nat_lit 29,tu0)::
 (nat_lit 30,{cls:=.type "dict",data:=.dict #[⟨PyData.keyHash P "__module__",.str "__module__" 203,.str "logloom.errors" 194⟩,⟨PyData.keyHash P "__firstlineno__",.str "__firstlineno__" 207,.int 5 206⟩,⟨PyData.keyHash P "__static_attributes__",.str "__static_attributes__" 208,.ref 29⟩,⟨PyData.keyHash P "__weakref__",.str "__weakref__" 210,.ref 32⟩,⟨PyData.keyHash P "__doc__",.str "__doc__" 211,.none⟩] 3})::
 (nat_lit 31,{cls:=.type "type",data:=Data.cls { name:=Str.ofString "LoomError",bases:=[.type "ValueError"],mro:=[.ref 31,.type "ValueError",.type "Exception",.type "BaseException",.type "object"],ns:=30,qualname:=Str.ofString "LoomError",subclasses:=[.ref 51,.ref 70,.ref 89,.ref 108,.ref 127]},slots:=#[some (.ref 22),none,some (.str "LoomError" 196),some (.str "LoomError" 204),some (.builtin "ValueError.__new__"),some (.bool true)]})::
 (nat_lit 32,{cls:=.type "getset_descriptor",data:=.fields #[.str "__weakref__" 209,.ref 31,.builtin "ExceptionGroup.__weakref__",.none]})::
 (nat_lit 35,{cls:=.type "tuple",data:=.seq #[.ref 31]})::
 (nat_lit 42,tu0)::
 (nat_lit 44,{cls:=.type "tuple",data:=.seq #[.str "self" 229,.str "at" 230]})::
 (nat_lit 45,tu0)::
 (nat_lit 47,{cls:=.type "code",data:=.fields #[.str "__init__" 226,.str "NoRow.__init__" 227,.str "/claim/cut.py" 228,.int 9 0,.int 2 0,.int 0 0,.int 0 0,.int 3 0,.ref 42,.bool true,.int 181 0,.ref 43,.none,.ref 44,.ref 45,.ref 46,.int 231 0,.int 9 0,.str "/claim/cut.py" 232]})::
 (nat_lit 48,⟨(.type "function"),none,.func (W.fnOf "__init__" "NoRow.__init__" (defArgs (inClass (top 3) 0)) (defBody (inClass (top 3) 0)) (defScope (inClass (top 3) 0)) .none .none .none (.str "logloom.errors" 194) none (.ref 47) .none),#[]⟩)::
 (nat_lit 49,{cls:=.type "tuple",data:=.seq #[.str "at" 234]})::
 (nat_lit 50,{cls:=.type "dict",data:=.dict #[⟨PyData.keyHash P "__module__",.str "__module__" 221,.str "logloom.errors" 194⟩,⟨PyData.keyHash P "__firstlineno__",.str "__firstlineno__" 225,.int 7 224⟩,⟨PyData.keyHash P "__init__",.str "__init__" 233,.ref 48⟩,⟨PyData.keyHash P "__static_attributes__",.str "__static_attributes__" 235,.ref 49⟩,⟨PyData.keyHash P "__doc__",.str "__doc__" 236,.none⟩] 2})::
 (nat_lit 51,{cls:=.type "type",data:=Data.cls { name:=Str.ofString "NoRow",bases:=[.ref 31],mro:=[.ref 51,.ref 31,.type "ValueError",.type "Exception",.type "BaseException",.type "object"],ns:=50,qualname:=Str.ofString "NoRow"},slots:=#[some (.ref 35),none,some (.str "NoRow" 214),some (.str "NoRow" 222),some (.builtin "ValueError.__new__"),some (.bool true)]})::
 (nat_lit 54,{cls:=.type "tuple",data:=.seq #[.ref 31]})::
 (nat_lit 61,tu0)::
 (nat_lit 63,{cls:=.type "tuple",data:=.seq #[.str "self" 254,.str "at" 255]})::
 (nat_lit 64,tu0)::
 (nat_lit 66,{cls:=.type "code",data:=.fields #[.str "__init__" 251,.str "NoFit.__init__" 252,.str "/claim/cut.py" 253,.int 13 0,.int 2 0,.int 0 0,.int 0 0,.int 3 0,.ref 61,.bool true,.int 181 0,.ref 62,.none,.ref 63,.ref 64,.ref 65,.int 256 0,.int 13 0,.str "/claim/cut.py" 257]})::
 (nat_lit 67,⟨(.type "function"),none,.func (W.fnOf "__init__" "NoFit.__init__" (defArgs (inClass (top 4) 0)) (defBody (inClass (top 4) 0)) (defScope (inClass (top 4) 0)) .none .none .none (.str "logloom.errors" 194) none (.ref 66) .none),#[]⟩)::
 (nat_lit 68,{cls:=.type "tuple",data:=.seq #[.str "at" 259]})::
 (nat_lit 69,{cls:=.type "dict",data:=.dict #[⟨PyData.keyHash P "__module__",.str "__module__" 246,.str "logloom.errors" 194⟩,⟨PyData.keyHash P "__firstlineno__",.str "__firstlineno__" 250,.int 11 249⟩,⟨PyData.keyHash P "__init__",.str "__init__" 258,.ref 67⟩,⟨PyData.keyHash P "__static_attributes__",.str "__static_attributes__" 260,.ref 68⟩,⟨PyData.keyHash P "__doc__",.str "__doc__" 261,.none⟩] 2})::
 (nat_lit 70,{cls:=.type "type",data:=Data.cls { name:=Str.ofString "NoFit",bases:=[.ref 31],mro:=[.ref 70,.ref 31,.type "ValueError",.type "Exception",.type "BaseException",.type "object"],ns:=69,qualname:=Str.ofString "NoFit"},slots:=#[some (.ref 54),none,some (.str "NoFit" 239),some (.str "NoFit" 247),some (.builtin "ValueError.__new__"),some (.bool true)]})::
 (nat_lit 73,{cls:=.type "tuple",data:=.seq #[.ref 31]})::
 (nat_lit 80,tu0)::
 (nat_lit 82,{cls:=.type "tuple",data:=.seq #[.str "self" 279,.str "at" 280]})::
 (nat_lit 83,tu0)::
 (nat_lit 85,{cls:=.type "code",data:=.fields #[.str "__init__" 276,.str "NoGap.__init__" 277,.str "/claim/cut.py" 278,.int 17 0,.int 2 0,.int 0 0,.int 0 0,.int 3 0,.ref 80,.bool true,.int 181 0,.ref 81,.none,.ref 82,.ref 83,.ref 84,.int 281 0,.int 17 0,.str "/claim/cut.py" 282]})::
 (nat_lit 86,⟨(.type "function"),none,.func (W.fnOf "__init__" "NoGap.__init__" (defArgs (inClass (top 5) 0)) (defBody (inClass (top 5) 0)) (defScope (inClass (top 5) 0)) .none .none .none (.str "logloom.errors" 194) none (.ref 85) .none),#[]⟩)::
 (nat_lit 87,{cls:=.type "tuple",data:=.seq #[.str "at" 284]})::
 (nat_lit 88,{cls:=.type "dict",data:=.dict #[⟨PyData.keyHash P "__module__",.str "__module__" 271,.str "logloom.errors" 194⟩,⟨PyData.keyHash P "__firstlineno__",.str "__firstlineno__" 275,.int 15 274⟩,⟨PyData.keyHash P "__init__",.str "__init__" 283,.ref 86⟩,⟨PyData.keyHash P "__static_attributes__",.str "__static_attributes__" 285,.ref 87⟩,⟨PyData.keyHash P "__doc__",.str "__doc__" 286,.none⟩] 2})::
 (nat_lit 89,{cls:=.type "type",data:=Data.cls { name:=Str.ofString "NoGap",bases:=[.ref 31],mro:=[.ref 89,.ref 31,.type "ValueError",.type "Exception",.type "BaseException",.type "object"],ns:=88,qualname:=Str.ofString "NoGap"},slots:=#[some (.ref 73),none,some (.str "NoGap" 264),some (.str "NoGap" 272),some (.builtin "ValueError.__new__"),some (.bool true)]})::
 (nat_lit 92,{cls:=.type "tuple",data:=.seq #[.ref 31]})::
 (nat_lit 99,tu0)::
 (nat_lit 101,{cls:=.type "tuple",data:=.seq #[.str "self" 304,.str "at" 305]})::
 (nat_lit 102,tu0)::
 (nat_lit 104,{cls:=.type "code",data:=.fields #[.str "__init__" 301,.str "NoForm.__init__" 302,.str "/claim/cut.py" 303,.int 21 0,.int 2 0,.int 0 0,.int 0 0,.int 3 0,.ref 99,.bool true,.int 181 0,.ref 100,.none,.ref 101,.ref 102,.ref 103,.int 306 0,.int 21 0,.str "/claim/cut.py" 307]})::
 (nat_lit 105,⟨(.type "function"),none,.func (W.fnOf "__init__" "NoForm.__init__" (defArgs (inClass (top 6) 0)) (defBody (inClass (top 6) 0)) (defScope (inClass (top 6) 0)) .none .none .none (.str "logloom.errors" 194) none (.ref 104) .none),#[]⟩)::
 (nat_lit 106,{cls:=.type "tuple",data:=.seq #[.str "at" 309]})::
 (nat_lit 107,{cls:=.type "dict",data:=.dict #[⟨PyData.keyHash P "__module__",.str "__module__" 296,.str "logloom.errors" 194⟩,⟨PyData.keyHash P "__firstlineno__",.str "__firstlineno__" 300,.int 19 299⟩,⟨PyData.keyHash P "__init__",.str "__init__" 308,.ref 105⟩,⟨PyData.keyHash P "__static_attributes__",.str "__static_attributes__" 310,.ref 106⟩,⟨PyData.keyHash P "__doc__",.str "__doc__" 311,.none⟩] 2})::
 (nat_lit 108,{cls:=.type "type",data:=Data.cls { name:=Str.ofString "NoForm",bases:=[.ref 31],mro:=[.ref 108,.ref 31,.type "ValueError",.type "Exception",.type "BaseException",.type "object"],ns:=107,qualname:=Str.ofString "NoForm"},slots:=#[some (.ref 92),none,some (.str "NoForm" 289),some (.str "NoForm" 297),some (.builtin "ValueError.__new__"),some (.bool true)]})::
 (nat_lit 111,{cls:=.type "tuple",data:=.seq #[.ref 31]})::
 (nat_lit 118,tu0)::
 (nat_lit 120,{cls:=.type "tuple",data:=.seq #[.str "self" 329,.str "at" 330]})::
 (nat_lit 121,tu0)::
 (nat_lit 123,{cls:=.type "code",data:=.fields #[.str "__init__" 326,.str "NoQuestion.__init__" 327,.str "/claim/cut.py" 328,.int 25 0,.int 2 0,.int 0 0,.int 0 0,.int 3 0,.ref 118,.bool true,.int 181 0,.ref 119,.none,.ref 120,.ref 121,.ref 122,.int 331 0,.int 25 0,.str "/claim/cut.py" 332]})::
 (nat_lit 124,⟨(.type "function"),none,.func (W.fnOf "__init__" "NoQuestion.__init__" (defArgs (inClass (top 7) 0)) (defBody (inClass (top 7) 0)) (defScope (inClass (top 7) 0)) .none .none .none (.str "logloom.errors" 194) none (.ref 123) .none),#[]⟩)::
 (nat_lit 125,{cls:=.type "tuple",data:=.seq #[.str "at" 334]})::
 (nat_lit 126,{cls:=.type "dict",data:=.dict #[⟨PyData.keyHash P "__module__",.str "__module__" 321,.str "logloom.errors" 194⟩,⟨PyData.keyHash P "__firstlineno__",.str "__firstlineno__" 325,.int 23 324⟩,⟨PyData.keyHash P "__init__",.str "__init__" 333,.ref 124⟩,⟨PyData.keyHash P "__static_attributes__",.str "__static_attributes__" 335,.ref 125⟩,⟨PyData.keyHash P "__doc__",.str "__doc__" 336,.none⟩] 2})::
 (nat_lit 127,{cls:=.type "type",data:=Data.cls { name:=Str.ofString "NoQuestion",bases:=[.ref 31],mro:=[.ref 127,.ref 31,.type "ValueError",.type "Exception",.type "BaseException",.type "object"],ns:=126,qualname:=Str.ofString "NoQuestion"},slots:=#[some (.ref 111),none,some (.str "NoQuestion" 314),some (.str "NoQuestion" 322),some (.builtin "ValueError.__new__"),some (.bool true)]})::
 (nat_lit 137,tu0)::
 (nat_lit 139,{cls:=.type "tuple",data:=.seq #[.str "self" 356]})::
 (nat_lit 140,tu0)::
 (nat_lit 142,{cls:=.type "code",data:=.fields #[.str "back" 353,.str "Question.back" 354,.str "/claim/cut.py" 355,.int 30 0,.int 1 0,.int 0 0,.int 0 0,.int 3 0,.ref 137,.bool true,.int 181 0,.ref 138,.none,.ref 139,.ref 140,.ref 141,.int 357 0,.int 30 0,.str "/claim/cut.py" 358]})::
 (nat_lit 143,⟨(.type "function"),none,.func (W.fnOf "back" "Question.back" (defArgs (inClass (top 9) 0)) (defBody (inClass (top 9) 0)) (defScope (inClass (top 9) 0)) .none .none .none (.str "logloom.questions" 339) none (.ref 142) .none),#[]⟩)::
 (nat_lit 144,tu0)::
 (nat_lit 146,{cls:=.type "tuple",data:=.seq #[.str "self" 363]})::
 (nat_lit 147,tu0)::
 (nat_lit 149,{cls:=.type "code",data:=.fields #[.str "on" 360,.str "Question.on" 361,.str "/claim/cut.py" 362,.int 33 0,.int 1 0,.int 0 0,.int 0 0,.int 3 0,.ref 144,.bool true,.int 181 0,.ref 145,.none,.ref 146,.ref 147,.ref 148,.int 364 0,.int 33 0,.str "/claim/cut.py" 365]})::
 (nat_lit 150,⟨(.type "function"),none,.func (W.fnOf "on" "Question.on" (defArgs (inClass (top 9) 1)) (defBody (inClass (top 9) 1)) (defScope (inClass (top 9) 1)) .none .none .none (.str "logloom.questions" 339) none (.ref 149) .none),#[]⟩)::
 (nat_lit 151,tu0)::
 (nat_lit 153,{cls:=.type "tuple",data:=.seq #[.str "self" 370,.str "log" 371,.str "n" 372]})::
 (nat_lit 154,tu0)::
 (nat_lit 156,{cls:=.type "code",data:=.fields #[.str "found" 367,.str "Question.found" 368,.str "/claim/cut.py" 369,.int 36 0,.int 3 0,.int 0 0,.int 0 0,.int 3 0,.ref 151,.bool true,.int 181 0,.ref 152,.none,.ref 153,.ref 154,.ref 155,.int 373 0,.int 36 0,.str "/claim/cut.py" 374]})::
 (nat_lit 157,⟨(.type "function"),none,.func (W.fnOf "found" "Question.found" (defArgs (inClass (top 9) 2)) (defBody (inClass (top 9) 2)) (defScope (inClass (top 9) 2)) .none .none .none (.str "logloom.questions" 339) none (.ref 156) .none),#[]⟩)::
 (nat_lit 158,tu0)::
 (nat_lit 159,{cls:=.type "dict",data:=.dict #[⟨PyData.keyHash P "__module__",.str "__module__" 348,.str "logloom.questions" 339⟩,⟨PyData.keyHash P "__firstlineno__",.str "__firstlineno__" 352,.int 28 351⟩,⟨PyData.keyHash P "back",.str "back" 359,.ref 143⟩,⟨PyData.keyHash P "on",.str "on" 366,.ref 150⟩,⟨PyData.keyHash P "found",.str "found" 375,.ref 157⟩,⟨PyData.keyHash P "__static_attributes__",.str "__static_attributes__" 376,.ref 158⟩,⟨PyData.keyHash P "__dict__",.str "__dict__" 378,.ref 161⟩,⟨PyData.keyHash P "__weakref__",.str "__weakref__" 380,.ref 162⟩,⟨PyData.keyHash P "__doc__",.str "__doc__" 381,.none⟩] 4})::
 (nat_lit 160,{cls:=.type "type",data:=Data.cls { name:=Str.ofString "Question",bases:=[.type "object"],mro:=[.ref 160,.type "object"],ns:=159,qualname:=Str.ofString "Question",subclasses:=[.ref 188,.ref 214,.ref 247,.ref 280,.ref 320,.ref 353,.ref 431]},slots:=#[none,none,some (.str "Question" 341),some (.str "Question" 349),some (.builtin "object.__new__"),some (.bool true)]})::
 (nat_lit 161,{cls:=.type "getset_descriptor",data:=.fields #[.str "__dict__" 377,.ref 160,.builtin "function.__dict__",.builtin "function.__dict__#set"]})::
 (nat_lit 162,{cls:=.type "getset_descriptor",data:=.fields #[.str "__weakref__" 379,.ref 160,.builtin "ExceptionGroup.__weakref__",.none]})::
 (nat_lit 165,{cls:=.type "tuple",data:=.seq #[.ref 160]})::
 (nat_lit 172,tu0)::
 (nat_lit 174,{cls:=.type "tuple",data:=.seq #[.str "self" 399,.str "letter" 400]})::
 (nat_lit 175,tu0)::
 (nat_lit 177,{cls:=.type "code",data:=.fields #[.str "__init__" 396,.str "Row.__init__" 397,.str "/claim/cut.py" 398,.int 40 0,.int 2 0,.int 0 0,.int 0 0,.int 3 0,.ref 172,.bool true,.int 181 0,.ref 173,.none,.ref 174,.ref 175,.ref 176,.int 401 0,.int 40 0,.str "/claim/cut.py" 402]})::
 (nat_lit 178,⟨(.type "function"),none,.func (W.fnOf "__init__" "Row.__init__" (defArgs (inClass (top 10) 0)) (defBody (inClass (top 10) 0)) (defScope (inClass (top 10) 0)) .none .none .none (.str "logloom.questions" 339) none (.ref 177) .none),#[]⟩)::
 (nat_lit 179,tu0)::
 (nat_lit 181,{cls:=.type "tuple",data:=.seq #[.str "self" 407,.str "log" 408,.str "n" 409]})::
 (nat_lit 182,tu0)::
 (nat_lit 184,{cls:=.type "code",data:=.fields #[.str "found" 404,.str "Row.found" 405,.str "/claim/cut.py" 406,.int 43 0,.int 3 0,.int 0 0,.int 0 0,.int 3 0,.ref 179,.bool true,.int 181 0,.ref 180,.none,.ref 181,.ref 182,.ref 183,.int 410 0,.int 43 0,.str "/claim/cut.py" 411]})::
 (nat_lit 185,⟨(.type "function"),none,.func (W.fnOf "found" "Row.found" (defArgs (inClass (top 10) 1)) (defBody (inClass (top 10) 1)) (defScope (inClass (top 10) 1)) .none .none .none (.str "logloom.questions" 339) none (.ref 184) .none),#[]⟩)::
 (nat_lit 186,{cls:=.type "tuple",data:=.seq #[.str "wanted" 413]})::
 (nat_lit 187,{cls:=.type "dict",data:=.dict #[⟨PyData.keyHash P "__module__",.str "__module__" 391,.str "logloom.questions" 339⟩,⟨PyData.keyHash P "__firstlineno__",.str "__firstlineno__" 395,.int 38 394⟩,⟨PyData.keyHash P "__init__",.str "__init__" 403,.ref 178⟩,⟨PyData.keyHash P "found",.str "found" 412,.ref 185⟩,⟨PyData.keyHash P "__static_attributes__",.str "__static_attributes__" 414,.ref 186⟩,⟨PyData.keyHash P "__doc__",.str "__doc__" 415,.none⟩] 2})::
 (nat_lit 188,{cls:=.type "type",data:=Data.cls { name:=Str.ofString "Row",bases:=[.ref 160],mro:=[.ref 188,.ref 160,.type "object"],ns:=187,qualname:=Str.ofString "Row"},slots:=#[some (.ref 165),none,some (.str "Row" 384),some (.str "Row" 392),some (.builtin "object.__new__"),some (.bool true)]})::
 (nat_lit 191,{cls:=.type "tuple",data:=.seq #[.ref 160]})::
 (nat_lit 198,tu0)::
 (nat_lit 200,{cls:=.type "tuple",data:=.seq #[.str "self" 433,.str "letter" 434,.str "gap" 435,.str "word" 436]})::
 (nat_lit 201,tu0)::
 (nat_lit 203,{cls:=.type "code",data:=.fields #[.str "__init__" 430,.str "With.__init__" 431,.str "/claim/cut.py" 432,.int 47 0,.int 4 0,.int 0 0,.int 0 0,.int 3 0,.ref 198,.bool true,.int 181 0,.ref 199,.none,.ref 200,.ref 201,.ref 202,.int 437 0,.int 47 0,.str "/claim/cut.py" 438]})::
 (nat_lit 204,⟨(.type "function"),none,.func (W.fnOf "__init__" "With.__init__" (defArgs (inClass (top 11) 0)) (defBody (inClass (top 11) 0)) (defScope (inClass (top 11) 0)) .none .none .none (.str "logloom.questions" 339) none (.ref 203) .none),#[]⟩)::
 (nat_lit 205,tu0)::
 (nat_lit 207,{cls:=.type "tuple",data:=.seq #[.str "self" 443,.str "log" 444,.str "n" 445]})::
 (nat_lit 208,tu0)::
 (nat_lit 210,{cls:=.type "code",data:=.fields #[.str "found" 440,.str "With.found" 441,.str "/claim/cut.py" 442,.int 51 0,.int 3 0,.int 0 0,.int 0 0,.int 3 0,.ref 205,.bool true,.int 181 0,.ref 206,.none,.ref 207,.ref 208,.ref 209,.int 446 0,.int 51 0,.str "/claim/cut.py" 447]})::
 (nat_lit 211,⟨(.type "function"),none,.func (W.fnOf "found" "With.found" (defArgs (inClass (top 11) 1)) (defBody (inClass (top 11) 1)) (defScope (inClass (top 11) 1)) .none .none .none (.str "logloom.questions" 339) none (.ref 210) .none),#[]⟩)::
 (nat_lit 212,{cls:=.type "tuple",data:=.seq #[.str "here" 449,.str "wanted" 450]})::
 (nat_lit 213,{cls:=.type "dict",data:=.dict #[⟨PyData.keyHash P "__module__",.str "__module__" 425,.str "logloom.questions" 339⟩,⟨PyData.keyHash P "__firstlineno__",.str "__firstlineno__" 429,.int 45 428⟩,⟨PyData.keyHash P "__init__",.str "__init__" 439,.ref 204⟩,⟨PyData.keyHash P "found",.str "found" 448,.ref 211⟩,⟨PyData.keyHash P "__static_attributes__",.str "__static_attributes__" 451,.ref 212⟩,⟨PyData.keyHash P "__doc__",.str "__doc__" 452,.none⟩] 2})::
 (nat_lit 214,{cls:=.type "type",data:=Data.cls { name:=Str.ofString "With",bases:=[.ref 160],mro:=[.ref 214,.ref 160,.type "object"],ns:=213,qualname:=Str.ofString "With"},slots:=#[some (.ref 191),none,some (.str "With" 418),some (.str "With" 426),some (.builtin "object.__new__"),some (.bool true)]})::
 (nat_lit 217,{cls:=.type "tuple",data:=.seq #[.ref 160]})::
 (nat_lit 224,tu0)::
 (nat_lit 226,{cls:=.type "tuple",data:=.seq #[.str "self" 470,.str "letter" 471,.str "gap" 472,.str "other" 473,.str "there" 474,.str "reach" 475]})::
 (nat_lit 227,tu0)::
 (nat_lit 229,{cls:=.type "code",data:=.fields #[.str "__init__" 467,.str "Behind.__init__" 468,.str "/claim/cut.py" 469,.int 55 0,.int 6 0,.int 0 0,.int 0 0,.int 3 0,.ref 224,.bool true,.int 181 0,.ref 225,.none,.ref 226,.ref 227,.ref 228,.int 476 0,.int 55 0,.str "/claim/cut.py" 477]})::
 (nat_lit 230,⟨(.type "function"),none,.func (W.fnOf "__init__" "Behind.__init__" (defArgs (inClass (top 12) 0)) (defBody (inClass (top 12) 0)) (defScope (inClass (top 12) 0)) .none .none .none (.str "logloom.questions" 339) none (.ref 229) .none),#[]⟩)::
 (nat_lit 231,tu0)::
 (nat_lit 233,{cls:=.type "tuple",data:=.seq #[.str "self" 482]})::
 (nat_lit 234,tu0)::
 (nat_lit 236,{cls:=.type "code",data:=.fields #[.str "on" 479,.str "Behind.on" 480,.str "/claim/cut.py" 481,.int 60 0,.int 1 0,.int 0 0,.int 0 0,.int 3 0,.ref 231,.bool true,.int 181 0,.ref 232,.none,.ref 233,.ref 234,.ref 235,.int 483 0,.int 60 0,.str "/claim/cut.py" 484]})::
 (nat_lit 237,⟨(.type "function"),none,.func (W.fnOf "on" "Behind.on" (defArgs (inClass (top 12) 1)) (defBody (inClass (top 12) 1)) (defScope (inClass (top 12) 1)) .none .none .none (.str "logloom.questions" 339) none (.ref 236) .none),#[]⟩)::
 (nat_lit 238,tu0)::
 (nat_lit 240,{cls:=.type "tuple",data:=.seq #[.str "self" 489,.str "log" 490,.str "n" 491]})::
 (nat_lit 241,tu0)::
 (nat_lit 243,{cls:=.type "code",data:=.fields #[.str "found" 486,.str "Behind.found" 487,.str "/claim/cut.py" 488,.int 63 0,.int 3 0,.int 0 0,.int 0 0,.int 3 0,.ref 238,.bool true,.int 181 0,.ref 239,.none,.ref 240,.ref 241,.ref 242,.int 492 0,.int 63 0,.str "/claim/cut.py" 493]})::
 (nat_lit 244,⟨(.type "function"),none,.func (W.fnOf "found" "Behind.found" (defArgs (inClass (top 12) 2)) (defBody (inClass (top 12) 2)) (defScope (inClass (top 12) 2)) .none .none .none (.str "logloom.questions" 339) none (.ref 243) .none),#[]⟩)::
 (nat_lit 245,{cls:=.type "tuple",data:=.seq #[.str "away" 495,.str "here" 496,.str "reach" 497]})::
 (nat_lit 246,{cls:=.type "dict",data:=.dict #[⟨PyData.keyHash P "__module__",.str "__module__" 462,.str "logloom.questions" 339⟩,⟨PyData.keyHash P "__firstlineno__",.str "__firstlineno__" 466,.int 53 465⟩,⟨PyData.keyHash P "__init__",.str "__init__" 478,.ref 230⟩,⟨PyData.keyHash P "on",.str "on" 485,.ref 237⟩,⟨PyData.keyHash P "found",.str "found" 494,.ref 244⟩,⟨PyData.keyHash P "__static_attributes__",.str "__static_attributes__" 498,.ref 245⟩,⟨PyData.keyHash P "__doc__",.str "__doc__" 499,.none⟩] 2})::
 (nat_lit 247,{cls:=.type "type",data:=Data.cls { name:=Str.ofString "Behind",bases:=[.ref 160],mro:=[.ref 247,.ref 160,.type "object"],ns:=246,qualname:=Str.ofString "Behind"},slots:=#[some (.ref 217),none,some (.str "Behind" 455),some (.str "Behind" 463),some (.builtin "object.__new__"),some (.bool true)]})::
 (nat_lit 250,{cls:=.type "tuple",data:=.seq #[.ref 160]})::
 (nat_lit 257,tu0)::
 (nat_lit 259,{cls:=.type "tuple",data:=.seq #[.str "self" 517,.str "letter" 518,.str "gap" 519,.str "other" 520,.str "there" 521,.str "reach" 522]})::
 (nat_lit 260,tu0)::
 (nat_lit 262,{cls:=.type "code",data:=.fields #[.str "__init__" 514,.str "Ahead.__init__" 515,.str "/claim/cut.py" 516,.int 67 0,.int 6 0,.int 0 0,.int 0 0,.int 3 0,.ref 257,.bool true,.int 181 0,.ref 258,.none,.ref 259,.ref 260,.ref 261,.int 523 0,.int 67 0,.str "/claim/cut.py" 524]})::
 (nat_lit 263,⟨(.type "function"),none,.func (W.fnOf "__init__" "Ahead.__init__" (defArgs (inClass (top 13) 0)) (defBody (inClass (top 13) 0)) (defScope (inClass (top 13) 0)) .none .none .none (.str "logloom.questions" 339) none (.ref 262) .none),#[]⟩)::
 (nat_lit 264,tu0)::
 (nat_lit 266,{cls:=.type "tuple",data:=.seq #[.str "self" 529]})::
 (nat_lit 267,tu0)::
 (nat_lit 269,{cls:=.type "code",data:=.fields #[.str "back" 526,.str "Ahead.back" 527,.str "/claim/cut.py" 528,.int 72 0,.int 1 0,.int 0 0,.int 0 0,.int 3 0,.ref 264,.bool true,.int 181 0,.ref 265,.none,.ref 266,.ref 267,.ref 268,.int 530 0,.int 72 0,.str "/claim/cut.py" 531]})::
 (nat_lit 270,⟨(.type "function"),none,.func (W.fnOf "back" "Ahead.back" (defArgs (inClass (top 13) 1)) (defBody (inClass (top 13) 1)) (defScope (inClass (top 13) 1)) .none .none .none (.str "logloom.questions" 339) none (.ref 269) .none),#[]⟩)::
 (nat_lit 271,tu0)::
 (nat_lit 273,{cls:=.type "tuple",data:=.seq #[.str "self" 536,.str "log" 537,.str "n" 538]})::
 (nat_lit 274,tu0)::
 (nat_lit 276,{cls:=.type "code",data:=.fields #[.str "found" 533,.str "Ahead.found" 534,.str "/claim/cut.py" 535,.int 75 0,.int 3 0,.int 0 0,.int 0 0,.int 3 0,.ref 271,.bool true,.int 181 0,.ref 272,.none,.ref 273,.ref 274,.ref 275,.int 539 0,.int 75 0,.str "/claim/cut.py" 540]})::
 (nat_lit 277,⟨(.type "function"),none,.func (W.fnOf "found" "Ahead.found" (defArgs (inClass (top 13) 2)) (defBody (inClass (top 13) 2)) (defScope (inClass (top 13) 2)) .none .none .none (.str "logloom.questions" 339) none (.ref 276) .none),#[]⟩)::
 (nat_lit 278,{cls:=.type "tuple",data:=.seq #[.str "away" 542,.str "here" 543,.str "reach" 544]})::
 (nat_lit 279,{cls:=.type "dict",data:=.dict #[⟨PyData.keyHash P "__module__",.str "__module__" 509,.str "logloom.questions" 339⟩,⟨PyData.keyHash P "__firstlineno__",.str "__firstlineno__" 513,.int 65 512⟩,⟨PyData.keyHash P "__init__",.str "__init__" 525,.ref 263⟩,⟨PyData.keyHash P "back",.str "back" 532,.ref 270⟩,⟨PyData.keyHash P "found",.str "found" 541,.ref 277⟩,⟨PyData.keyHash P "__static_attributes__",.str "__static_attributes__" 545,.ref 278⟩,⟨PyData.keyHash P "__doc__",.str "__doc__" 546,.none⟩] 2})::
 (nat_lit 280,{cls:=.type "type",data:=Data.cls { name:=Str.ofString "Ahead",bases:=[.ref 160],mro:=[.ref 280,.ref 160,.type "object"],ns:=279,qualname:=Str.ofString "Ahead"},slots:=#[some (.ref 250),none,some (.str "Ahead" 502),some (.str "Ahead" 510),some (.builtin "object.__new__"),some (.bool true)]})::
 (nat_lit 283,{cls:=.type "tuple",data:=.seq #[.ref 160]})::
 (nat_lit 290,tu0)::
 (nat_lit 292,{cls:=.type "tuple",data:=.seq #[.str "self" 564,.str "reach" 565,.str "least" 566,.str "question" 567]})::
 (nat_lit 293,tu0)::
 (nat_lit 295,{cls:=.type "code",data:=.fields #[.str "__init__" 561,.str "Times.__init__" 562,.str "/claim/cut.py" 563,.int 79 0,.int 4 0,.int 0 0,.int 0 0,.int 3 0,.ref 290,.bool true,.int 181 0,.ref 291,.none,.ref 292,.ref 293,.ref 294,.int 568 0,.int 79 0,.str "/claim/cut.py" 569]})::
 (nat_lit 296,⟨(.type "function"),none,.func (W.fnOf "__init__" "Times.__init__" (defArgs (inClass (top 14) 0)) (defBody (inClass (top 14) 0)) (defScope (inClass (top 14) 0)) .none .none .none (.str "logloom.questions" 339) none (.ref 295) .none),#[]⟩)::
 (nat_lit 297,tu0)::
 (nat_lit 299,{cls:=.type "tuple",data:=.seq #[.str "self" 574]})::
 (nat_lit 300,tu0)::
 (nat_lit 302,{cls:=.type "code",data:=.fields #[.str "back" 571,.str "Times.back" 572,.str "/claim/cut.py" 573,.int 84 0,.int 1 0,.int 0 0,.int 0 0,.int 3 0,.ref 297,.bool true,.int 181 0,.ref 298,.none,.ref 299,.ref 300,.ref 301,.int 575 0,.int 84 0,.str "/claim/cut.py" 576]})::
 (nat_lit 303,⟨(.type "function"),none,.func (W.fnOf "back" "Times.back" (defArgs (inClass (top 14) 1)) (defBody (inClass (top 14) 1)) (defScope (inClass (top 14) 1)) .none .none .none (.str "logloom.questions" 339) none (.ref 302) .none),#[]⟩)::
 (nat_lit 304,tu0)::
 (nat_lit 306,{cls:=.type "tuple",data:=.seq #[.str "self" 581]})::
 (nat_lit 307,tu0)::
 (nat_lit 309,{cls:=.type "code",data:=.fields #[.str "on" 578,.str "Times.on" 579,.str "/claim/cut.py" 580,.int 87 0,.int 1 0,.int 0 0,.int 0 0,.int 3 0,.ref 304,.bool true,.int 181 0,.ref 305,.none,.ref 306,.ref 307,.ref 308,.int 582 0,.int 87 0,.str "/claim/cut.py" 583]})::
 (nat_lit 310,⟨(.type "function"),none,.func (W.fnOf "on" "Times.on" (defArgs (inClass (top 14) 2)) (defBody (inClass (top 14) 2)) (defScope (inClass (top 14) 2)) .none .none .none (.str "logloom.questions" 339) none (.ref 309) .none),#[]⟩)::
 (nat_lit 311,tu0)::
 (nat_lit 313,{cls:=.type "tuple",data:=.seq #[.str "self" 588,.str "log" 589,.str "n" 590]})::
 (nat_lit 314,tu0)::
 (nat_lit 316,{cls:=.type "code",data:=.fields #[.str "found" 585,.str "Times.found" 586,.str "/claim/cut.py" 587,.int 90 0,.int 3 0,.int 0 0,.int 0 0,.int 3 0,.ref 311,.bool true,.int 181 0,.ref 312,.none,.ref 313,.ref 314,.ref 315,.int 591 0,.int 90 0,.str "/claim/cut.py" 592]})::
 (nat_lit 317,⟨(.type "function"),none,.func (W.fnOf "found" "Times.found" (defArgs (inClass (top 14) 3)) (defBody (inClass (top 14) 3)) (defScope (inClass (top 14) 3)) .none .none .none (.str "logloom.questions" 339) none (.ref 316) .none),#[]⟩)::
 (nat_lit 318,{cls:=.type "tuple",data:=.seq #[.str "inner" 594,.str "least" 595,.str "reach" 596]})::
 (nat_lit 319,{cls:=.type "dict",data:=.dict #[⟨PyData.keyHash P "__module__",.str "__module__" 556,.str "logloom.questions" 339⟩,⟨PyData.keyHash P "__firstlineno__",.str "__firstlineno__" 560,.int 77 559⟩,⟨PyData.keyHash P "__init__",.str "__init__" 570,.ref 296⟩,⟨PyData.keyHash P "back",.str "back" 577,.ref 303⟩,⟨PyData.keyHash P "on",.str "on" 584,.ref 310⟩,⟨PyData.keyHash P "found",.str "found" 593,.ref 317⟩,⟨PyData.keyHash P "__static_attributes__",.str "__static_attributes__" 597,.ref 318⟩,⟨PyData.keyHash P "__doc__",.str "__doc__" 598,.none⟩] 2})::
 (nat_lit 320,{cls:=.type "type",data:=Data.cls { name:=Str.ofString "Times",bases:=[.ref 160],mro:=[.ref 320,.ref 160,.type "object"],ns:=319,qualname:=Str.ofString "Times"},slots:=#[some (.ref 283),none,some (.str "Times" 549),some (.str "Times" 557),some (.builtin "object.__new__"),some (.bool true)]})::
 (nat_lit 323,{cls:=.type "tuple",data:=.seq #[.ref 160]})::
 (nat_lit 330,tu0)::
 (nat_lit 332,{cls:=.type "tuple",data:=.seq #[.str "self" 616,.str "one" 617,.str "other" 618]})::
 (nat_lit 333,tu0)::
 (nat_lit 335,{cls:=.type "code",data:=.fields #[.str "__init__" 613,.str "Joint.__init__" 614,.str "/claim/cut.py" 615,.int 94 0,.int 3 0,.int 0 0,.int 0 0,.int 3 0,.ref 330,.bool true,.int 181 0,.ref 331,.none,.ref 332,.ref 333,.ref 334,.int 619 0,.int 94 0,.str "/claim/cut.py" 620]})::
 (nat_lit 336,⟨(.type "function"),none,.func (W.fnOf "__init__" "Joint.__init__" (defArgs (inClass (top 15) 0)) (defBody (inClass (top 15) 0)) (defScope (inClass (top 15) 0)) .none .none .none (.str "logloom.questions" 339) none (.ref 335) .none),#[]⟩)::
 (nat_lit 337,tu0)::
 (nat_lit 339,{cls:=.type "tuple",data:=.seq #[.str "self" 625]})::
 (nat_lit 340,tu0)::
 (nat_lit 342,{cls:=.type "code",data:=.fields #[.str "back" 622,.str "Joint.back" 623,.str "/claim/cut.py" 624,.int 98 0,.int 1 0,.int 0 0,.int 0 0,.int 3 0,.ref 337,.bool true,.int 181 0,.ref 338,.none,.ref 339,.ref 340,.ref 341,.int 626 0,.int 98 0,.str "/claim/cut.py" 627]})::
 (nat_lit 343,⟨(.type "function"),none,.func (W.fnOf "back" "Joint.back" (defArgs (inClass (top 15) 1)) (defBody (inClass (top 15) 1)) (defScope (inClass (top 15) 1)) .none .none .none (.str "logloom.questions" 339) none (.ref 342) .none),#[]⟩)::
 (nat_lit 344,tu0)::
 (nat_lit 346,{cls:=.type "tuple",data:=.seq #[.str "self" 632]})::
 (nat_lit 347,tu0)::
 (nat_lit 349,{cls:=.type "code",data:=.fields #[.str "on" 629,.str "Joint.on" 630,.str "/claim/cut.py" 631,.int 101 0,.int 1 0,.int 0 0,.int 0 0,.int 3 0,.ref 344,.bool true,.int 181 0,.ref 345,.none,.ref 346,.ref 347,.ref 348,.int 633 0,.int 101 0,.str "/claim/cut.py" 634]})::
 (nat_lit 350,⟨(.type "function"),none,.func (W.fnOf "on" "Joint.on" (defArgs (inClass (top 15) 2)) (defBody (inClass (top 15) 2)) (defScope (inClass (top 15) 2)) .none .none .none (.str "logloom.questions" 339) none (.ref 349) .none),#[]⟩)::
 (nat_lit 351,{cls:=.type "tuple",data:=.seq #[.str "one" 636,.str "other" 637]})::
 (nat_lit 352,{cls:=.type "dict",data:=.dict #[⟨PyData.keyHash P "__module__",.str "__module__" 608,.str "logloom.questions" 339⟩,⟨PyData.keyHash P "__firstlineno__",.str "__firstlineno__" 612,.int 92 611⟩,⟨PyData.keyHash P "__init__",.str "__init__" 621,.ref 336⟩,⟨PyData.keyHash P "back",.str "back" 628,.ref 343⟩,⟨PyData.keyHash P "on",.str "on" 635,.ref 350⟩,⟨PyData.keyHash P "__static_attributes__",.str "__static_attributes__" 638,.ref 351⟩,⟨PyData.keyHash P "__doc__",.str "__doc__" 639,.none⟩] 2})::
 (nat_lit 353,{cls:=.type "type",data:=Data.cls { name:=Str.ofString "Joint",bases:=[.ref 160],mro:=[.ref 353,.ref 160,.type "object"],ns:=352,qualname:=Str.ofString "Joint",subclasses:=[.ref 372,.ref 391]},slots:=#[some (.ref 323),none,some (.str "Joint" 601),some (.str "Joint" 609),some (.builtin "object.__new__"),some (.bool true)]})::
 (nat_lit 356,{cls:=.type "tuple",data:=.seq #[.ref 353]})::
 (nat_lit 363,tu0)::
 (nat_lit 365,{cls:=.type "tuple",data:=.seq #[.str "self" 657,.str "log" 658,.str "n" 659]})::
 (nat_lit 366,tu0)::
 (nat_lit 368,{cls:=.type "code",data:=.fields #[.str "found" 654,.str "Both.found" 655,.str "/claim/cut.py" 656,.int 105 0,.int 3 0,.int 0 0,.int 0 0,.int 3 0,.ref 363,.bool true,.int 181 0,.ref 364,.none,.ref 365,.ref 366,.ref 367,.int 660 0,.int 105 0,.str "/claim/cut.py" 661]})::
 (nat_lit 369,⟨(.type "function"),none,.func (W.fnOf "found" "Both.found" (defArgs (inClass (top 16) 0)) (defBody (inClass (top 16) 0)) (defScope (inClass (top 16) 0)) .none .none .none (.str "logloom.questions" 339) none (.ref 368) .none),#[]⟩)::
 (nat_lit 370,tu0)::
 (nat_lit 371,{cls:=.type "dict",data:=.dict #[⟨PyData.keyHash P "__module__",.str "__module__" 649,.str "logloom.questions" 339⟩,⟨PyData.keyHash P "__firstlineno__",.str "__firstlineno__" 653,.int 103 652⟩,⟨PyData.keyHash P "found",.str "found" 662,.ref 369⟩,⟨PyData.keyHash P "__static_attributes__",.str "__static_attributes__" 663,.ref 370⟩,⟨PyData.keyHash P "__doc__",.str "__doc__" 664,.none⟩] 2})::
 (nat_lit 372,{cls:=.type "type",data:=Data.cls { name:=Str.ofString "Both",bases:=[.ref 353],mro:=[.ref 372,.ref 353,.ref 160,.type "object"],ns:=371,qualname:=Str.ofString "Both"},slots:=#[some (.ref 356),none,some (.str "Both" 642),some (.str "Both" 650),some (.builtin "object.__new__"),some (.bool true)]})::
 (nat_lit 375,{cls:=.type "tuple",data:=.seq #[.ref 353]})::
 (nat_lit 382,tu0)::
 (nat_lit 384,{cls:=.type "tuple",data:=.seq #[.str "self" 682,.str "log" 683,.str "n" 684]})::
 (nat_lit 385,tu0)::
 (nat_lit 387,{cls:=.type "code",data:=.fields #[.str "found" 679,.str "Either.found" 680,.str "/claim/cut.py" 681,.int 109 0,.int 3 0,.int 0 0,.int 0 0,.int 3 0,.ref 382,.bool true,.int 181 0,.ref 383,.none,.ref 384,.ref 385,.ref 386,.int 685 0,.int 109 0,.str "/claim/cut.py" 686]})::
 (nat_lit 388,⟨(.type "function"),none,.func (W.fnOf "found" "Either.found" (defArgs (inClass (top 17) 0)) (defBody (inClass (top 17) 0)) (defScope (inClass (top 17) 0)) .none .none .none (.str "logloom.questions" 339) none (.ref 387) .none),#[]⟩)::
 (nat_lit 389,tu0)::
 (nat_lit 390,{cls:=.type "dict",data:=.dict #[⟨PyData.keyHash P "__module__",.str "__module__" 674,.str "logloom.questions" 339⟩,⟨PyData.keyHash P "__firstlineno__",.str "__firstlineno__" 678,.int 107 677⟩,⟨PyData.keyHash P "found",.str "found" 687,.ref 388⟩,⟨PyData.keyHash P "__static_attributes__",.str "__static_attributes__" 688,.ref 389⟩,⟨PyData.keyHash P "__doc__",.str "__doc__" 689,.none⟩] 2})::
 (nat_lit 391,{cls:=.type "type",data:=Data.cls { name:=Str.ofString "Either",bases:=[.ref 353],mro:=[.ref 391,.ref 353,.ref 160,.type "object"],ns:=390,qualname:=Str.ofString "Either"},slots:=#[some (.ref 375),none,some (.str "Either" 667),some (.str "Either" 675),some (.builtin "object.__new__"),some (.bool true)]})::
 (nat_lit 394,{cls:=.type "tuple",data:=.seq #[.ref 160]})::
 (nat_lit 401,tu0)::
 (nat_lit 403,{cls:=.type "tuple",data:=.seq #[.str "self" 707,.str "one" 708]})::
 (nat_lit 404,tu0)::
 (nat_lit 406,{cls:=.type "code",data:=.fields #[.str "__init__" 704,.str "Not.__init__" 705,.str "/claim/cut.py" 706,.int 113 0,.int 2 0,.int 0 0,.int 0 0,.int 3 0,.ref 401,.bool true,.int 181 0,.ref 402,.none,.ref 403,.ref 404,.ref 405,.int 709 0,.int 113 0,.str "/claim/cut.py" 710]})::
 (nat_lit 407,⟨(.type "function"),none,.func (W.fnOf "__init__" "Not.__init__" (defArgs (inClass (top 18) 0)) (defBody (inClass (top 18) 0)) (defScope (inClass (top 18) 0)) .none .none .none (.str "logloom.questions" 339) none (.ref 406) .none),#[]⟩)::
 (nat_lit 408,tu0)::
 (nat_lit 410,{cls:=.type "tuple",data:=.seq #[.str "self" 715]})::
 (nat_lit 411,tu0)::
 (nat_lit 413,{cls:=.type "code",data:=.fields #[.str "back" 712,.str "Not.back" 713,.str "/claim/cut.py" 714,.int 116 0,.int 1 0,.int 0 0,.int 0 0,.int 3 0,.ref 408,.bool true,.int 181 0,.ref 409,.none,.ref 410,.ref 411,.ref 412,.int 716 0,.int 116 0,.str "/claim/cut.py" 717]})::
 (nat_lit 414,⟨(.type "function"),none,.func (W.fnOf "back" "Not.back" (defArgs (inClass (top 18) 1)) (defBody (inClass (top 18) 1)) (defScope (inClass (top 18) 1)) .none .none .none (.str "logloom.questions" 339) none (.ref 413) .none),#[]⟩)::
 (nat_lit 415,tu0)::
 (nat_lit 417,{cls:=.type "tuple",data:=.seq #[.str "self" 722]})::
 (nat_lit 418,tu0)::
 (nat_lit 420,{cls:=.type "code",data:=.fields #[.str "on" 719,.str "Not.on" 720,.str "/claim/cut.py" 721,.int 119 0,.int 1 0,.int 0 0,.int 0 0,.int 3 0,.ref 415,.bool true,.int 181 0,.ref 416,.none,.ref 417,.ref 418,.ref 419,.int 723 0,.int 119 0,.str "/claim/cut.py" 724]})::
 (nat_lit 421,⟨(.type "function"),none,.func (W.fnOf "on" "Not.on" (defArgs (inClass (top 18) 2)) (defBody (inClass (top 18) 2)) (defScope (inClass (top 18) 2)) .none .none .none (.str "logloom.questions" 339) none (.ref 420) .none),#[]⟩)::
 (nat_lit 422,tu0)::
 (nat_lit 424,{cls:=.type "tuple",data:=.seq #[.str "self" 729,.str "log" 730,.str "n" 731]})::
 (nat_lit 425,tu0)::
 (nat_lit 427,{cls:=.type "code",data:=.fields #[.str "found" 726,.str "Not.found" 727,.str "/claim/cut.py" 728,.int 122 0,.int 3 0,.int 0 0,.int 0 0,.int 3 0,.ref 422,.bool true,.int 181 0,.ref 423,.none,.ref 424,.ref 425,.ref 426,.int 732 0,.int 122 0,.str "/claim/cut.py" 733]})::
 (nat_lit 428,⟨(.type "function"),none,.func (W.fnOf "found" "Not.found" (defArgs (inClass (top 18) 3)) (defBody (inClass (top 18) 3)) (defScope (inClass (top 18) 3)) .none .none .none (.str "logloom.questions" 339) none (.ref 427) .none),#[]⟩)::
 (nat_lit 429,{cls:=.type "tuple",data:=.seq #[.str "one" 735]})::
 (nat_lit 430,{cls:=.type "dict",data:=.dict #[⟨PyData.keyHash P "__module__",.str "__module__" 699,.str "logloom.questions" 339⟩,⟨PyData.keyHash P "__firstlineno__",.str "__firstlineno__" 703,.int 111 702⟩,⟨PyData.keyHash P "__init__",.str "__init__" 711,.ref 407⟩,⟨PyData.keyHash P "back",.str "back" 718,.ref 414⟩,⟨PyData.keyHash P "on",.str "on" 725,.ref 421⟩,⟨PyData.keyHash P "found",.str "found" 734,.ref 428⟩,⟨PyData.keyHash P "__static_attributes__",.str "__static_attributes__" 736,.ref 429⟩,⟨PyData.keyHash P "__doc__",.str "__doc__" 737,.none⟩] 2})::
 (nat_lit 431,{cls:=.type "type",data:=Data.cls { name:=Str.ofString "Not",bases:=[.ref 160],mro:=[.ref 431,.ref 160,.type "object"],ns:=430,qualname:=Str.ofString "Not"},slots:=#[some (.ref 394),none,some (.str "Not" 692),some (.str "Not" 700),some (.builtin "object.__new__"),some (.bool true)]})::
 (nat_lit 434,tu0)::
 (nat_lit 437,{cls:=.type "code",data:=.fields #[.str "made_of" 756,.str "made_of" 757,.str "/claim/cut.py" 758,.int 132 0,.int 2 0,.int 0 0,.int 0 0,.int 3 0,.ref 434,.bool true,.int 181 0,.ref 435,.none,.none,.none,.ref 436,.int 759 0,.int 132 0,.str "/claim/cut.py" 760]})::
 (nat_lit 438,⟨(.type "function"),none,.func (W.fnOf "made_of" "made_of" (defArgs (top 27)) (defBody (top 27)) (defScope (top 27)) .none .none .none (.str "logloom.sorts" 740) none (.ref 437) .none),#[]⟩)::
 (nat_lit 446,tu0)::
 (nat_lit 448,{cls:=.type "tuple",data:=.seq #[.str "self" 777]})::
 (nat_lit 449,tu0)::
 (nat_lit 451,{cls:=.type "code",data:=.fields #[.str "word" 774,.str "Sort.word" 775,.str "/claim/cut.py" 776,.int 136 0,.int 1 0,.int 0 0,.int 0 0,.int 3 0,.ref 446,.bool true,.int 181 0,.ref 447,.none,.ref 448,.ref 449,.ref 450,.int 778 0,.int 136 0,.str "/claim/cut.py" 779]})::
 (nat_lit 452,⟨(.type "function"),none,.func (W.fnOf "word" "Sort.word" (defArgs (inClass (top 28) 0)) (defBody (inClass (top 28) 0)) (defScope (inClass (top 28) 0)) .none .none .none (.str "logloom.sorts" 740) none (.ref 451) .none),#[]⟩)::
 (nat_lit 453,tu0)::
 (nat_lit 455,{cls:=.type "tuple",data:=.seq #[.str "self" 784,.str "text" 785]})::
 (nat_lit 456,tu0)::
 (nat_lit 458,{cls:=.type "code",data:=.fields #[.str "takes" 781,.str "Sort.takes" 782,.str "/claim/cut.py" 783,.int 139 0,.int 2 0,.int 0 0,.int 0 0,.int 3 0,.ref 453,.bool true,.int 181 0,.ref 454,.none,.ref 455,.ref 456,.ref 457,.int 786 0,.int 139 0,.str "/claim/cut.py" 787]})::
 (nat_lit 459,⟨(.type "function"),none,.func (W.fnOf "takes" "Sort.takes" (defArgs (inClass (top 28) 1)) (defBody (inClass (top 28) 1)) (defScope (inClass (top 28) 1)) .none .none .none (.str "logloom.sorts" 740) none (.ref 458) .none),#[]⟩)::
 (nat_lit 460,tu0)::
 (nat_lit 461,{cls:=.type "dict",data:=.dict #[⟨PyData.keyHash P "__module__",.str "__module__" 769,.str "logloom.sorts" 740⟩,⟨PyData.keyHash P "__firstlineno__",.str "__firstlineno__" 773,.int 134 772⟩,⟨PyData.keyHash P "word",.str "word" 780,.ref 452⟩,⟨PyData.keyHash P "takes",.str "takes" 788,.ref 459⟩,⟨PyData.keyHash P "__static_attributes__",.str "__static_attributes__" 789,.ref 460⟩,⟨PyData.keyHash P "__dict__",.str "__dict__" 791,.ref 463⟩,⟨PyData.keyHash P "__weakref__",.str "__weakref__" 793,.ref 464⟩,⟨PyData.keyHash P "__doc__",.str "__doc__" 794,.none⟩] 4})::
 (nat_lit 462,{cls:=.type "type",data:=Data.cls { name:=Str.ofString "Sort",bases:=[.type "object"],mro:=[.ref 462,.type "object"],ns:=461,qualname:=Str.ofString "Sort",subclasses:=[.ref 490,.ref 516,.ref 540,.ref 566]},slots:=#[none,none,some (.str "Sort" 762),some (.str "Sort" 770),some (.builtin "object.__new__"),some (.bool true)]})::
 (nat_lit 463,{cls:=.type "getset_descriptor",data:=.fields #[.str "__dict__" 790,.ref 462,.builtin "function.__dict__",.builtin "function.__dict__#set"]})::
 (nat_lit 464,{cls:=.type "getset_descriptor",data:=.fields #[.str "__weakref__" 792,.ref 462,.builtin "ExceptionGroup.__weakref__",.none]})::
 (nat_lit 467,{cls:=.type "tuple",data:=.seq #[.ref 462]})::
 (nat_lit 474,tu0)::
 (nat_lit 476,{cls:=.type "tuple",data:=.seq #[.str "self" 812]})::
 (nat_lit 477,tu0)::
 (nat_lit 479,{cls:=.type "code",data:=.fields #[.str "word" 809,.str "Number.word" 810,.str "/claim/cut.py" 811,.int 143 0,.int 1 0,.int 0 0,.int 0 0,.int 3 0,.ref 474,.bool true,.int 181 0,.ref 475,.none,.ref 476,.ref 477,.ref 478,.int 813 0,.int 143 0,.str "/claim/cut.py" 814]})::
 (nat_lit 480,⟨(.type "function"),none,.func (W.fnOf "word" "Number.word" (defArgs (inClass (top 29) 0)) (defBody (inClass (top 29) 0)) (defScope (inClass (top 29) 0)) .none .none .none (.str "logloom.sorts" 740) none (.ref 479) .none),#[]⟩)::
 (nat_lit 481,tu0)::
 (nat_lit 483,{cls:=.type "tuple",data:=.seq #[.str "self" 819,.str "text" 820]})::
 (nat_lit 484,tu0)::
 (nat_lit 486,{cls:=.type "code",data:=.fields #[.str "takes" 816,.str "Number.takes" 817,.str "/claim/cut.py" 818,.int 146 0,.int 2 0,.int 0 0,.int 0 0,.int 3 0,.ref 481,.bool true,.int 181 0,.ref 482,.none,.ref 483,.ref 484,.ref 485,.int 821 0,.int 146 0,.str "/claim/cut.py" 822]})::
 (nat_lit 487,⟨(.type "function"),none,.func (W.fnOf "takes" "Number.takes" (defArgs (inClass (top 29) 1)) (defBody (inClass (top 29) 1)) (defScope (inClass (top 29) 1)) .none .none .none (.str "logloom.sorts" 740) none (.ref 486) .none),#[]⟩)::
 (nat_lit 488,tu0)::
 (nat_lit 489,{cls:=.type "dict",data:=.dict #[⟨PyData.keyHash P "__module__",.str "__module__" 804,.str "logloom.sorts" 740⟩,⟨PyData.keyHash P "__firstlineno__",.str "__firstlineno__" 808,.int 141 807⟩,⟨PyData.keyHash P "word",.str "word" 815,.ref 480⟩,⟨PyData.keyHash P "takes",.str "takes" 823,.ref 487⟩,⟨PyData.keyHash P "__static_attributes__",.str "__static_attributes__" 824,.ref 488⟩,⟨PyData.keyHash P "__doc__",.str "__doc__" 825,.none⟩] 2})::
 (nat_lit 490,{cls:=.type "type",data:=Data.cls { name:=Str.ofString "Number",bases:=[.ref 462],mro:=[.ref 490,.ref 462,.type "object"],ns:=489,qualname:=Str.ofString "Number"},slots:=#[some (.ref 467),none,some (.str "Number" 797),some (.str "Number" 805),some (.builtin "object.__new__"),some (.bool true)]})::
 (nat_lit 493,{cls:=.type "tuple",data:=.seq #[.ref 462]})::
 (nat_lit 500,tu0)::
 (nat_lit 502,{cls:=.type "tuple",data:=.seq #[.str "self" 843]})::
 (nat_lit 503,tu0)::
 (nat_lit 505,{cls:=.type "code",data:=.fields #[.str "word" 840,.str "Name.word" 841,.str "/claim/cut.py" 842,.int 152 0,.int 1 0,.int 0 0,.int 0 0,.int 3 0,.ref 500,.bool true,.int 181 0,.ref 501,.none,.ref 502,.ref 503,.ref 504,.int 844 0,.int 152 0,.str "/claim/cut.py" 845]})::
 (nat_lit 506,⟨(.type "function"),none,.func (W.fnOf "word" "Name.word" (defArgs (inClass (top 30) 0)) (defBody (inClass (top 30) 0)) (defScope (inClass (top 30) 0)) .none .none .none (.str "logloom.sorts" 740) none (.ref 505) .none),#[]⟩)::
 (nat_lit 507,tu0)::
 (nat_lit 509,{cls:=.type "tuple",data:=.seq #[.str "self" 850,.str "text" 851]})::
 (nat_lit 510,tu0)::
 (nat_lit 512,{cls:=.type "code",data:=.fields #[.str "takes" 847,.str "Name.takes" 848,.str "/claim/cut.py" 849,.int 155 0,.int 2 0,.int 0 0,.int 0 0,.int 3 0,.ref 507,.bool true,.int 181 0,.ref 508,.none,.ref 509,.ref 510,.ref 511,.int 852 0,.int 155 0,.str "/claim/cut.py" 853]})::
 (nat_lit 513,⟨(.type "function"),none,.func (W.fnOf "takes" "Name.takes" (defArgs (inClass (top 30) 1)) (defBody (inClass (top 30) 1)) (defScope (inClass (top 30) 1)) .none .none .none (.str "logloom.sorts" 740) none (.ref 512) .none),#[]⟩)::
 (nat_lit 514,tu0)::
 (nat_lit 515,{cls:=.type "dict",data:=.dict #[⟨PyData.keyHash P "__module__",.str "__module__" 835,.str "logloom.sorts" 740⟩,⟨PyData.keyHash P "__firstlineno__",.str "__firstlineno__" 839,.int 150 838⟩,⟨PyData.keyHash P "word",.str "word" 846,.ref 506⟩,⟨PyData.keyHash P "takes",.str "takes" 854,.ref 513⟩,⟨PyData.keyHash P "__static_attributes__",.str "__static_attributes__" 855,.ref 514⟩,⟨PyData.keyHash P "__doc__",.str "__doc__" 856,.none⟩] 2})::
 (nat_lit 516,{cls:=.type "type",data:=Data.cls { name:=Str.ofString "Name",bases:=[.ref 462],mro:=[.ref 516,.ref 462,.type "object"],ns:=515,qualname:=Str.ofString "Name"},slots:=#[some (.ref 493),none,some (.str "Name" 828),some (.str "Name" 836),some (.builtin "object.__new__"),some (.bool true)]})::
 (nat_lit 519,{cls:=.type "tuple",data:=.seq #[.ref 462]})::
 (nat_lit 526,tu0)::
 (nat_lit 528,{cls:=.type "tuple",data:=.seq #[.str "self" 874]})::
 (nat_lit 529,tu0)::
 (nat_lit 531,{cls:=.type "code",data:=.fields #[.str "word" 871,.str "Items.word" 872,.str "/claim/cut.py" 873,.int 161 0,.int 1 0,.int 0 0,.int 0 0,.int 3 0,.ref 526,.bool true,.int 181 0,.ref 527,.none,.ref 528,.ref 529,.ref 530,.int 875 0,.int 161 0,.str "/claim/cut.py" 876]})::
 (nat_lit 532,⟨(.type "function"),none,.func (W.fnOf "word" "Items.word" (defArgs (inClass (top 31) 0)) (defBody (inClass (top 31) 0)) (defScope (inClass (top 31) 0)) .none .none .none (.str "logloom.sorts" 740) none (.ref 531) .none),#[]⟩)::
 (nat_lit 533,tu0)::
 (nat_lit 536,{cls:=.type "code",data:=.fields #[.str "takes" 878,.str "Items.takes" 879,.str "/claim/cut.py" 880,.int 164 0,.int 2 0,.int 0 0,.int 0 0,.int 3 0,.ref 533,.bool true,.int 181 0,.ref 534,.none,.none,.none,.ref 535,.int 881 0,.int 164 0,.str "/claim/cut.py" 882]})::
 (nat_lit 537,⟨(.type "function"),none,.func (W.fnOf "takes" "Items.takes" (defArgs (inClass (top 31) 1)) (defBody (inClass (top 31) 1)) (defScope (inClass (top 31) 1)) .none .none .none (.str "logloom.sorts" 740) none (.ref 536) .none),#[]⟩)::
 (nat_lit 538,tu0)::
 (nat_lit 539,{cls:=.type "dict",data:=.dict #[⟨PyData.keyHash P "__module__",.str "__module__" 866,.str "logloom.sorts" 740⟩,⟨PyData.keyHash P "__firstlineno__",.str "__firstlineno__" 870,.int 159 869⟩,⟨PyData.keyHash P "word",.str "word" 877,.ref 532⟩,⟨PyData.keyHash P "takes",.str "takes" 883,.ref 537⟩,⟨PyData.keyHash P "__static_attributes__",.str "__static_attributes__" 884,.ref 538⟩,⟨PyData.keyHash P "__doc__",.str "__doc__" 885,.none⟩] 2})::
 (nat_lit 540,{cls:=.type "type",data:=Data.cls { name:=Str.ofString "Items",bases:=[.ref 462],mro:=[.ref 540,.ref 462,.type "object"],ns:=539,qualname:=Str.ofString "Items"},slots:=#[some (.ref 519),none,some (.str "Items" 859),some (.str "Items" 867),some (.builtin "object.__new__"),some (.bool true)]})::
 (nat_lit 543,{cls:=.type "tuple",data:=.seq #[.ref 462]})::
 (nat_lit 550,tu0)::
 (nat_lit 552,{cls:=.type "tuple",data:=.seq #[.str "self" 903]})::
 (nat_lit 553,tu0)::
 (nat_lit 555,{cls:=.type "code",data:=.fields #[.str "word" 900,.str "Mark.word" 901,.str "/claim/cut.py" 902,.int 173 0,.int 1 0,.int 0 0,.int 0 0,.int 3 0,.ref 550,.bool true,.int 181 0,.ref 551,.none,.ref 552,.ref 553,.ref 554,.int 904 0,.int 173 0,.str "/claim/cut.py" 905]})::
 (nat_lit 556,⟨(.type "function"),none,.func (W.fnOf "word" "Mark.word" (defArgs (inClass (top 32) 0)) (defBody (inClass (top 32) 0)) (defScope (inClass (top 32) 0)) .none .none .none (.str "logloom.sorts" 740) none (.ref 555) .none),#[]⟩)::
 (nat_lit 557,tu0)::
 (nat_lit 559,{cls:=.type "tuple",data:=.seq #[.str "self" 910,.str "text" 911]})::
 (nat_lit 560,tu0)::
 (nat_lit 562,{cls:=.type "code",data:=.fields #[.str "takes" 907,.str "Mark.takes" 908,.str "/claim/cut.py" 909,.int 176 0,.int 2 0,.int 0 0,.int 0 0,.int 3 0,.ref 557,.bool true,.int 181 0,.ref 558,.none,.ref 559,.ref 560,.ref 561,.int 912 0,.int 176 0,.str "/claim/cut.py" 913]})::
 (nat_lit 563,⟨(.type "function"),none,.func (W.fnOf "takes" "Mark.takes" (defArgs (inClass (top 32) 1)) (defBody (inClass (top 32) 1)) (defScope (inClass (top 32) 1)) .none .none .none (.str "logloom.sorts" 740) none (.ref 562) .none),#[]⟩)::
 (nat_lit 564,tu0)::
 (nat_lit 565,{cls:=.type "dict",data:=.dict #[⟨PyData.keyHash P "__module__",.str "__module__" 895,.str "logloom.sorts" 740⟩,⟨PyData.keyHash P "__firstlineno__",.str "__firstlineno__" 899,.int 171 898⟩,⟨PyData.keyHash P "word",.str "word" 906,.ref 556⟩,⟨PyData.keyHash P "takes",.str "takes" 914,.ref 563⟩,⟨PyData.keyHash P "__static_attributes__",.str "__static_attributes__" 915,.ref 564⟩,⟨PyData.keyHash P "__doc__",.str "__doc__" 916,.none⟩] 2})::
 (nat_lit 566,{cls:=.type "type",data:=Data.cls { name:=Str.ofString "Mark",bases:=[.ref 462],mro:=[.ref 566,.ref 462,.type "object"],ns:=565,qualname:=Str.ofString "Mark"},slots:=#[some (.ref 543),none,some (.str "Mark" 888),some (.str "Mark" 896),some (.builtin "object.__new__"),some (.bool true)]})::
 (nat_lit 569,tu0)::
 (nat_lit 571,{cls:=.type "tuple",data:=.seq #[.str "text" 922]})::
 (nat_lit 572,tu0)::
 (nat_lit 574,{cls:=.type "code",data:=.fields #[.str "is_item" 919,.str "is_item" 920,.str "/claim/cut.py" 921,.int 180 0,.int 1 0,.int 0 0,.int 0 0,.int 3 0,.ref 569,.bool true,.int 181 0,.ref 570,.none,.ref 571,.ref 572,.ref 573,.int 923 0,.int 180 0,.str "/claim/cut.py" 924]})::
 (nat_lit 575,⟨(.type "function"),none,.func (W.fnOf "is_item" "is_item" (defArgs (top 33)) (defBody (top 33)) (defScope (top 33)) .none .none .none (.str "logloom.sorts" 740) none (.ref 574) .none),#[]⟩)::
 (nat_lit 576,tu0)::
 (nat_lit 578,tu0)::
 (nat_lit 579,tu0)::
 (nat_lit 581,{cls:=.type "code",data:=.fields #[.str "all_sorts" 926,.str "all_sorts" 927,.str "/claim/cut.py" 928,.int 182 0,.int 0 0,.int 0 0,.int 0 0,.int 3 0,.ref 576,.bool true,.int 181 0,.ref 577,.none,.ref 578,.ref 579,.ref 580,.int 929 0,.int 182 0,.str "/claim/cut.py" 930]})::
 (nat_lit 582,⟨(.type "function"),none,.func (W.fnOf "all_sorts" "all_sorts" (defArgs (top 34)) (defBody (top 34)) (defScope (top 34)) .none .none .none (.str "logloom.sorts" 740) none (.ref 581) .none),#[]⟩)::
 (nat_lit 583,tu0)::
 (nat_lit 585,{cls:=.type "tuple",data:=.seq #[.str "text" 935,.str "sort" 936]})::
 (nat_lit 586,tu0)::
 (nat_lit 588,{cls:=.type "code",data:=.fields #[.str "sort_of" 932,.str "sort_of" 933,.str "/claim/cut.py" 934,.int 184 0,.int 1 0,.int 0 0,.int 0 0,.int 3 0,.ref 583,.bool true,.int 181 0,.ref 584,.none,.ref 585,.ref 586,.ref 587,.int 937 0,.int 184 0,.str "/claim/cut.py" 938]})::
 (nat_lit 589,⟨(.type "function"),none,.func (W.fnOf "sort_of" "sort_of" (defArgs (top 35)) (defBody (top 35)) (defScope (top 35)) .none .none .none (.str "logloom.sorts" 740) none (.ref 588) .none),#[]⟩)::
 (nat_lit 590,{cls:=.type "dict",data:=.dict #[⟨PyData.keyHash P "row",.str "row" 944,.ref 591⟩,⟨PyData.keyHash P "with",.str "with" 946,.ref 592⟩,⟨PyData.keyHash P "behind",.str "behind" 950,.ref 593⟩,⟨PyData.keyHash P "ahead",.str "ahead" 956,.ref 594⟩,⟨PyData.keyHash P "times",.str "times" 962,.ref 595⟩,⟨PyData.keyHash P "both",.str "both" 966,.ref 596⟩,⟨PyData.keyHash P "either",.str "either" 969,.ref 597⟩,⟨PyData.keyHash P "not",.str "not" 972,.ref 598⟩] 8})::
 (nat_lit 591,{cls:=.type "tuple",data:=.seq #[.str "letter" 945]})::
 (nat_lit 592,{cls:=.type "tuple",data:=.seq #[.str "letter" 947,.str "gap" 948,.str "word" 949]})::
 (nat_lit 593,{cls:=.type "tuple",data:=.seq #[.str "letter" 951,.str "gap" 952,.str "letter" 953,.str "gap" 954,.str "count" 955]})::
 (nat_lit 594,{cls:=.type "tuple",data:=.seq #[.str "letter" 957,.str "gap" 958,.str "letter" 959,.str "gap" 960,.str "count" 961]})::
 (nat_lit 595,{cls:=.type "tuple",data:=.seq #[.str "count" 963,.str "count" 964,.str "question" 965]})::
 (nat_lit 596,{cls:=.type "tuple",data:=.seq #[.str "question" 967,.str "question" 968]})::
 (nat_lit 597,{cls:=.type "tuple",data:=.seq #[.str "question" 970,.str "question" 971]})::
 (nat_lit 598,{cls:=.type "tuple",data:=.seq #[.str "question" 973]})::
 (nat_lit 599,{cls:=.type "dict",data:=.dict #[⟨PyData.keyHash P "letter",.str "letter" 983,.int 0 984⟩,⟨PyData.keyHash P "gap",.str "gap" 985,.int 0 986⟩,⟨PyData.keyHash P "count",.str "count" 987,.int 1 988⟩] 3})::
 (nat_lit 600,{cls:=.type "dict",data:=.dict #[⟨PyData.keyHash P "letter",.str "letter" 993,.int 8 994⟩,⟨PyData.keyHash P "gap",.str "gap" 995,.int 7 996⟩,⟨PyData.keyHash P "count",.str "count" 997,.int 20 998⟩] 3})::
 (nat_lit 601,tu0)::
 (nat_lit 603,{cls:=.type "tuple",data:=.seq #[.str "word" 1006,.str "parts" 1007]})::
 (nat_lit 604,tu0)::
 (nat_lit 606,{cls:=.type "code",data:=.fields #[.str "made" 1003,.str "made" 1004,.str "/claim/cut.py" 1005,.int 194 0,.int 2 0,.int 0 0,.int 0 0,.int 3 0,.ref 601,.bool true,.int 181 0,.ref 602,.none,.ref 603,.ref 604,.ref 605,.int 1008 0,.int 194 0,.str "/claim/cut.py" 1009]})::
 (nat_lit 607,⟨(.type "function"),none,.func (W.fnOf "made" "made" (defArgs (top 41)) (defBody (top 41)) (defScope (top 41)) .none .none .none (.str "logloom.asking" 940) none (.ref 606) .none),#[]⟩)::
 (nat_lit 608,tu0)::
 (nat_lit 610,{cls:=.type "tuple",data:=.seq #[.str "kind" 1014,.str "piece" 1015,.str "sort" 1016]})::
 (nat_lit 611,tu0)::
 (nat_lit 613,{cls:=.type "code",data:=.fields #[.str "value_of" 1011,.str "value_of" 1012,.str "/claim/cut.py" 1013,.int 210 0,.int 2 0,.int 0 0,.int 0 0,.int 3 0,.ref 608,.bool true,.int 181 0,.ref 609,.none,.ref 610,.ref 611,.ref 612,.int 1017 0,.int 210 0,.str "/claim/cut.py" 1018]})::
 (nat_lit 614,⟨(.type "function"),none,.func (W.fnOf "value_of" "value_of" (defArgs (top 42)) (defBody (top 42)) (defScope (top 42)) .none .none .none (.str "logloom.asking" 940) none (.ref 613) .none),#[]⟩)::
 (nat_lit 615,tu0)::
 (nat_lit 617,{cls:=.type "tuple",data:=.seq #[.str "pieces" 1023,.str "at" 1024]})::
 (nat_lit 618,tu0)::
 (nat_lit 620,{cls:=.type "code",data:=.fields #[.str "piece_at" 1020,.str "piece_at" 1021,.str "/claim/cut.py" 1022,.int 217 0,.int 2 0,.int 0 0,.int 0 0,.int 3 0,.ref 615,.bool true,.int 181 0,.ref 616,.none,.ref 617,.ref 618,.ref 619,.int 1025 0,.int 217 0,.str "/claim/cut.py" 1026]})::
 (nat_lit 621,⟨(.type "function"),none,.func (W.fnOf "piece_at" "piece_at" (defArgs (top 43)) (defBody (top 43)) (defScope (top 43)) .none .none .none (.str "logloom.asking" 940) none (.ref 620) .none),#[]⟩)::
 (nat_lit 622,tu0)::
 (nat_lit 624,{cls:=.type "tuple",data:=.seq #[.str "kind" 1031,.str "pieces" 1032,.str "at" 1033,.str "within" 1034,.str "value" 1035]})::
 (nat_lit 625,tu0)::
 (nat_lit 627,{cls:=.type "code",data:=.fields #[.str "part_at" 1028,.str "part_at" 1029,.str "/claim/cut.py" 1030,.int 221 0,.int 4 0,.int 0 0,.int 0 0,.int 3 0,.ref 622,.bool true,.int 181 0,.ref 623,.none,.ref 624,.ref 625,.ref 626,.int 1036 0,.int 221 0,.str "/claim/cut.py" 1037]})::
 (nat_lit 628,⟨(.type "function"),none,.func (W.fnOf "part_at" "part_at" (defArgs (top 44)) (defBody (top 44)) (defScope (top 44)) .none .none .none (.str "logloom.asking" 940) none (.ref 627) .none),#[]⟩)::
 (nat_lit 629,tu0)::
 (nat_lit 631,{cls:=.type "tuple",data:=.seq #[.str "pieces" 1042,.str "at" 1043,.str "within" 1044,.str "word" 1045,.str "parts" 1046,.str "behind" 1047,.str "kind" 1048,.str "told" 1049]})::
 (nat_lit 632,tu0)::
 (nat_lit 634,{cls:=.type "code",data:=.fields #[.str "question_at" 1039,.str "question_at" 1040,.str "/claim/cut.py" 1041,.int 228 0,.int 3 0,.int 0 0,.int 0 0,.int 3 0,.ref 629,.bool true,.int 181 0,.ref 630,.none,.ref 631,.ref 632,.ref 633,.int 1050 0,.int 228 0,.str "/claim/cut.py" 1051]})::
 (nat_lit 635,⟨(.type "function"),none,.func (W.fnOf "question_at" "question_at" (defArgs (top 45)) (defBody (top 45)) (defScope (top 45)) .none .none .none (.str "logloom.asking" 940) none (.ref 634) .none),#[]⟩)::
 (nat_lit 636,tu0)::
 (nat_lit 638,{cls:=.type "tuple",data:=.seq #[.str "text" 1056,.str "pieces" 1057,.str "told" 1058]})::
 (nat_lit 639,tu0)::
 (nat_lit 641,{cls:=.type "code",data:=.fields #[.str "question_of" 1053,.str "question_of" 1054,.str "/claim/cut.py" 1055,.int 239 0,.int 1 0,.int 0 0,.int 0 0,.int 3 0,.ref 636,.bool true,.int 181 0,.ref 637,.none,.ref 638,.ref 639,.ref 640,.int 1059 0,.int 239 0,.str "/claim/cut.py" 1060]})::
 (nat_lit 642,⟨(.type "function"),none,.func (W.fnOf "question_of" "question_of" (defArgs (top 46)) (defBody (top 46)) (defScope (top 46)) .none .none .none (.str "logloom.asking" 940) none (.ref 641) .none),#[]⟩)::
 (nat_lit 643,tu0)::
 (nat_lit 645,{cls:=.type "tuple",data:=.seq #[.str "_law_script" 1067,.str "_law_k" 1068]})::
 (nat_lit 646,tu0)::
 (nat_lit 648,{cls:=.type "code",data:=.fields #[.str "_law_cell_at" 1064,.str "_law_cell_at" 1065,.str "/claim/cut.py" 1066,.int 246 0,.int 2 0,.int 0 0,.int 0 0,.int 3 0,.ref 643,.bool true,.int 181 0,.ref 644,.none,.ref 645,.ref 646,.ref 647,.int 1069 0,.int 246 0,.str "/claim/cut.py" 1070]})::
 (nat_lit 649,⟨(.type "function"),none,.func (W.fnOf "_law_cell_at" "_law_cell_at" (defArgs (top 48)) (defBody (top 48)) (defScope (top 48)) .none .none .none (.str "law_logloom_k52_questions_refused" 1062) none (.ref 648) .none),#[]⟩)::
 (nat_lit 650,tu0)::
 (nat_lit 652,{cls:=.type "tuple",data:=.seq #[.str "_law_cell" 1075,.str "_law_k" 1076]})::
 (nat_lit 653,tu0)::
 (nat_lit 655,{cls:=.type "code",data:=.fields #[.str "_law_mix" 1072,.str "_law_mix" 1073,.str "/claim/cut.py" 1074,.int 250 0,.int 2 0,.int 0 0,.int 0 0,.int 3 0,.ref 650,.bool true,.int 181 0,.ref 651,.none,.ref 652,.ref 653,.ref 654,.int 1077 0,.int 250 0,.str "/claim/cut.py" 1078]})::
 (nat_lit 656,⟨(.type "function"),none,.func (W.fnOf "_law_mix" "_law_mix" (defArgs (top 49)) (defBody (top 49)) (defScope (top 49)) .none .none .none (.str "law_logloom_k52_questions_refused" 1062) none (.ref 655) .none),#[]⟩)::
 (nat_lit 657,tu0)::
 (nat_lit 659,{cls:=.type "tuple",data:=.seq #[.str "_law_cell" 1083,.str "_law_other" 1084,.str "_law_small" 1085,.str "_law_size" 1086,.str "_law_name" 1087,.str "_law_k" 1088,.str "_law_at" 1089,.str "_law_turned" 1090,.str "_law_number" 1091,.str "_law_items" 1092]})::
 (nat_lit 660,tu0)::
 (nat_lit 662,{cls:=.type "code",data:=.fields #[.str "_law_pool" 1080,.str "_law_pool" 1081,.str "/claim/cut.py" 1082,.int 252 0,.int 2 0,.int 0 0,.int 0 0,.int 3 0,.ref 657,.bool true,.int 181 0,.ref 658,.none,.ref 659,.ref 660,.ref 661,.int 1093 0,.int 252 0,.str "/claim/cut.py" 1094]})::
 (nat_lit 663,⟨(.type "function"),none,.func (W.fnOf "_law_pool" "_law_pool" (defArgs (top 50)) (defBody (top 50)) (defScope (top 50)) .none .none .none (.str "law_logloom_k52_questions_refused" 1062) none (.ref 662) .none),#[]⟩)::
 (nat_lit 664,tu0)::
 (nat_lit 666,{cls:=.type "tuple",data:=.seq #[.str "_law_cell" 1099,.str "_law_first" 1100]})::
 (nat_lit 667,tu0)::
 (nat_lit 669,{cls:=.type "code",data:=.fields #[.str "_law_letters" 1096,.str "_law_letters" 1097,.str "/claim/cut.py" 1098,.int 265 0,.int 1 0,.int 0 0,.int 0 0,.int 3 0,.ref 664,.bool true,.int 181 0,.ref 665,.none,.ref 666,.ref 667,.ref 668,.int 1101 0,.int 265 0,.str "/claim/cut.py" 1102]})::
 (nat_lit 670,⟨(.type "function"),none,.func (W.fnOf "_law_letters" "_law_letters" (defArgs (top 51)) (defBody (top 51)) (defScope (top 51)) .none .none .none (.str "law_logloom_k52_questions_refused" 1062) none (.ref 669) .none),#[]⟩)::
 (nat_lit 671,tu0)::
 (nat_lit 673,{cls:=.type "tuple",data:=.seq #[.str "_law_cell" 1107,.str "_law_k" 1108]})::
 (nat_lit 674,tu0)::
 (nat_lit 676,{cls:=.type "code",data:=.fields #[.str "_law_count" 1104,.str "_law_count" 1105,.str "/claim/cut.py" 1106,.int 268 0,.int 2 0,.int 0 0,.int 0 0,.int 3 0,.ref 671,.bool true,.int 181 0,.ref 672,.none,.ref 673,.ref 674,.ref 675,.int 1109 0,.int 268 0,.str "/claim/cut.py" 1110]})::
 (nat_lit 677,⟨(.type "function"),none,.func (W.fnOf "_law_count" "_law_count" (defArgs (top 52)) (defBody (top 52)) (defScope (top 52)) .none .none .none (.str "law_logloom_k52_questions_refused" 1062) none (.ref 676) .none),#[]⟩)::
 (nat_lit 678,tu0)::
 (nat_lit 680,{cls:=.type "tuple",data:=.seq #[.str "_law_cell" 1115,.str "_law_letters_here" 1116,.str "_law_pool_here" 1117,.str "_law_kind" 1118,.str "_law_letter" 1119,.str "_law_gap" 1120,.str "_law_other" 1121]})::
 (nat_lit 681,tu0)::
 (nat_lit 683,{cls:=.type "code",data:=.fields #[.str "_law_short" 1112,.str "_law_short" 1113,.str "/claim/cut.py" 1114,.int 270 0,.int 3 0,.int 0 0,.int 0 0,.int 3 0,.ref 678,.bool true,.int 181 0,.ref 679,.none,.ref 680,.ref 681,.ref 682,.int 1122 0,.int 270 0,.str "/claim/cut.py" 1123]})::
 (nat_lit 684,⟨(.type "function"),none,.func (W.fnOf "_law_short" "_law_short" (defArgs (top 53)) (defBody (top 53)) (defScope (top 53)) .none .none .none (.str "law_logloom_k52_questions_refused" 1062) none (.ref 683) .none),#[]⟩)::
 (nat_lit 685,tu0)::
 (nat_lit 687,{cls:=.type "tuple",data:=.seq #[.str "_law_asked" 1128,.str "_law_within" 1129]})::
 (nat_lit 688,tu0)::
 (nat_lit 690,{cls:=.type "code",data:=.fields #[.str "_law_nearer" 1125,.str "_law_nearer" 1126,.str "/claim/cut.py" 1127,.int 280 0,.int 2 0,.int 0 0,.int 0 0,.int 3 0,.ref 685,.bool true,.int 181 0,.ref 686,.none,.ref 687,.ref 688,.ref 689,.int 1130 0,.int 280 0,.str "/claim/cut.py" 1131]})::
 (nat_lit 691,⟨(.type "function"),none,.func (W.fnOf "_law_nearer" "_law_nearer" (defArgs (top 54)) (defBody (top 54)) (defScope (top 54)) .none .none .none (.str "law_logloom_k52_questions_refused" 1062) none (.ref 690) .none),#[]⟩)::
 (nat_lit 692,tu0)::
 (nat_lit 694,{cls:=.type "tuple",data:=.seq #[.str "_law_cells" 1136,.str "_law_letters_here" 1137,.str "_law_pool_here" 1138,.str "_law_within" 1139,.str "_law_cell" 1140,.str "_law_counts" 1141,.str "_law_one" 1142,.str "_law_other" 1143]})::
 (nat_lit 695,tu0)::
 (nat_lit 697,{cls:=.type "code",data:=.fields #[.str "_law_grown" 1133,.str "_law_grown" 1134,.str "/claim/cut.py" 1135,.int 284 0,.int 4 0,.int 0 0,.int 0 0,.int 3 0,.ref 692,.bool true,.int 181 0,.ref 693,.none,.ref 694,.ref 695,.ref 696,.int 1144 0,.int 284 0,.str "/claim/cut.py" 1145]})::
 (nat_lit 698,⟨(.type "function"),none,.func (W.fnOf "_law_grown" "_law_grown" (defArgs (top 55)) (defBody (top 55)) (defScope (top 55)) .none .none .none (.str "law_logloom_k52_questions_refused" 1062) none (.ref 697) .none),#[]⟩)::
 (nat_lit 699,tu0)::
 (nat_lit 701,{cls:=.type "tuple",data:=.seq #[.str "_law_asked" 1150,.str "_law_parts" 1151,.str "_law_part" 1152]})::
 (nat_lit 702,tu0)::
 (nat_lit 704,{cls:=.type "code",data:=.fields #[.str "_law_text" 1147,.str "_law_text" 1148,.str "/claim/cut.py" 1149,.int 298 0,.int 1 0,.int 0 0,.int 0 0,.int 3 0,.ref 699,.bool true,.int 181 0,.ref 700,.none,.ref 701,.ref 702,.ref 703,.int 1153 0,.int 298 0,.str "/claim/cut.py" 1154]})::
 (nat_lit 705,⟨(.type "function"),none,.func (W.fnOf "_law_text" "_law_text" (defArgs (top 56)) (defBody (top 56)) (defScope (top 56)) .none .none .none (.str "law_logloom_k52_questions_refused" 1062) none (.ref 704) .none),#[]⟩)::
 (nat_lit 706,tu0)::
 (nat_lit 708,{cls:=.type "tuple",data:=.seq #[.str "_law_cell" 1159,.str "_law_pool_here" 1160,.str "_law_some" 1161]})::
 (nat_lit 709,tu0)::
 (nat_lit 711,{cls:=.type "code",data:=.fields #[.str "_law_odd_piece" 1156,.str "_law_odd_piece" 1157,.str "/claim/cut.py" 1158,.int 306 0,.int 2 0,.int 0 0,.int 0 0,.int 3 0,.ref 706,.bool true,.int 181 0,.ref 707,.none,.ref 708,.ref 709,.ref 710,.int 1162 0,.int 306 0,.str "/claim/cut.py" 1163]})::
 (nat_lit 712,⟨(.type "function"),none,.func (W.fnOf "_law_odd_piece" "_law_odd_piece" (defArgs (top 57)) (defBody (top 57)) (defScope (top 57)) .none .none .none (.str "law_logloom_k52_questions_refused" 1062) none (.ref 711) .none),#[]⟩)::
 (nat_lit 713,tu0)::
 (nat_lit 715,{cls:=.type "tuple",data:=.seq #[.str "_law_pieces" 1168,.str "_law_cell" 1169,.str "_law_pool_here" 1170,.str "_law_way" 1171,.str "_law_at" 1172,.str "_law_piece" 1173,.str "_law_turned" 1174]})::
 (nat_lit 716,tu0)::
 (nat_lit 718,{cls:=.type "code",data:=.fields #[.str "_law_changed" 1165,.str "_law_changed" 1166,.str "/claim/cut.py" 1167,.int 310 0,.int 3 0,.int 0 0,.int 0 0,.int 3 0,.ref 713,.bool true,.int 181 0,.ref 714,.none,.ref 715,.ref 716,.ref 717,.int 1175 0,.int 310 0,.str "/claim/cut.py" 1176]})::
 (nat_lit 719,⟨(.type "function"),none,.func (W.fnOf "_law_changed" "_law_changed" (defArgs (top 58)) (defBody (top 58)) (defScope (top 58)) .none .none .none (.str "law_logloom_k52_questions_refused" 1062) none (.ref 718) .none),#[]⟩)::
 (nat_lit 720,tu0)::
 (nat_lit 723,{cls:=.type "code",data:=.fields #[.str "_law_made_of" 1178,.str "_law_made_of" 1179,.str "/claim/cut.py" 1180,.int 326 0,.int 2 0,.int 0 0,.int 0 0,.int 3 0,.ref 720,.bool true,.int 181 0,.ref 721,.none,.none,.none,.ref 722,.int 1181 0,.int 326 0,.str "/claim/cut.py" 1182]})::
 (nat_lit 724,⟨(.type "function"),none,.func (W.fnOf "_law_made_of" "_law_made_of" (defArgs (top 59)) (defBody (top 59)) (defScope (top 59)) .none .none .none (.str "law_logloom_k52_questions_refused" 1062) none (.ref 723) .none),#[]⟩)::
 (nat_lit 725,tu0)::
 (nat_lit 727,{cls:=.type "tuple",data:=.seq #[.str "_law_text_here" 1187,.str "_law_small" 1188]})::
 (nat_lit 728,tu0)::
 (nat_lit 730,{cls:=.type "code",data:=.fields #[.str "_law_is_item" 1184,.str "_law_is_item" 1185,.str "/claim/cut.py" 1186,.int 328 0,.int 1 0,.int 0 0,.int 0 0,.int 3 0,.ref 725,.bool true,.int 181 0,.ref 726,.none,.ref 727,.ref 728,.ref 729,.int 1189 0,.int 328 0,.str "/claim/cut.py" 1190]})::
 (nat_lit 731,⟨(.type "function"),none,.func (W.fnOf "_law_is_item" "_law_is_item" (defArgs (top 60)) (defBody (top 60)) (defScope (top 60)) .none .none .none (.str "law_logloom_k52_questions_refused" 1062) none (.ref 730) .none),#[]⟩)::
 (nat_lit 732,tu0)::
 (nat_lit 735,{cls:=.type "code",data:=.fields #[.str "_law_is_word" 1192,.str "_law_is_word" 1193,.str "/claim/cut.py" 1194,.int 333 0,.int 1 0,.int 0 0,.int 0 0,.int 3 0,.ref 732,.bool true,.int 181 0,.ref 733,.none,.none,.none,.ref 734,.int 1195 0,.int 333 0,.str "/claim/cut.py" 1196]})::
 (nat_lit 736,⟨(.type "function"),none,.func (W.fnOf "_law_is_word" "_law_is_word" (defArgs (top 61)) (defBody (top 61)) (defScope (top 61)) .none .none .none (.str "law_logloom_k52_questions_refused" 1062) none (.ref 735) .none),#[]⟩)::
 (nat_lit 737,tu0)::
 (nat_lit 739,{cls:=.type "tuple",data:=.seq #[.str "_law_kind" 1201,.str "_law_within" 1202]})::
 (nat_lit 740,tu0)::
 (nat_lit 742,{cls:=.type "code",data:=.fields #[.str "_law_wanted" 1198,.str "_law_wanted" 1199,.str "/claim/cut.py" 1200,.int 341 0,.int 2 0,.int 0 0,.int 0 0,.int 3 0,.ref 737,.bool true,.int 181 0,.ref 738,.none,.ref 739,.ref 740,.ref 741,.int 1203 0,.int 341 0,.str "/claim/cut.py" 1204]})::
 (nat_lit 743,⟨(.type "function"),none,.func (W.fnOf "_law_wanted" "_law_wanted" (defArgs (top 62)) (defBody (top 62)) (defScope (top 62)) .none .none .none (.str "law_logloom_k52_questions_refused" 1062) none (.ref 742) .none),#[]⟩)::
 (nat_lit 744,tu0)::
 (nat_lit 747,{cls:=.type "code",data:=.fields #[.str "_law_goes" 1206,.str "_law_goes" 1207,.str "/claim/cut.py" 1208,.int 355 0,.int 2 0,.int 0 0,.int 0 0,.int 3 0,.ref 744,.bool true,.int 181 0,.ref 745,.none,.none,.none,.ref 746,.int 1209 0,.int 355 0,.str "/claim/cut.py" 1210]})::
 (nat_lit 748,⟨(.type "function"),none,.func (W.fnOf "_law_goes" "_law_goes" (defArgs (top 63)) (defBody (top 63)) (defScope (top 63)) .none .none .none (.str "law_logloom_k52_questions_refused" 1062) none (.ref 747) .none),#[]⟩)::
 (nat_lit 749,tu0)::
 (nat_lit 751,{cls:=.type "tuple",data:=.seq #[.str "_law_pieces" 1215,.str "_law_wanted_here" 1216,.str "_law_at" 1217,.str "_law_first" 1218]})::
 (nat_lit 752,tu0)::
 (nat_lit 754,{cls:=.type "code",data:=.fields #[.str "_law_due" 1212,.str "_law_due" 1213,.str "/claim/cut.py" 1214,.int 365 0,.int 1 0,.int 0 0,.int 0 0,.int 3 0,.ref 749,.bool true,.int 181 0,.ref 750,.none,.ref 751,.ref 752,.ref 753,.int 1219 0,.int 365 0,.str "/claim/cut.py" 1220]})::
 (nat_lit 755,⟨(.type "function"),none,.func (W.fnOf "_law_due" "_law_due" (defArgs (top 64)) (defBody (top 64)) (defScope (top 64)) .none .none .none (.str "law_logloom_k52_questions_refused" 1062) none (.ref 754) .none),#[]⟩)::
 (nat_lit 756,tu0)::
 (nat_lit 758,{cls:=.type "tuple",data:=.seq #[.str "_law_text_here" 1225,.str "_law_due_here" 1226,.str "_law_told" 1227,.str "_law_found" 1228,.str "e" 1229,.str "_law_other" 1230,.str "_law_based" 1231]})::
 (nat_lit 759,tu0)::
 (nat_lit 761,{cls:=.type "code",data:=.fields #[.str "_law_right" 1222,.str "_law_right" 1223,.str "/claim/cut.py" 1224,.int 377 0,.int 2 0,.int 0 0,.int 0 0,.int 3 0,.ref 756,.bool true,.int 181 0,.ref 757,.none,.ref 758,.ref 759,.ref 760,.int 1232 0,.int 377 0,.str "/claim/cut.py" 1233]})::
 (nat_lit 762,⟨(.type "function"),none,.func (W.fnOf "_law_right" "_law_right" (defArgs (top 65)) (defBody (top 65)) (defScope (top 65)) .none .none .none (.str "law_logloom_k52_questions_refused" 1062) none (.ref 761) .none),#[]⟩)::
 (nat_lit 763,tu0)::
 (nat_lit 766,{cls:=.type "code",data:=.fields #[.str "law" 1235,.str "law" 1236,.str "/claim/cut.py" 1237,.int 395 0,.int 1 0,.int 0 0,.int 0 0,.int 3 0,.ref 763,.bool true,.int 181 0,.ref 764,.none,.none,.none,.ref 765,.int 1238 0,.int 395 0,.str "/claim/cut.py" 1239]})::
 (nat_lit 767,⟨(.type "function"),none,.func (W.fnOf "law" "law" (defArgs (top 66)) (defBody (top 66)) (defScope (top 66)) .none .none .none (.str "law_logloom_k52_questions_refused" 1062) none (.ref 766) .none),#[]⟩)::[]
def hA:List PySem.Addr:=nat_lit 2::nat_lit 3::nat_lit 15::nat_lit 17::nat_lit 18::nat_lit 20::nat_lit 21::nat_lit 22::nat_lit 29::nat_lit 30::nat_lit 31::nat_lit 32::nat_lit 35::nat_lit 42::nat_lit 44::nat_lit 45::nat_lit 47::nat_lit 48::nat_lit 49::nat_lit 50::nat_lit 51::nat_lit 54::nat_lit 61::nat_lit 63::nat_lit 64::nat_lit 66::nat_lit 67::nat_lit 68::nat_lit 69::nat_lit 70::nat_lit 73::nat_lit 80::nat_lit 82::nat_lit 83::nat_lit 85::nat_lit 86::nat_lit 87::nat_lit 88::nat_lit 89::nat_lit 92::nat_lit 99::nat_lit 101::nat_lit 102::nat_lit 104::nat_lit 105::nat_lit 106::nat_lit 107::nat_lit 108::nat_lit 111::nat_lit 118::nat_lit 120::nat_lit 121::nat_lit 123::nat_lit 124::nat_lit 125::nat_lit 126::nat_lit 127::nat_lit 137::nat_lit 139::nat_lit 140::nat_lit 142::nat_lit 143::nat_lit 144::nat_lit 146::nat_lit 147::nat_lit 149::nat_lit 150::nat_lit 151::nat_lit 153::nat_lit 154::nat_lit 156::nat_lit 157::nat_lit 158::nat_lit 159::nat_lit 160::nat_lit 161::nat_lit 162::nat_lit 165::nat_lit 172::nat_lit 174::nat_lit 175::nat_lit 177::nat_lit 178::nat_lit 179::nat_lit 181::nat_lit 182::nat_lit 184::nat_lit 185::nat_lit 186::nat_lit 187::nat_lit 188::nat_lit 191::nat_lit 198::nat_lit 200::nat_lit 201::nat_lit 203::nat_lit 204::nat_lit 205::nat_lit 207::nat_lit 208::nat_lit 210::nat_lit 211::nat_lit 212::nat_lit 213::nat_lit 214::nat_lit 217::nat_lit 224::nat_lit 226::nat_lit 227::nat_lit 229::nat_lit 230::nat_lit 231::nat_lit 233::nat_lit 234::nat_lit 236::nat_lit 237::nat_lit 238::nat_lit 240::nat_lit 241::nat_lit 243::nat_lit 244::nat_lit 245::nat_lit 246::nat_lit 247::nat_lit 250::nat_lit 257::nat_lit 259::nat_lit 260::nat_lit 262::nat_lit 263::nat_lit 264::nat_lit 266::nat_lit 267::nat_lit 269::nat_lit 270::nat_lit 271::nat_lit 273::nat_lit 274::nat_lit 276::nat_lit 277::nat_lit 278::nat_lit 279::nat_lit 280::nat_lit 283::nat_lit 290::nat_lit 292::nat_lit 293::nat_lit 295::nat_lit 296::nat_lit 297::nat_lit 299::nat_lit 300::nat_lit 302::nat_lit 303::nat_lit 304::nat_lit 306::nat_lit 307::nat_lit 309::nat_lit 310::nat_lit 311::nat_lit 313::nat_lit 314::nat_lit 316::nat_lit 317::nat_lit 318::nat_lit 319::nat_lit 320::nat_lit 323::nat_lit 330::nat_lit 332::nat_lit 333::nat_lit 335::nat_lit 336::nat_lit 337::nat_lit 339::nat_lit 340::nat_lit 342::nat_lit 343::nat_lit 344::nat_lit 346::nat_lit 347::nat_lit 349::nat_lit 350::nat_lit 351::nat_lit 352::nat_lit 353::nat_lit 356::nat_lit 363::nat_lit 365::nat_lit 366::nat_lit 368::nat_lit 369::nat_lit 370::nat_lit 371::nat_lit 372::nat_lit 375::nat_lit 382::nat_lit 384::nat_lit 385::nat_lit 387::nat_lit 388::nat_lit 389::nat_lit 390::nat_lit 391::nat_lit 394::nat_lit 401::nat_lit 403::nat_lit 404::nat_lit 406::nat_lit 407::nat_lit 408::nat_lit 410::nat_lit 411::nat_lit 413::nat_lit 414::nat_lit 415::nat_lit 417::nat_lit 418::nat_lit 420::nat_lit 421::nat_lit 422::nat_lit 424::nat_lit 425::nat_lit 427::nat_lit 428::nat_lit 429::nat_lit 430::nat_lit 431::nat_lit 434::nat_lit 437::nat_lit 438::nat_lit 446::nat_lit 448::nat_lit 449::nat_lit 451::nat_lit 452::nat_lit 453::nat_lit 455::nat_lit 456::nat_lit 458::nat_lit 459::nat_lit 460::nat_lit 461::nat_lit 462::nat_lit 463::nat_lit 464::nat_lit 467::nat_lit 474::nat_lit 476::nat_lit 477::nat_lit 479::nat_lit 480::nat_lit 481::nat_lit 483::nat_lit 484::nat_lit 486::nat_lit 487::nat_lit 488::nat_lit 489::nat_lit 490::nat_lit 493::nat_lit 500::nat_lit 502::nat_lit 503::nat_lit 505::nat_lit 506::nat_lit 507::nat_lit 509::nat_lit 510::nat_lit 512::nat_lit 513::nat_lit 514::nat_lit 515::nat_lit 516::nat_lit 519::nat_lit 526::nat_lit 528::nat_lit 529::nat_lit 531::nat_lit 532::nat_lit 533::nat_lit 536::nat_lit 537::nat_lit 538::nat_lit 539::nat_lit 540::nat_lit 543::nat_lit 550::nat_lit 552::nat_lit 553::nat_lit 555::nat_lit 556::nat_lit 557::nat_lit 559::nat_lit 560::nat_lit 562::nat_lit 563::nat_lit 564::nat_lit 565::nat_lit 566::nat_lit 569::nat_lit 571::nat_lit 572::nat_lit 574::nat_lit 575::nat_lit 576::nat_lit 578::nat_lit 579::nat_lit 581::nat_lit 582::nat_lit 583::nat_lit 585::nat_lit 586::nat_lit 588::nat_lit 589::nat_lit 590::nat_lit 591::nat_lit 592::nat_lit 593::nat_lit 594::nat_lit 595::nat_lit 596::nat_lit 597::nat_lit 598::nat_lit 599::nat_lit 600::nat_lit 601::nat_lit 603::nat_lit 604::nat_lit 606::nat_lit 607::nat_lit 608::nat_lit 610::nat_lit 611::nat_lit 613::nat_lit 614::nat_lit 615::nat_lit 617::nat_lit 618::nat_lit 620::nat_lit 621::nat_lit 622::nat_lit 624::nat_lit 625::nat_lit 627::nat_lit 628::nat_lit 629::nat_lit 631::nat_lit 632::nat_lit 634::nat_lit 635::nat_lit 636::nat_lit 638::nat_lit 639::nat_lit 641::nat_lit 642::nat_lit 643::nat_lit 645::nat_lit 646::nat_lit 648::nat_lit 649::nat_lit 650::nat_lit 652::nat_lit 653::nat_lit 655::nat_lit 656::nat_lit 657::nat_lit 659::nat_lit 660::nat_lit 662::nat_lit 663::nat_lit 664::nat_lit 666::nat_lit 667::nat_lit 669::nat_lit 670::nat_lit 671::nat_lit 673::nat_lit 674::nat_lit 676::nat_lit 677::nat_lit 678::nat_lit 680::nat_lit 681::nat_lit 683::nat_lit 684::nat_lit 685::nat_lit 687::nat_lit 688::nat_lit 690::nat_lit 691::nat_lit 692::nat_lit 694::nat_lit 695::nat_lit 697::nat_lit 698::nat_lit 699::nat_lit 701::nat_lit 702::nat_lit 704::nat_lit 705::nat_lit 706::nat_lit 708::nat_lit 709::nat_lit 711::nat_lit 712::nat_lit 713::nat_lit 715::nat_lit 716::nat_lit 718::nat_lit 719::nat_lit 720::nat_lit 723::nat_lit 724::nat_lit 725::nat_lit 727::nat_lit 728::nat_lit 730::nat_lit 731::nat_lit 732::nat_lit 735::nat_lit 736::nat_lit 737::nat_lit 739::nat_lit 740::nat_lit 742::nat_lit 743::nat_lit 744::nat_lit 747::nat_lit 748::nat_lit 749::nat_lit 751::nat_lit 752::nat_lit 754::nat_lit 755::nat_lit 756::nat_lit 758::nat_lit 759::nat_lit 761::nat_lit 762::nat_lit 763::nat_lit 766::nat_lit 767::[]
theorem hE:∀P,hA=(hK P).map (·.1):=fun _=>by kernel_rfl
def hQ:PySem.Program:={ PySem.Challenge.pw_logloom_k52_questions_refused with
 main:={ PySem.Challenge.pw_logloom_k52_questions_refused.main with
  body:=[top 0,top 2,top 3,top 4,top 5,top 6,top 7,top 9,top 10,top 11,top 12,top 13,top 14,top 15,top 16,top 17,top 18,top 20,top 21,top 22,top 23,top 24,top 25,top 26,top 27,top 28,top 29,top 30,top 31,top 32,top 33,top 34,top 35,top 37,top 38,top 39,top 40,top 41,top 42,top 43,top 44,top 45,top 46,top 48,top 49,top 50,top 51,top 52,top 53,top 54,top 55,top 56,top 57,top 58,top 59,top 60,top 61,top 62,top 63,top 64,top 65,top 66] } }
abbrev hH:W.Hook:=W.kHook hK hA hE
abbrev hX (s:PySem.Shared):Bool:=W.xlAt hQ [] s&&
 W.recOk (W.RowW.records (W.OpenRow.toRowW (W.OpenLaw.row PySem.Challenge.rw_logloom_k52_questions_refused))) s
set_option maxHeartbeats 0
noncomputable abbrev hR (w:PySem.World) (o:PySem.OsState) (b:Bool):=HT.runQ PySem.Challenge.pw_logloom_k52_questions_refused (w.withFollow "special-get-raises" b) 14226 (HT.at0 (w.withFollow "special-get-raises" b) o) (W.topStub PySem.Challenge.pw_logloom_k52_questions_refused)
open PySem PySem.W in
theorem hL2f (w:PySem.World)(o:PySem.OsState):(hR w o false).map (fun b=>W.Fast.tw4187177175401517315 hQ [PySem.Str.ofString "KINDS",PySem.Str.ofString "LEAST",PySem.Str.ofString "GREATEST"] (importedModules (PySem.Challenge.pw_logloom_k52_questions_refused).main.body) hX true b.abs)=some (W.openGood hQ [PySem.Str.ofString "KINDS",PySem.Str.ofString "LEAST",PySem.Str.ofString "GREATEST"]):=by kernel_rfl
theorem hL1f (w:PySem.World)(o:PySem.OsState):(hR w o false).map (fun b=>HT.kept PySem.Challenge.pw_logloom_k52_questions_refused (w.withFollow "special-get-raises" false).params b.abs)=some true:=by kernel_rfl
theorem hL3f (w:PySem.World)(o:PySem.OsState):(hR w o false).map (fun b=>hH.obs b.abs)=some (hH.val (w.withFollow "special-get-raises" false)):=by kernel_rfl
open PySem PySem.W in
theorem hL2t (w:PySem.World)(o:PySem.OsState):(hR w o true).map (fun b=>W.Fast.tw4187177175401517315 hQ [PySem.Str.ofString "KINDS",PySem.Str.ofString "LEAST",PySem.Str.ofString "GREATEST"] (importedModules (PySem.Challenge.pw_logloom_k52_questions_refused).main.body) hX true b.abs)=some (W.openGood hQ [PySem.Str.ofString "KINDS",PySem.Str.ofString "LEAST",PySem.Str.ofString "GREATEST"]):=by kernel_rfl
theorem hL1t (w:PySem.World)(o:PySem.OsState):(hR w o true).map (fun b=>HT.kept PySem.Challenge.pw_logloom_k52_questions_refused (w.withFollow "special-get-raises" true).params b.abs)=some true:=by kernel_rfl
theorem hL3t (w:PySem.World)(o:PySem.OsState):(hR w o true).map (fun b=>hH.obs b.abs)=some (hH.val (w.withFollow "special-get-raises" true)):=by kernel_rfl
theorem hL:W.LeftO PySem.Challenge.pw_logloom_k52_questions_refused hQ [PySem.Str.ofString "KINDS",PySem.Str.ofString "LEAST",PySem.Str.ofString "GREATEST"] hX hH.obs hH.val 14226:=HT.left3 rfl rfl (fun _=>rfl)
 (fun w o=>W.byRow2 "special-get-raises" (P:=fun w=>(HT.runQ PySem.Challenge.pw_logloom_k52_questions_refused w 14226 (HT.at0 w o) (W.topStub PySem.Challenge.pw_logloom_k52_questions_refused)).map (fun b=>HT.kept PySem.Challenge.pw_logloom_k52_questions_refused w.params b.abs)=some true) (fun w=>hL1f w o) (fun w=>hL1t w o) w)
 (fun w o=>W.byRow2 "special-get-raises" (P:=fun w=>(HT.runQ PySem.Challenge.pw_logloom_k52_questions_refused w 14226 (HT.at0 w o) (W.topStub PySem.Challenge.pw_logloom_k52_questions_refused)).map (fun b=>W.Fast.tw4187177175401517315 hQ [PySem.Str.ofString "KINDS",PySem.Str.ofString "LEAST",PySem.Str.ofString "GREATEST"] (PySem.importedModules (PySem.Challenge.pw_logloom_k52_questions_refused).main.body) hX true b.abs)=some (W.openGood hQ [PySem.Str.ofString "KINDS",PySem.Str.ofString "LEAST",PySem.Str.ofString "GREATEST"])) (fun w=>hL2f w o) (fun w=>hL2t w o) w)
 (fun w o=>W.byRow2 "special-get-raises" (P:=fun w=>(HT.runQ PySem.Challenge.pw_logloom_k52_questions_refused w 14226 (HT.at0 w o) (W.topStub PySem.Challenge.pw_logloom_k52_questions_refused)).map (fun b=>hH.obs b.abs)=some (hH.val w)) (fun w=>hL3f w o) (fun w=>hL3t w o) w)
set_option maxHeartbeats 4000000
end QL
namespace L2
open PySem PySem.Spec PyProof.Rows
abbrev Key:=Sum Int Str
def keyIs:Key->Value->Bool
 |.inl k,v=>Value.isInt k v
 |.inr x,v=>Value.isStrOf x v
def keyH (w:World):Key->Int
 |.inl k=>hashInt k
 |.inr x=>hashStr w x
theorem keyIs_shape:∀{k:Key} {v:Value},keyIs k v=true->(∃i t,k=Sum.inl i/\v=Value.int i t)\/(∃x t,k=Sum.inr x/\v=Value.str x t)
 |.inl i,v,h=>by
  obtain⟨t,e⟩:=Value.isInt_shape (k:=i) (v:=v) h
  exact .inl ⟨i,t,rfl,e⟩
 |.inr x,v,h=>by
  obtain⟨t,e⟩:=Value.isStrOf_shape (x:=x) (v:=v) h
  exact .inr ⟨x,t,rfl,e⟩
theorem keyIs_int (i:Int)(t:Tok):keyIs (.inl i) (.int i t)=true:=by simp[keyIs,Value.isInt]
theorem keyIs_str (x:Str)(t:Tok):keyIs (.inr x) (.str x t)=true:=by simp[keyIs,Value.isStrOf]
theorem key_ll (a b:Int):decide ((Sum.inl a:Key)=Sum.inl b)=(a==b):=by
 by_cases e:a=b
 ·subst e;simp
 ·have h:¬(Sum.inl a:Key)=Sum.inl b:=fun q=>e (Sum.inl.inj q)
  rw[decide_eq_false h]
  exact(beq_eq_false_iff_ne.mpr e).symm
theorem key_rr (a b:Str):decide ((Sum.inr a:Key)=Sum.inr b)=decide (a=b):=by
 by_cases e:a=b
 ·subst e;simp
 ·have h:¬(Sum.inr a:Key)=Sum.inr b:=fun q=>e (Sum.inr.inj q)
  rw[decide_eq_false h,decide_eq_false e]
theorem key_lr (a:Int)(b:Str):decide ((Sum.inl a:Key)=Sum.inr b)=false:=decide_eq_false (fun q=>nomatch q)
theorem key_rl (a:Str)(b:Int):decide ((Sum.inr a:Key)=Sum.inl b)=false:=decide_eq_false (fun q=>nomatch q)
def mixKind (prog:Program)(w:World):PySem.KeyKind prog w Key where
 is:=keyIs
 hash:=keyH w
 inj:=fun v a b ha hb=>by
  rcases keyIs_shape ha with⟨i,t,rfl,rfl⟩|⟨x,t,rfl,rfl⟩
  ·rcases keyIs_shape hb with⟨j,u,rfl,e⟩|⟨y,u,rfl,e⟩
   ·injection e with e1 _;rw[e1]
   ·exact nomatch e
  ·rcases keyIs_shape hb with⟨j,u,rfl,e⟩|⟨y,u,rfl,e⟩
   ·exact nomatch e
   ·injection e with e1 _;rw[e1]
 byValue:=fun k v h=>by
  rcases keyIs_shape h with⟨i,t,rfl,rfl⟩|⟨x,t,rfl,rfl⟩<;>rfl
 pyHash:=fun hv h=>by
  rcases keyIs_shape hv with⟨i,t,rfl,rfl⟩|⟨x,t,rfl,rfl⟩
  ·exact wpAny_pyHash_int h
  ·exact wpAny_pyHash_str h
 eqBool:=fun hu hv h=>by
  rcases keyIs_shape hu with⟨i,t,rfl,rfl⟩|⟨x,t,rfl,rfl⟩
  ·rcases keyIs_shape hv with⟨j,u,rfl,rfl⟩|⟨y,u,rfl,rfl⟩
   ·rw[key_ll] at h;exact wpAny_eqBool_int h
   ·rw[key_lr] at h;exact SeqAt.EqAt.int_str i t y u _ _ _ _ h
  ·rcases keyIs_shape hv with⟨j,u,rfl,rfl⟩|⟨y,u,rfl,rfl⟩
   ·rw[key_rl] at h;exact SeqAt.EqAt.str_int x t j u _ _ _ _ h
   ·rw[key_rr] at h;exact wpAny_eqBool_str h
 «strs»:=fun k x t v h=>by
  rcases keyIs_shape h with⟨i,u,rfl,e⟩|⟨y,u,rfl,e⟩
  ·exact nomatch e
  ·injection e with e1 _
   subst e1
   cases v<;>rfl
theorem mixKind_int (prog:Program)(w:World)(i:Int)(t:Tok):(mixKind prog w).is (.inl i) (.int i t)=true:=keyIs_int i t
theorem mixKind_str (prog:Program)(w:World)(x:Str)(t:Tok):(mixKind prog w).is (.inr x) (.str x t)=true:=keyIs_str x t
end L2
namespace L2
open PySem PySem.Spec PyProof.Rows
inductive V where
 |non|bl (b:Bool)|int (i:Int)|str (x:Str)|byt (b:Array UInt8)|flt (b:UInt64)|ref (a:Addr)|ty (n:String)
 deriving DecidableEq
def RelV:V->Value->Prop
 |.non,u=>u=Value.none
 |.bl b,u=>u=Value.bool b
 |.int i,u=>∃t,u=Value.int i t
 |.str x,u=>∃t,u=Value.str x t
 |.byt b,u=>∃t,u=Value.bytes b t
 |.flt b,u=>∃t,u=Value.float b t
 |.ref a,u=>u=Value.ref a
 |.ty n,u=>u=Value.type n
abbrev Vals:List V->List Value->Prop:=Paired RelV
theorem Vals.length {xs:List V}{us:List Value}(r:Vals xs us):xs.length=us.length:=Paired.length r
theorem Vals.get:∀{xs:List V} {us:List Value} {i:Nat} {x:V},Vals xs us->xs[i]?=some x->∃u,us[i]?=some u/\RelV x u
 |_,_,_,_,.nil,e=>by simp at e
 |_,_,0,_,.cons r _,e=>by simp at e;subst e;exact⟨_,rfl,r⟩
 |_,_,i+1,x,.cons _ t,e=>by
  obtain⟨u,h1,h2⟩:=Vals.get (i:=i) (x:=x) t (by simpa using e)
  exact⟨u,by simpa using h1,h2⟩
theorem Vals.append:∀{xs ys:List V} {us ws:List Value},Vals xs us->Vals ys ws->Vals (xs++ys) (us++ws)
 |_,_,_,_,.nil,s=>s
 |_,_,_,_,.cons r t,s=>.cons r (Vals.append t s)
theorem Vals.take:∀{xs:List V} {us:List Value} (n:Nat),Vals xs us->Vals (xs.take n) (us.take n)
 |_,_,0,_=>.nil
 |_,_,_+1,.nil=>.nil
 |_,_,n+1,.cons r t=>.cons r (Vals.take n t)
theorem Vals.drop:∀{xs:List V} {us:List Value} (n:Nat),Vals xs us->Vals (xs.drop n) (us.drop n)
 |_,_,0,r=>r
 |_,_,_+1,.nil=>.nil
 |_,_,n+1,.cons _ t=>Vals.drop n t
def RelO:Option V->Option Value->Prop
 |some v,some u=>RelV v u
 |none,none=>True
 |_,_=>False
def KV {κ:Type}:List (κ×V)->List (κ×Value)->Prop:=Paired fun(p:κ×V) (q:κ×Value)=>p.1=q.1/\RelV p.2 q.2
def kV:Key->V
 |.inl i=>.int i
 |.inr x=>.str x
inductive HO where
 |lst (xs:List V)
 |tup (xs:List V)
 |dK (kvs:List (Key×V))|dT (kvs:List (List Key×V))
 |set (S:Int->Bool) (n:Nat)
 |ins (C dx:Addr) (fs:List (Str×V))
 |own (x:Addr)
 |xd (fs:List (Str×V))
 |met (f x:Addr)
 |rng (lo hi:Int)
 |frz (o:Obj) (u:HO)
 |tbl (ps:Array Value)
 |ext (φ:Heap->Prop)
abbrev Hp:=Addr->Option HO
def upd (H:Hp)(a:Addr)(o:HO):Hp:=fun b=>if b=a then some o else H b
theorem upd_same {H:Hp}{a:Addr}{o:HO}:upd H a o a=some o:=by unfold upd;rw[if_pos rfl]
theorem upd_ne {H:Hp}{a b:Addr}{o:HO}(h:b≠a):upd H a o b=H b:=by unfold upd;rw[if_neg h]
theorem ne_of_none {H:Hp}{a b:Addr}{o:HO}(h:H a=some o)(h':H b=none):a≠b:=by
 intro e;subst e;rw[h] at h';cases h'
section
variable (P:Program) (w:World)
def ObjOk (H:Hp)(h:Heap)(a:Addr):HO->Prop
 |.lst xs=>xs.length<=sizeLine/\∃(its:List Value) (n:Nat),Vals xs its/\h.get? a=some { cls:=.type "list",data:=.seq its.toArray n }
 |.tup xs=>xs.length<=sizeLine/\∃its:List Value,Vals xs its/\IsTup h a its.toArray
 |.dK kvs=>kvs.length<=sizeLine/\(a==sysModules)=false/\∃vs,KV kvs vs/\h.DictOf (mixKind P w) a vs
 |.dT kvs=>kvs.length<=sizeLine/\(a==sysModules)=false/\∃xs:List (List Key×Addr×Value),
   Paired (fun(p:List Key×V) (q:List Key×Addr×Value)=>p.1=q.1/\H q.2.1=some (.tup (p.1.map kV))/\RelV p.2 q.2.2) kvs xs∧
   ∃o es ep,h.get? a=some o/\o.ExactDict/\o.data=.dict es ep/\es.toList=xs.map (entryOfKey (tupleKind (mixKind P w)))/\(xs.map (·.1)).Nodup
 |.set S n=>h.SetOf (intKind P w) a S n
 |.ins C dx fs=>H dx=some (.own a)/\fs.length<=1000/\dx≠a/\h.get? a=some (W.instObj C dx)∧
   ∃mA,h.Ns1 dx mA/\(∀f,RelO (fs.lookup f) (mA f))/\PySem.Within mA (fs.map (·.1))
 |.own _=>∃o,h.get? a=some o
 |.xd fs=>∃mA,h.Ns1 a mA/\∀f,RelO (fs.lookup f) (mA f)
 |.rng lo hi=>∃t u v,h.get? a=some { cls:=.type "range",data:=.fields #[.int lo t,.int hi u,.int 1 v] }
 |.frz o u=>h.get? a=some o/\ObjOk H h a u
 |.tbl ps=>h.get? a=some { cls:=.none,data:=.fields ps }
 |.met f x=>h.get? a=some (W.methodObj (.ref f) (.ref x))
 |.ext φ=>φ h/\(∃o,h.get? a=some o)/\∀h1 h2:Heap,φ h1->(∀o,h1.get? a=some o->h2.get? a=some o)->φ h2
def HOk (H:Hp)(h:Heap):Prop:=∀a o,H a=some o->ObjOk P w H h a o
end
section
variable {P:Program} {w:World} {H H':Hp} {h h':Heap} {a:Addr} {o:HO}
theorem ObjOk.lt (x:ObjOk P w H h a o):a<h.objs.size:=by
 cases o with
 |lst xs=>obtain⟨_,_,_,_,e⟩:=x;exact Heap.lt_size e
 |tup xs=>obtain⟨_,_,_,p⟩:=x;exact p.lt
 |dK kvs=>obtain⟨_,_,_,_,o,_,_,e,_⟩:=x;exact Heap.lt_size e
 |dT kvs=>obtain⟨_,_,_,_,o,_,_,e,_⟩:=x;exact Heap.lt_size e
 |set S n=>obtain⟨o,_,_,_,e,_⟩:=x;exact Heap.lt_size e
 |ins C dx fs=>obtain⟨_,_,_,e,_⟩:=x;exact Heap.lt_size e
 |own y=>obtain⟨_,e⟩:=x;exact Heap.lt_size e
 |xd fs=>obtain⟨_,⟨_,_,_,e,_⟩,_⟩:=x;exact Heap.lt_size e
 |rng lo hi=>obtain⟨_,_,_,e⟩:=x;exact Heap.lt_size e
 |frz ob u=>obtain⟨e,_⟩:=x;exact Heap.lt_size e
 |tbl ps=>exact Heap.lt_size (show h.get? a=some _ from x)
 |met f y=>exact Heap.lt_size (show h.get? a=some _ from x)
 |ext φ=>obtain⟨_,⟨_,e⟩,_⟩:=x;exact Heap.lt_size e
theorem Paired.mapP {α β:Type}{F G:α->β->Prop}:∀{l₁:List α} {l₂:List β},Paired F l₁ l₂->(∀a b,F a b->G a b)->Paired G l₁ l₂
 |_,_,.nil,_=>.nil
 |_,_,.cons r t,f=>.cons (f _ _ r) (Paired.mapP t f)
theorem ObjOk.stay (x:ObjOk P w H h a o)(k:∀b u,(b=a\/H b=some (.own a))->h.get? b=some u->h'.get? b=some u)
  (ho:∀b,H b=some (.own a)->H' b=some (.own a)) (ht:∀b xs,H b=some (.tup xs)->H' b=some (.tup xs)):ObjOk P w H' h' a o:=by
 induction o with
 |lst xs=>obtain⟨z,its,n,r,e⟩:=x;exact⟨z,its,n,r,k _ _ (.inl rfl) e⟩
 |tup xs=>obtain⟨z,its,r,ob,e,c⟩:=x;exact⟨z,its,r,ob,k _ _ (.inl rfl) e,c⟩
 |dK kvs=>obtain⟨z,y,vs,r,ob,es,ep,e,c⟩:=x;exact⟨z,y,vs,r,ob,es,ep,k _ _ (.inl rfl) e,c⟩
 |dT kvs=>
  obtain⟨z,y,xs,r,ob,es,ep,e,c⟩:=x
  exact⟨z,y,xs,Paired.mapP r fun p q z=>⟨z.1,ht _ _ z.2.1,z.2.2⟩,ob,es,ep,k _ _ (.inl rfl) e,c⟩
 |set S n=>obtain⟨ob,es,ep,t,e,c⟩:=x;exact⟨ob,es,ep,t,k _ _ (.inl rfl) e,c⟩
 |ins C dx fs=>
  obtain⟨d,z,ne,e,mA,⟨od,es,ep,e2,c⟩,r⟩:=x
  exact⟨ho _ d,z,ne,k _ _ (.inl rfl) e,mA,⟨od,es,ep,k _ _ (.inr d) e2,c⟩,r⟩
 |own y=>obtain⟨ob,e⟩:=x;exact⟨ob,k _ _ (.inl rfl) e⟩
 |xd fs=>obtain⟨mA,⟨od,es,ep,e,c⟩,r⟩:=x;exact⟨mA,⟨od,es,ep,k _ _ (.inl rfl) e,c⟩,r⟩
 |rng lo hi=>obtain⟨t,u,v,e⟩:=x;exact⟨t,u,v,k _ _ (.inl rfl) e⟩
 |frz ob u ih=>obtain⟨e,q⟩:=x;exact⟨k _ _ (.inl rfl) e,ih q⟩
 |tbl ps=>
  have e:h.get? a=some { cls:=.none,data:=.fields ps }:=x
  show h'.get? a=some { cls:=.none,data:=.fields ps }
  exact k a _ (.inl rfl) e
 |met f y=>
  have e:h.get? a=some (W.methodObj (.ref f) (.ref y)):=x
  show h'.get? a=some (W.methodObj (.ref f) (.ref y))
  exact k a _ (.inl rfl) e
 |ext φ=>obtain⟨p,⟨o,e⟩,st⟩:=x;exact⟨st _ _ p fun o q=>k _ _ (.inl rfl) q,⟨o,k _ _ (.inl rfl) e⟩,st⟩
theorem HOk.lt (x:HOk P w H h)(e:H a=some o):a<h.objs.size:=(x a o e).lt
theorem HOk.fresh (x:HOk P w H h)(e:h.objs.size<=a):H a=none:=by
 cases q:H a with
 |none=>rfl
 |some u=>exact absurd (Nat.lt_of_lt_of_le (x.lt q) e) (Nat.lt_irrefl _)
theorem HOk.kept (x:HOk P w H h)(k:∀b u,h.get? b=some u->h'.get? b=some u):HOk P w H h':=fun a o e=>
 (x a o e).stay (fun b u _ q=>k b u q) (fun _ q=>q) fun _ _ q=>q
theorem HOk.laid (x:HOk P w H h)(k:∀b u,h.get? b=some u->h'.get? b=some u)(hp:h.objs.size<=a)(new:ObjOk P w (upd H a o) h' a o):HOk P w (upd H a o) h':=fun b u e=>by
 have hn:=x.fresh hp
 by_cases hb:b=a
 ·subst hb;rw[upd_same] at e;cases e;exact new
 ·rw[upd_ne hb] at e
  exact(x b u e).stay (fun c v _ q=>k c v q) (fun c q=>by rw[upd_ne (ne_of_none q hn)];exact q) fun c xs q=>by rw[upd_ne (ne_of_none q hn)];exact q
end
def Rd (H:Hp)(a:Addr)(u:HO):Prop:=H a=some u\/∃o,H a=some (.frz o u)
theorem Rd.ok {P:Program}{w:World}{H:Hp}{h:Heap}{a:Addr}{u:HO}(r:Rd H a u)(x:HOk P w H h):ObjOk P w H h a u:=by
 rcases r with r|⟨o,r⟩
 ·exact x a u r
 ·obtain⟨_,q⟩:=x a _ r
  exact q
def Mut:Option HO->Prop
 |some (.lst _)=>True
 |some (.dK _)=>True
 |some (.dT _)=>True
 |some (.set _ _)=>True
 |some (.ins _ _ _)=>True
 |some (.ext _)=>True
 |_=>False
section
variable {P:Program} {w:World} {H:Hp} {h h':Heap} {x e:Addr} {o':HO}
theorem HOk.write (ok:HOk P w H h)(mu:Mut (H x))(he:e=x\/H e=some (.own x))(k:∀b u,b≠e->h.get? b=some u->h'.get? b=some u)(heo:∃u,h'.get? e=some u)
  (new:ObjOk P w (upd H x o') h' x o'):HOk P w (upd H x o') h':=fun b u q=>by
 have nown:∀c y,H c=some (.own y)->c≠x:=fun c y r z=>by subst z;rw[r] at mu;exact mu
 have ntup:∀c xs,H c=some (.tup xs)->c≠x:=fun c xs r z=>by subst z;rw[r] at mu;exact mu
 by_cases hb:b=x
 ·subst hb;rw[upd_same] at q;cases q;exact new
 ·rw[upd_ne hb] at q
  by_cases hbe:b=e
  ·have q':H b=some (.own x):=by
    rcases he with z|z
    ·exact absurd (hbe.trans z) hb
    ·rw[hbe];exact z
   rw[q] at q';cases q'
   obtain⟨v,hv⟩:=heo
   exact⟨v,by rw[hbe];exact hv⟩
  ·refine(ok b u q).stay (fun c v hc r=>k c v ?_ r) (fun c r=>by rw[upd_ne (nown c b r)];exact r) fun c xs r=>by rw[upd_ne (ntup c xs r)];exact r
   rcases hc with rfl|hc
   ·exact hbe
   ·rintro rfl
    rcases he with z|z
    ·exact nown c b hc z
    ·rw[hc] at z;cases z;exact hb rfl
end
structure Un (fs ex:List Addr)(H H':Hp)(h h':Heap):Prop where
 keep:∀b o,h.get? b=some o->H b=none->b∉fs->b∉ex->h'.get? b=some o
 slot:∀b o,h.get? b=some o->H b=none->b∈fs->b∉ex->∃sl,h'.get? b=some { o with slots:=sl }
 free:∀b o,h.get? b=some o->H b=none->b∉ex->H' b=none
 there:∀b o,h.get? b=some o->b∉ex->∃o',h'.get? b=some o'
 tups:∀b xs,H b=some (.tup xs)->H' b=some (.tup xs)
 frzs:∀b o u,H b=some (.frz o u)->H' b=some (.frz o u)
 tbls:∀b ps,H b=some (.tbl ps)->∃more,H' b=some (.tbl (ps++more))
section
variable {fs fs' ex ex':List Addr} {H H1 H2:Hp} {h h1 h2 h':Heap} {a x e:Addr} {o:HO}
theorem Un.any (u:Un fs ex H H1 h h1){b:Addr}{ob:Obj}(q:h.get? b=some ob)(n:H b=none)(hx:b∉ex):∃sl,h1.get? b=some { ob with slots:=sl }:=by
 by_cases hb:b∈fs
 ·exact u.slot b ob q n hb hx
 ·exact⟨ob.slots,u.keep b ob q n hb hx⟩
theorem Un.kept (k:∀b u,h.get? b=some u->h'.get? b=some u):Un fs ex H H h h':=
 ⟨fun b ob q _ _ _=>k b ob q,fun b ob q _ _ _=>⟨ob.slots,k b ob q⟩,fun _ _ _ n _=>n,fun b ob q _=>⟨ob,k b ob q⟩,fun _ _ q=>q,fun _ _ _ q=>q,fun _ ps q=>⟨#[],by rw[q];simp⟩⟩
theorem Un.refl:Un fs ex H H h h:=Un.kept fun _ _ q=>q
theorem Un.laid (k:∀b u,h.get? b=some u->h'.get? b=some u)(hp:h.objs.size<=a)(hn:H a=none):Un fs ex H (upd H a o) h h' where
 keep:=fun b u q _ _ _=>k b u q
 slot:=fun b u q _ _ _=>⟨u.slots,k b u q⟩
 free:=fun b u q n _=>by rw[upd_ne (Nat.ne_of_lt (Nat.lt_of_lt_of_le (Heap.lt_size q) hp))];exact n
 there:=fun b u q _=>⟨u,k b u q⟩
 tups:=fun b xs q=>by rw[upd_ne (ne_of_none q hn)];exact q
 frzs:=fun b u xs q=>by rw[upd_ne (ne_of_none q hn)];exact q
 tbls:=fun b ps q=>⟨#[],by rw[upd_ne (ne_of_none q hn),q];simp⟩
theorem Un.write (mu:Mut (H x))(he:e=x\/H e=some (.own x))(k:∀b u,b≠e->h.get? b=some u->h'.get? b=some u)(heo:∃u,h'.get? e=some u):Un fs ex H (upd H x o) h h':=by
 have hx:∀b,H b=none->b≠x:=fun b n z=>by subst z;rw[n] at mu;exact mu
 have hb:∀b,H b=none->b≠e:=fun b n z=>by
  subst z
  rcases he with r|r
  ·exact hx b n r
  ·rw[n] at r;cases r
 have hm:∀b u,H b=some u->¬Mut (some u)->b≠x:=fun b u q nm z=>by subst z;rw[q] at mu;exact nm mu
 refine⟨fun b u q n _ _=>k b u (hb b n) q,fun b u q n _ _=>⟨u.slots,k b u (hb b n) q⟩,fun b u q n _=>by rw[upd_ne (hx b n)];exact n,fun b u q _=>?_,
  fun b xs q=>by rw[upd_ne (hm b _ q fun z=>z)];exact q,fun b u xs q=>by rw[upd_ne (hm b _ q fun z=>z)];exact q,fun b ps q=>⟨#[],by rw[upd_ne (hm b _ q fun z=>z),q];simp⟩⟩
 by_cases hbe:b=e
 ·subst hbe;exact heo
 ·exact⟨u,k b u hbe q⟩
end
def trk (h:Heap)(H:Hp):List Addr:=(List.range h.objs.size).filter fun a=>(H a).isSome
def hidT (h:Heap)(H:Hp):Heap:=W.hideAll h (trk h H)
theorem hidT_size (h:Heap)(H:Hp):(hidT h H).objs.size=h.objs.size:=W.hideAll_size _ _
theorem hidT_get {h:Heap}{H:Hp}{b:Addr}{o:Obj}(e:h.get? b=some o)(n:H b=none):(hidT h H).get? b=some o:=
 W.hideAll_get _ e fun hm=>by
  have q:(H b).isSome=true:=(List.mem_filter.mp hm).2
  rw[n] at q;simp at q
theorem of_hidT {h:Heap}{H:Hp}{b:Addr}{o:Obj}(e:(hidT h H).get? b=some o):h.get? b=some o/\H b=none:=by
 have e':h.get? b=some o:=W.of_hideAll (trk h H) e
 refine⟨e',?_⟩
 cases q:H b with
 |none=>rfl
 |some x=>
  have hm:b∈trk h H:=List.mem_filter.mpr ⟨List.mem_range.mpr (Heap.lt_size e'),by simp[q]⟩
  have z:(hidT h H).get? b=none:=W.hideAll_none (trk h H) hm
  rw[z] at e;cases e
end L2
namespace L2
open PySem PySem.Spec PyProof.Rows
structure Mod (K:W.Frag)(mg:Str->Option Value)(base:Heap):Prop where
 kin:K.In base
 glob:base.Ns mainGlobals mg
 blt:∃mb,base.Ns builtinsNs mb/\∀x:Str,x≠"__name__"->mb x=bootBuiltins x
 nolimit:base.NoLimit
structure Cx where
 prog:Program
 w:World
 K:W.Frag
 mg:Str->Option Value
 base:Heap
 A:Around
 N:List Str
 s₀:Shared
 H₀:Hp
 env:Env
 outer:List Env
 stack:List Env
 ex:List Addr
 fn:Str->Bool
 calm:Bool
 pn:List (Addr×Obj)
 xe:Value->Shared->Prop
def frs (l:List Env):List Addr:=l.filterMap (·.frame)
abbrev Cx.fs (X:Cx):List Addr:=frs X.outer
def Vis (sc:Scope)(x:Str):Prop:=sc.names.lookup x=some .local\/sc.names.lookup x=some .cell\/sc.names.lookup x=some .free
def Loc (sc:Scope)(x:Str):Prop:=sc.names.lookup x=some .local\/sc.names.lookup x=some .cell
def Look (env:Env)(h:Heap)(m:Str->Option Value)(x:Str)(u:Value):Prop:=
 (env.kindOf x=some .local/\m x=some u)\/((env.kindOf x=some .cell\/env.kindOf x=some .free)/\∃c,env.cells.lookup x=some c/\h.IsCell c (some u))
structure Cx.Ok (X:Cx):Prop where
 mod:Mod X.K X.mg X.base
 kind:X.env.scope.kind=.function
 glob:X.env.globals=mainGlobals
 blt:X.env.builtins=builtinsNs
 above:X.s₀.heap.objs.size<=X.env.locals
 inj:∀x y c,X.env.cells.lookup x=some c->X.env.cells.lookup y=some c->x=y
 has:∀x,(X.env.kindOf x=some .cell\/X.env.kindOf x=some .free)->∃c,X.env.cells.lookup x=some c
 cab:∀x c,X.fn x=true->X.env.cells.lookup x=some c->X.s₀.heap.objs.size<=c
 hd:X.calm=true->X.A.handled=none
 frames:X.A.frames=some X.stack
 stk:X.stack=X.outer\/(X.stack=X.env::X.outer/\X.env.frame=some X.env.locals)
 exf:∀b∈X.ex,b≠X.env.locals/\∀x c,X.env.cells.lookup x=some c->c≠b
 bs:∀b o,X.base.get? b=some o->X.s₀.heap.get? b=some o/\X.H₀ b=none
 bsz:X.base.objs.size<=X.s₀.heap.objs.size
 noex:∀b o,X.base.get? b=some o->b∉X.ex
 exfs:∀b∈X.ex,b∉X.fs
 funs:X.s₀.heap.FunFrames X.base X.outer
 frf:∀b∈X.fs,X.H₀ b=none
structure Inv (X:Cx)(pins:List (Addr×Obj))(σ:List (Option V))(H:Hp)(s:Shared):Prop where
 ok:X.Ok
 os:s.os=X.s₀.os
 bare:AllBare s.gens
 base:Un X.fs X.ex X.H₀ H X.s₀.heap s.heap
 loc:∃m,s.heap.Ns X.env.locals m/\∀(i:Nat) (x:Str) (v:V),X.N[i]?=some x->σ[i]?=some (some v)->Vis X.env.scope x->∃u,RelV v u/\Look X.env s.heap m x u
 cell:∀x c,X.env.cells.lookup x=some c->∃v,s.heap.IsCell c v
 free:H X.env.locals=none
 freeC:∀x c,X.env.cells.lookup x=some c->H c=none
 pin:∀p∈X.pn++pins,s.heap.get? p.1=some p.2/\H p.1=none/\p.1≠X.env.locals/\p.1∉X.fs/\∀v,p.2.data≠.cell v
 hok:HOk X.prog X.w H s.heap
 len:σ.length=X.N.length
section
variable {X:Cx} {pins:List (Addr×Obj)} {σ:List (Option V)} {H H':Hp} {s:Shared} {h':Heap}
theorem Cx.Ok.nofr (ok:X.Ok){b:Addr}{o:Obj}(e:X.base.get? b=some o):b∉X.fs:=fun hb=>by
 have:=(ok.funs.mem hb).1
 rw[e] at this;cases this
theorem Inv.bs (I:Inv X pins σ H s):∀b o,X.base.get? b=some o->s.heap.get? b=some o/\H b=none:=fun b o e=>
 ⟨I.base.keep b o (I.ok.bs b o e).1 (I.ok.bs b o e).2 (I.ok.nofr e) (I.ok.noex b o e),I.base.free b o (I.ok.bs b o e).1 (I.ok.bs b o e).2 (I.ok.noex b o e)⟩
theorem Inv.bk (I:Inv X pins σ H s):∀b o,X.base.get? b=some o->s.heap.get? b=some o:=fun b o e=>(I.bs b o e).1
theorem Inv.mod (I:Inv X pins σ H s):Mod X.K X.mg X.base:=I.ok.mod
theorem Inv.kIn (I:Inv X pins σ H s):X.K.In s.heap:=I.ok.mod.kin.keeps I.bk
theorem Inv.lt (I:Inv X pins σ H s):X.env.locals<s.heap.objs.size:=let ⟨_,hn,_⟩:=I.loc;hn.lt
theorem Inv.sz (I:Inv X pins σ H s):X.s₀.heap.objs.size<=s.heap.objs.size:=Nat.le_trans I.ok.above (Nat.le_of_lt I.lt)
theorem Inv.nofs (I:Inv X pins σ H s){a:Addr}(h:s.heap.objs.size<=a):a∉X.fs:=fun hb=>by
 obtain⟨_,o,ho,_⟩:=I.ok.funs.mem hb
 exact absurd (Nat.lt_of_lt_of_le (Heap.lt_size ho) (Nat.le_trans I.sz h)) (Nat.lt_irrefl _)
theorem Inv.cne (I:Inv X pins σ H s):∀x c,X.env.cells.lookup x=some c->c≠X.env.locals:=fun x c e z=>by
 obtain⟨v,o,ho,hd⟩:=I.cell x c e
 obtain⟨m,⟨o',es,ep,ho',hd',_⟩,_⟩:=I.loc
 rw[z,ho'] at ho;cases ho;rw[hd'] at hd;cases hd
theorem Inv.funs (I:Inv X pins σ H s):s.heap.FunFrames X.base X.outer:=by
 have all:∀(l:List Env),(∀b∈frs l,b∈X.fs)->X.s₀.heap.FunFrames X.base l->s.heap.FunFrames X.base l:=by
  intro l
  induction l with
  |nil=>intro _ _;trivial
  |cons env r ih=>
   intro hs hl
   obtain⟨hk,⟨L,o,hf,hn,ho,hd⟩,hr⟩:=hl
   have hL:L∈X.fs:=hs L (by unfold frs;rw[List.filterMap_cons,hf];exact List.mem_cons_self)
   obtain⟨sl,e⟩:=I.base.slot L o ho (I.ok.frf L hL) hL fun z=>I.ok.exfs L z hL
   exact⟨hk,⟨L,_,hf,hn,e,hd⟩,ih (fun b hb=>hs b (by unfold frs;rw[List.filterMap_cons,hf];exact List.mem_cons_of_mem _ hb)) hr⟩
 exact all X.outer (fun _ hb=>hb) I.ok.funs
theorem Inv.stack (I:Inv X pins σ H s):s.heap.FunFrames X.base X.stack:=by
 rcases I.ok.stk with e|⟨e,hf⟩
 ·rw[e];exact I.funs
 ·rw[e]
  obtain⟨m,hn,_⟩:=I.loc
  refine .cons (by rw[I.ok.kind];decide) hf hn ?_ I.funs
  exact Heap.get?_none_of_le (Nat.le_trans I.ok.bsz I.ok.above)
theorem Inv.stkSub (I:Inv X pins σ H s):∀b∈frs X.stack,b∈X.env.locals::X.fs:=fun b hb=>by
 rcases I.ok.stk with e|⟨e,hf⟩
 ·rw[e] at hb;exact List.mem_cons_of_mem _ hb
 ·rw[e] at hb
  unfold frs at hb
  rw[List.filterMap_cons,hf] at hb
  exact hb
theorem Inv.stkFree (I:Inv X pins σ H s):∀b∈frs X.stack,H b=none:=fun b hb=>by
 rcases List.mem_cons.mp (I.stkSub b hb) with e|hb
 ·rw[e];exact I.free
 ·obtain⟨_,o,ho,_⟩:=I.ok.funs.mem hb
  exact I.base.free b o ho (I.ok.frf b hb) fun z=>I.ok.exfs b z hb
theorem Inv.step {g':Array GenState}{t':Nat}{d':Drawn}{ch:List Addr}(I:Inv X pins σ H s)
  (hch:∀b∈ch,(b∈X.ex\/X.s₀.heap.objs.size<=b)/\b≠X.env.locals/\(∀x c,X.env.cells.lookup x=some c->c≠b)/\∀p∈X.pn++pins,p.1≠b)
  (keep:∀b o,b≠X.env.locals->b∉X.fs->b∉ch->s.heap.get? b=some o->H b=none->h'.get? b=some o)
  (slot:∀b o,b≠X.env.locals->b∈X.fs->b∉ch->s.heap.get? b=some o->H b=none->∃sl,h'.get? b=some { o with slots:=sl }) (free:∀b o,b∉ch->s.heap.get? b=some o->H b=none->H' b=none)
  (there:∀b o,b∉ch->s.heap.get? b=some o->∃o',h'.get? b=some o')
  (tups:∀b xs,H b=some (.tup xs)->H' b=some (.tup xs)) (frzs:∀b o u,H b=some (.frz o u)->H' b=some (.frz o u)) (tbls:∀b ps,H b=some (.tbl ps)->∃more,H' b=some (.tbl (ps++more)))
  (ns:∀m,s.heap.Ns X.env.locals m->h'.Ns X.env.locals m) (hok:HOk X.prog X.w H' h') (hg:AllBare g'):
  Inv X pins σ H' { s with heap:=h',gens:=g',drawn:=d',toks:=t' }:=by
 have neL:∀b o,X.s₀.heap.get? b=some o->b≠X.env.locals:=fun b o e=>Nat.ne_of_lt (Nat.lt_of_lt_of_le (Heap.lt_size e) I.ok.above)
 have neC:∀b o,X.s₀.heap.get? b=some o->b∉X.ex->b∉ch:=fun b o e hx hb=>by
  rcases(hch b hb).1 with z|z
  ·exact hx z
  ·exact absurd (Nat.lt_of_lt_of_le (Heap.lt_size e) z) (Nat.lt_irrefl _)
 have cellK:∀x c,X.env.cells.lookup x=some c->∀v,s.heap.IsCell c v->h'.IsCell c v:=fun x c e v ⟨o,ho,hd⟩=>by
  have nch:c∉ch:=fun z=>(hch c z).2.2.1 x c e rfl
  by_cases hc:c∈X.fs
  ·obtain⟨sl,q⟩:=slot c o (I.cne x c e) hc nch ho (I.freeC x c e)
   exact⟨_,q,hd⟩
  ·exact⟨o,keep c o (I.cne x c e) hc nch ho (I.freeC x c e),hd⟩
 refine⟨I.ok,I.os,hg,⟨fun b o e n hb hx=>?_,fun b o e n hb hx=>?_,fun b o e n hx=>?_,fun b o e hx=>?_,fun b xs e=>tups b xs (I.base.tups b xs e),fun b o xs e=>frzs b o xs (I.base.frzs b o xs e),fun b ps e=>?_⟩,?_,fun x c e=>?_,?_,fun x c e=>?_,fun p hp=>?_,hok,I.len⟩
 ·exact keep b o (neL b o e) hb (neC b o e hx) (I.base.keep b o e n hb hx) (I.base.free b o e n hx)
 ·obtain⟨sl,e1⟩:=I.base.slot b o e n hb hx
  obtain⟨sl',e2⟩:=slot b _ (neL b o e) hb (neC b o e hx) e1 (I.base.free b o e n hx)
  exact⟨sl',e2⟩
 ·obtain⟨o',e1⟩:=I.base.there b o e hx
  exact free b o' (neC b o e hx) e1 (I.base.free b o e n hx)
 ·obtain⟨o',e1⟩:=I.base.there b o e hx
  exact there b o' (neC b o e hx) e1
 ·obtain⟨m1,e1⟩:=I.base.tbls b ps e
  obtain⟨m2,e2⟩:=tbls b _ e1
  exact⟨m1++m2,by rw[e2,Array.append_assoc]⟩
 ·obtain⟨m,hn,hl⟩:=I.loc
  refine⟨m,ns m hn,fun i x v e1 e2 e3=>?_⟩
  obtain⟨u,r,l⟩:=hl i x v e1 e2 e3
  refine⟨u,r,?_⟩
  rcases l with l|⟨k,c,e,z⟩
  ·exact .inl l
  ·exact .inr ⟨k,c,e,cellK x c e _ z⟩
 ·obtain⟨v,z⟩:=I.cell x c e
  exact⟨v,cellK x c e v z⟩
 ·obtain⟨m,⟨o,_,_,ho,_⟩,_⟩:=I.loc
  exact free _ o (fun z=>(hch _ z).2.1 rfl) ho I.free
 ·obtain⟨v,o,ho,hd⟩:=I.cell x c e
  exact free c o (fun z=>(hch c z).2.2.1 x c e rfl) ho (I.freeC x c e)
 ·obtain⟨e,n,ne,nf,d⟩:=I.pin p hp
  have nch:p.1∉ch:=fun z=>(hch p.1 z).2.2.2 p hp rfl
  exact⟨keep p.1 p.2 ne nf nch e n,free p.1 p.2 nch e n,ne,nf,d⟩
theorem Inv.un {t':Nat}(I:Inv X pins σ H s)(u:Un X.fs [] H H' s.heap h')(hok:HOk X.prog X.w H' h'):Inv X pins σ H' { s with heap:=h',toks:=t' }:=by
 obtain⟨m,⟨o,es,ep,ho,r⟩,_⟩:=id I.loc
 obtain⟨sl,hL⟩:=u.any ho I.free (by simp)
 exact I.step (g':=s.gens) (d':=s.drawn) (ch:=[]) (fun _ z=>nomatch z) (fun b o _ hb _ e n=>u.keep b o e n hb (by simp)) (fun b o _ hb _ e n=>u.slot b o e n hb (by simp)) (fun b o _ e n=>u.free b o e n (by simp)) (fun b o _ e=>u.there b o e (by simp)) u.tups u.frzs u.tbls (fun m' hm=>by
  obtain⟨o',es',ep',ho',r'⟩:=hm
  rw[ho] at ho';cases ho'
  exact⟨_,es',ep',hL,r'⟩) hok I.bare
theorem Inv.call {g':Array GenState}{t':Nat}{d':Drawn}{ch:List Addr}(I:Inv X pins σ H s)(u:Un (frs X.stack) ch H H' s.heap h')(hok:HOk X.prog X.w H' h')(hg:AllBare g')
  (hch:∀b∈ch,(b∈X.ex\/X.s₀.heap.objs.size<=b)/\b≠X.env.locals/\(∀x c,X.env.cells.lookup x=some c->c≠b)/\∀p∈X.pn++pins,p.1≠b):
  Inv X pins σ H' { s with heap:=h',gens:=g',drawn:=d',toks:=t' }:=by
 obtain⟨m,⟨o,es,ep,ho,r⟩,_⟩:=id I.loc
 obtain⟨sl,hL⟩:=u.any ho I.free fun z=>(hch _ z).2.1 rfl
 exact I.step (ch:=ch) hch (fun b o hL hb hc e n=>u.keep b o e n (fun z=>(List.mem_cons.mp (I.stkSub b z)).elim hL hb) hc) (fun b o _ _ hc e n=>u.any e n hc) (fun b o hc e n=>u.free b o e n hc) (fun b o hc e=>u.there b o e hc) u.tups u.frzs u.tbls (fun m' hm=>by
  obtain⟨o',es',ep',ho',r'⟩:=hm
  rw[ho] at ho';cases ho'
  exact⟨_,es',ep',hL,r'⟩) hok hg
theorem Inv.turned {t':Nat}{it:Addr}(I:Inv X pins σ H s)(k:∀b o,b≠it->s.heap.get? b=some o->h'.get? b=some o)(hn:H it=none)(hL:it≠X.env.locals)
  (h1:it∈X.ex\/X.s₀.heap.objs.size<=it) (h2:∀x c,X.env.cells.lookup x=some c->c≠it) (h3:∀p∈X.pn++pins,p.1≠it):Inv X pins σ H { s with heap:=h',toks:=t' }:=by
 have nit:∀b u,H b=some u->b≠it:=fun b u e z=>by rw[z,hn] at e;cases e
 refine I.step (g':=s.gens) (d':=s.drawn) (ch:=[it]) (fun b hb=>?_) (fun b o _ _ hc e _=>k b o (fun z=>hc (by simp[z])) e) (fun b o _ _ hc e _=>⟨o.slots,k b o (fun z=>hc (by simp[z])) e⟩) (fun _ _ _ _ n=>n)
  (fun b o hc e=>⟨o,k b o (fun z=>hc (by simp[z])) e⟩) (fun _ _ e=>e) (fun _ _ _ e=>e) (fun b ps e=>⟨#[],by rw[e];simp⟩) (fun m hm=>?_) (fun b u e=>?_) I.bare
 ·have e:b=it:=by simpa using hb
  subst e
  exact⟨h1,hL,h2,h3⟩
 ·obtain⟨o,es,ep,ho,r⟩:=hm
  exact⟨o,es,ep,k _ o (Ne.symm hL) ho,r⟩
 ·refine(I.hok b u e).stay (fun c v hc q=>k c v ?_ q) (fun _ q=>q) fun _ _ q=>q
  rcases hc with z|z
  ·rw[z];exact nit b u e
  ·exact nit c _ z
theorem Inv.tok (I:Inv X pins σ H s)(t:Nat):Inv X pins σ H { s with toks:=t }:=I.un (h':=s.heap) (t':=t) Un.refl I.hok
theorem Inv.kept {t':Nat}(I:Inv X pins σ H s)(k:∀b u,s.heap.get? b=some u->h'.get? b=some u):Inv X pins σ H { s with heap:=h',toks:=t' }:=I.un (Un.kept k) (I.hok.kept k)
theorem Inv.laid {a:Addr}{o:HO}{t':Nat}(I:Inv X pins σ H s)(k:∀b u,s.heap.get? b=some u->h'.get? b=some u)(hp:s.heap.objs.size<=a)(new:ObjOk X.prog X.w (upd H a o) h' a o):
  Inv X pins σ (upd H a o) { s with heap:=h',toks:=t' }:=I.un (Un.laid k hp (I.hok.fresh hp)) (I.hok.laid k hp new)
theorem Inv.write {x e:Addr}{o:HO}{t':Nat}(I:Inv X pins σ H s)(mu:Mut (H x))(he:e=x\/H e=some (.own x))(k:∀b u,b≠e->s.heap.get? b=some u->h'.get? b=some u)(heo:∃u,h'.get? e=some u)
  (new:ObjOk X.prog X.w (upd H x o) h' x o):Inv X pins σ (upd H x o) { s with heap:=h',toks:=t' }:=I.un (Un.write mu he k heo) (I.hok.write mu he k heo new)
theorem Inv.pins_of {pins':List (Addr×Obj)}(I:Inv X pins σ H s)(h:∀p∈pins',s.heap.get? p.1=some p.2/\H p.1=none/\p.1≠X.env.locals/\p.1∉X.fs/\∀v,p.2.data≠.cell v):Inv X pins' σ H s:=
 ⟨I.ok,I.os,I.bare,I.base,I.loc,I.cell,I.free,I.freeC,fun p hp=>(List.mem_append.mp hp).elim (fun z=>I.pin p (List.mem_append_left _ z)) (h p),I.hok,I.len⟩
theorem nodup_ix {N:List Str}(hN:N.Nodup){i j:Nat}{x:Str}(a:N[i]?=some x)(b:N[j]?=some x):i=j:=by
 obtain⟨h1,e1⟩:=List.getElem?_eq_some_iff.mp a
 obtain⟨h2,e2⟩:=List.getElem?_eq_some_iff.mp b
 exact(List.getElem_inj hN).mp (e1.trans e2.symm)
theorem store_ok2 {M:Model}{A:Around}{E:Value->Shared->Prop}{i:Nat}{x:Str}{v:V}{u:Value}{Q:Unit->Shared->Prop}(I:Inv X pins σ H s)(hN:X.N.Nodup)(hi:X.N[i]?=some x)(hx:Loc X.env.scope x)(r:RelV v u)
  (h:∀s',Inv X pins (σ.set i (some v)) H s'->(∃a,Heap.SameBut a s.heap s'.heap/\(a=X.env.locals\/X.env.cells.lookup x=some a))->Q () s') (hf:X.fn x=true\/X.env.scope.names.lookup x=some .local:=by first|exact .inl rfl|exact .inr rfl|assumption):wpAny M A (storeName X.env x u) Q E s:=by
 obtain⟨m,hn,hl⟩:=id I.loc
 have hcls:(X.env.scope.kind==.class||(X.env.scope.kind==.module&&X.env.locals !=X.env.globals))=false:=by rw[I.ok.kind];rfl
 have hiσ:i<σ.length:=by rw[I.len];exact(List.getElem?_eq_some_iff.mp hi).1
 have cne:=I.cne
 have tracked:∀{a:Addr} {h':Heap},(∃o,s.heap.get? a=some o/\H a=none)->Heap.SameBut a s.heap h'->HOk X.prog X.w H h':=fun {a h'} ha hs b ob e=>by
  obtain⟨_,_,hfree⟩:=ha
  refine(I.hok b ob e).stay (fun c w' hc q=>(hs.2 c ?_).trans q) (fun _ q=>q) fun _ _ q=>q
  rintro rfl
  rcases hc with rfl|hc
  ·rw[hfree] at e;cases e
  ·rw[hfree] at hc;cases hc
 rcases hx with hk|hk
 ·refine wpAny_storeName_local hk hn (fun h' hn' hs=>?_) hcls
  obtain⟨oL,_,_,hoL,_⟩:=id hn
  refine h _ ⟨I.ok,I.os,I.bare,⟨fun b o e n hb hx=>?_,fun b o e n hb hx=>?_,I.base.free,fun b o e hx=>?_,I.base.tups,I.base.frzs,I.base.tbls⟩,⟨_,hn',fun j y v' e1 e2 e3=>?_⟩,fun y c e=>?_,I.free,I.freeC,fun p hp=>?_,tracked ⟨oL,hoL,I.free⟩ hs,by simpa using I.len⟩ ⟨_,hs,.inl rfl⟩
  ·exact(hs.2 b (Nat.ne_of_lt (Nat.lt_of_lt_of_le (Heap.lt_size e) I.ok.above))).trans (I.base.keep b o e n hb hx)
  ·obtain⟨sl,e1⟩:=I.base.slot b o e n hb hx
   exact⟨sl,(hs.2 b (Nat.ne_of_lt (Nat.lt_of_lt_of_le (Heap.lt_size e) I.ok.above))).trans e1⟩
  ·obtain⟨o',e1⟩:=I.base.there b o e hx
   exact⟨o',(hs.2 b (Nat.ne_of_lt (Nat.lt_of_lt_of_le (Heap.lt_size e) I.ok.above))).trans e1⟩
  ·by_cases hj:j=i
   ·subst hj
    rw[hi] at e1;cases e1
    rw[List.getElem?_set_self hiσ] at e2
    cases e2
    exact⟨u,r,.inl ⟨hk,by simp⟩⟩
   ·rw[List.getElem?_set_ne (Ne.symm hj)] at e2
    obtain⟨u',r',q⟩:=hl j y v' e1 e2 e3
    refine⟨u',r',?_⟩
    rcases q with⟨k,e⟩|⟨k,c,e,z⟩
    ·refine .inl ⟨k,?_⟩
     have:y≠x:=fun e=>hj (nodup_ix hN e1 (e▸hi))
     simp[this,e]
    ·exact .inr ⟨k,c,e,z.sameBut hs (cne y c e)⟩
  ·obtain⟨w',z⟩:=I.cell y c e
   exact⟨w',z.sameBut hs (cne y c e)⟩
  ·obtain⟨e,n,ne,nf,d⟩:=I.pin p hp
   exact⟨(hs.2 p.1 ne).trans e,n,ne,nf,d⟩
 ·have hfn:X.fn x=true:=by
   rcases hf with z|z
   ·exact z
   ·rw[z] at hk;cases hk
  obtain⟨c,hc⟩:=I.ok.has x (.inl hk)
  obtain⟨w',z⟩:=I.cell x c hc
  refine wpAny_storeName_cell I.ok.kind hk hc z (fun h' hc' hs=>?_)
  obtain⟨oc,hoc,hocd⟩:=id z
  refine h { s with heap:=h' } ⟨I.ok,I.os,I.bare,⟨fun b o e n hb hx=>?_,fun b o e n hb hx=>?_,I.base.free,fun b o e hx=>?_,I.base.tups,I.base.frzs,I.base.tbls⟩,⟨m,hn.sameBut hs (Ne.symm (cne x c hc)),fun j y v' e1 e2 e3=>?_⟩,fun y c' e=>?_,I.free,I.freeC,fun p hp=>?_,tracked ⟨oc,hoc,I.freeC x c hc⟩ hs,by simpa using I.len⟩ ⟨c,hs,.inr hc⟩
  ·exact(hs.2 b (Nat.ne_of_lt (Nat.lt_of_lt_of_le (Heap.lt_size e) (I.ok.cab x c hfn hc)))).trans (I.base.keep b o e n hb hx)
  ·obtain⟨sl,e1⟩:=I.base.slot b o e n hb hx
   exact⟨sl,(hs.2 b (Nat.ne_of_lt (Nat.lt_of_lt_of_le (Heap.lt_size e) (I.ok.cab x c hfn hc)))).trans e1⟩
  ·obtain⟨o',e1⟩:=I.base.there b o e hx
   exact⟨o',(hs.2 b (Nat.ne_of_lt (Nat.lt_of_lt_of_le (Heap.lt_size e) (I.ok.cab x c hfn hc)))).trans e1⟩
  ·by_cases hj:j=i
   ·subst hj
    rw[hi] at e1;cases e1
    rw[List.getElem?_set_self hiσ] at e2
    cases e2
    exact⟨u,r,.inr ⟨.inl hk,c,hc,hc'⟩⟩
   ·rw[List.getElem?_set_ne (Ne.symm hj)] at e2
    obtain⟨u',r',q⟩:=hl j y v' e1 e2 e3
    refine⟨u',r',?_⟩
    rcases q with q|⟨k,c',e,z'⟩
    ·exact .inl q
    ·refine .inr ⟨k,c',e,z'.sameBut hs ?_⟩
     rintro rfl
     exact hj (nodup_ix hN e1 (I.ok.inj _ _ _ e hc▸hi))
  ·by_cases hcc:c'=c
   ·subst hcc;exact⟨_,hc'⟩
   ·obtain⟨w2,z2⟩:=I.cell y c' e
    exact⟨w2,z2.sameBut hs hcc⟩
  ·obtain⟨e,n,ne,nf,d⟩:=I.pin p hp
   refine⟨(hs.2 p.1 ?_).trans e,n,ne,nf,d⟩
   intro q
   rw[q,hoc] at e
   have q':oc=p.2:=Option.some.inj e
   exact d w' (by rw[<- q'];exact hocd)
theorem store_ok {M:Model}{A:Around}{E:Value->Shared->Prop}{i:Nat}{x:Str}{v:V}{u:Value}{Q:Unit->Shared->Prop}(I:Inv X pins σ H s)(hN:X.N.Nodup)(hi:X.N[i]?=some x)(hx:Loc X.env.scope x)(r:RelV v u)
  (h:∀s',Inv X pins (σ.set i (some v)) H s'->Q () s') (hf:X.fn x=true\/X.env.scope.names.lookup x=some .local:=by first|exact .inl rfl|exact .inr rfl|assumption):wpAny M A (storeName X.env x u) Q E s:=
 store_ok2 I hN hi hx r (fun s' I' _=>h s' I') hf
theorem Inv.call' {s':Shared}{ch:List Addr}(I:Inv X pins σ H s)(ho:s'.os=s.os)(u:Un (frs X.stack) ch H H' s.heap s'.heap)(hok:HOk X.prog X.w H' s'.heap)(hg:AllBare s'.gens)
  (hch:∀b∈ch,(b∈X.ex\/X.s₀.heap.objs.size<=b)/\b≠X.env.locals/\(∀x c,X.env.cells.lookup x=some c->c≠b)/\∀p∈X.pn++pins,p.1≠b):Inv X pins σ H' s':=by
 obtain⟨h',g',d',t',o'⟩:=s'
 have e:o'=s.os:=ho
 subst e
 exact I.call (g':=g') (t':=t') (d':=d') u hok hg hch
end
abbrev XK:=Value->Option Addr->Hp->Prop
abbrev St:=List (Option V)
abbrev VK:=V->Hp->Prop
abbrev TE:=St->Hp->VK->Prop
abbrev TT:=St->Hp->(Bool->Hp->Prop)->Prop
abbrev TA:=St->Hp->(List V->Hp->Prop)->Prop
structure Ends where
 nx:St->Hp->Prop
 rt:VK
 bk:St->Hp->Prop:=fun _ _=>False
 ct:St->Hp->Prop:=fun _ _=>False
abbrev TS:=Ends->St->Hp->Prop
def EP (X:Cx)(pins:List (Addr×Obj))(σ:St)(Q:VK)(u:Value)(s':Shared):Prop:=∃v H',Inv X pins σ H' s'/\RelV v u/\Q v H'
def TP (X:Cx)(pins:List (Addr×Obj))(σ:St)(Q:Bool->Hp->Prop)(b:Bool)(s':Shared):Prop:=∃H',Inv X pins σ H' s'/\Q b H'
def AP (X:Cx)(pins:List (Addr×Obj))(σ:St)(Q:List V->Hp->Prop)(us:List Value)(s':Shared):Prop:=∃vs H',Inv X pins σ H' s'/\Vals vs us/\Q vs H'
def SP (X:Cx)(pins:List (Addr×Obj))(D:Ends)(f:Flow)(s':Shared):Prop:=
 match f with
 |.next=>∃σ' H',Inv X pins σ' H' s'/\D.nx σ' H'
 |.brk=>∃σ' H',Inv X pins σ' H' s'/\D.bk σ' H'
 |.cont=>∃σ' H',Inv X pins σ' H' s'/\D.ct σ' H'
 |.ret u=>∃v σ' H',Inv X pins σ' H' s'/\RelV v u/\D.rt v H'
def PE (X:Cx)(e:Expr)(t:TE):Prop:=
 ∀(pins:List (Addr×Obj)) (s:Shared) (σ:St) (H:Hp) (Q:VK),Inv X pins σ H s->t σ H Q->wpAny (model X.prog X.w) X.A (eval e X.env) (EP X pins σ Q) X.xe s
def PT (X:Cx)(e:Expr)(t:TT):Prop:=
 ∀(pins:List (Addr×Obj)) (s:Shared) (σ:St) (H:Hp) (Q:Bool->Hp->Prop),Inv X pins σ H s->t σ H Q->wpAny (model X.prog X.w) X.A (isTrue e X.env (eval e X.env)) (TP X pins σ Q) X.xe s
def PW (X:Cx)(e:Expr)(t:TT):Prop:=
 ∀(whole:Sem Value) (pins:List (Addr×Obj)) (s:Shared) (σ:St) (H:Hp) (Q:Bool->Hp->Prop),Inv X pins σ H s->t σ H Q->wpAny (model X.prog X.w) X.A (isTrue e X.env whole) (TP X pins σ Q) X.xe s
theorem PW.pt {X:Cx}{e:Expr}{t:TT}(h:PW X e t):PT X e t:=h _
def PA (X:Cx)(es:List Expr)(t:TA):Prop:=
 ∀(pos:Pos) (pins:List (Addr×Obj)) (s:Shared) (σ:St) (H:Hp) (Q:List V->Hp->Prop),Inv X pins σ H s->t σ H Q->wpAny (model X.prog X.w) X.A (spliced (backTo pos (starEach es X.env))) (AP X pins σ Q) X.xe s
def PS (X:Cx)(st:Stmt)(t:TS):Prop:=
 ∀(pins:List (Addr×Obj)) (s:Shared) (σ:St) (H:Hp) (D:Ends),Inv X pins σ H s->t D σ H->wpAny (model X.prog X.w) X.A (exec st X.env) (SP X pins D) X.xe s
def PSs (X:Cx)(st:List Stmt)(t:TS):Prop:=
 ∀(pins:List (Addr×Obj)) (s:Shared) (σ:St) (H:Hp) (D:Ends),Inv X pins σ H s->t D σ H->wpAny (model X.prog X.w) X.A (execs st X.env) (SP X pins D) X.xe s
theorem thn {α:Type}{t:Sem α}{Q Q':α->Shared->Prop}{M:Model}{A:Around}{E:Value->Shared->Prop}{s:Shared}(h:wpAny M A t Q E s)(hQ:∀a s,Q a s->Q' a s):wpAny M A t Q' E s:=wpAny_mono h hQ fun _ _ x=>x
end L2
namespace L2
open PySem PySem.Spec PyProof.Rows
section
variable {X:Cx}
def tVar (i:Nat):TE:=fun σ H Q=>∃v,σ[i]?=some (some v)/\Q v H
def tC (v:V):TE:=fun _ H Q=>Q v H
theorem pe_var {i:Nat}{x:Str}{pos:Pos}(hN:X.N[i]?=some x)(hv:Vis X.env.scope x)(hd:(x==("__debug__":Str))=false:=by decide)(hcd:(x==("__classdict__":Str))=false:=by decide):PE X (.Name x pos) (tVar i):=by
 intro pins s σ H Q I h
 obtain⟨v,e,h⟩:=h
 obtain⟨m,hn,hl⟩:=I.loc
 obtain⟨u,r,l⟩:=hl i x v hN e hv
 have fin:EP X pins σ Q u s:=⟨v,H,I,r,h⟩
 rcases l with⟨hk,hm⟩|⟨hk,c,hc,hcell⟩
 ·exact wpAny_Name (wpAny_loadName_local I.ok.kind hk hn hm fin) hd
 ·rcases hk with hk|hk
  ·exact wpAny_Name (wpAny_loadName_cell I.ok.kind hk hc hcell fin) hd
  ·exact wpAny_Name (wpAny_loadName_free I.ok.kind hk hc hcell fin hcd) hd
theorem pe_int {i j pos}:PE X (.Constant (.int i) j pos) (tC (.int i)):=fun _ _ _ H _ I h=>wpAny_Constant_int ⟨.int i,H,I.tok _,⟨_,rfl⟩,h⟩
theorem pe_bl {b j pos}:PE X (.Constant (.bool b) j pos) (tC (.bl b)):=fun _ _ _ H _ I h=>Constant_bool ⟨.bl b,H,I,rfl,h⟩
theorem pe_non {j pos}:PE X (.Constant .none j pos) (tC .non):=fun _ _ _ H _ I h=>Constant_none ⟨.non,H,I,rfl,h⟩
theorem pe_str {x j pos}:PE X (.Constant (.str x) j pos) (tC (.str x)):=fun _ _ _ H _ I h=>Calls.Constant_str ⟨.str x,H,I.tok _,⟨_,rfl⟩,h⟩
def Gl (X:Cx)(x:Str):Prop:=X.env.kindOf x=some .globalImplicit
theorem ld_glob {E:Value->Shared->Prop}{pins:List (Addr×Obj)}{s:Shared}{σ:St}{H:Hp}{x:Str}{u:Value}{pos:Pos}{Q:Value->Shared->Prop}(I:Inv X pins σ H s)(hg:Gl X x)(hm:X.mg x=some u)(h:Q u s)
  (hd:(x==("__debug__":Str))=false:=by decide):wpAny (model X.prog X.w) X.A (eval (.Name x pos) X.env) Q E s:=
 Calls.Name_function_global I.ok.kind hg (Calls.loadGlobal_global (by rw[I.ok.glob];exact I.mod.glob.keeps I.bk) hm h) hd
theorem ld_blt {E:Value->Shared->Prop}{pins:List (Addr×Obj)}{s:Shared}{σ:St}{H:Hp}{x:Str}{u:Value}{pos:Pos}{Q:Value->Shared->Prop}(I:Inv X pins σ H s)(hg:Gl X x)(hm:X.mg x=none)(hv:bootBuiltins x=some u)(h:Q u s)
  (hn:x≠"__name__":=by decide) (hd:(x==("__debug__":Str))=false:=by decide):wpAny (model X.prog X.w) X.A (eval (.Name x pos) X.env) Q E s:=by
 obtain⟨mb,h1,h2⟩:=I.mod.blt
 exact Calls.Name_function_global I.ok.kind hg (Calls.loadGlobal_builtin (by rw[I.ok.glob];exact I.mod.glob.keeps I.bk) hm (by rw[I.ok.blt];exact h1.keeps I.bk) ((h2 x hn).trans hv) h) hd
theorem pe_glob {x:Str}{v:V}{u:Value}{pos:Pos}(hg:Gl X x)(hm:X.mg x=some u)(r:RelV v u)(hd:(x==("__debug__":Str))=false:=by decide):PE X (.Name x pos) (tC v):=
 fun _ _ _ H _ I h=>ld_glob I hg hm ⟨v,H,I,r,h⟩ hd
theorem pe_bltn {x:Str}{v:V}{u:Value}{pos:Pos}(hg:Gl X x)(hm:X.mg x=none)(hv:bootBuiltins x=some u)(r:RelV v u)(hn:x≠"__name__":=by decide)(hd:(x==("__debug__":Str))=false:=by decide):PE X (.Name x pos) (tC v):=
 fun _ _ _ H _ I h=>ld_blt I hg hm hv ⟨v,H,I,r,h⟩ hn hd
variable {a b:Expr} {ta tb:TE} {pos:Pos}
def PC (X:Cx)(op:CmpOp)(a b:Expr)(t:TE):Prop:=
 ∀(pins:List (Addr×Obj)) (s:Shared) (σ:St) (H:Hp) (Q:VK),Inv X pins σ H s->t σ H Q→
  wpAny (model X.prog X.w) X.A (eval a X.env) (fun v s₁=>wpAny (model X.prog X.w) X.A (eval b X.env) (fun u s₂=>wpAny (model X.prog X.w) X.A (compareOp op v u) (EP X pins σ Q) X.xe s₂) X.xe s₁) X.xe s
theorem nobehind (b:Expr){op:CmpOp}(h:op≠.In)(h2:op≠.NotIn):behindInMarks op b=false:=by
 have e1:(op==CmpOp.In)=false:=by cases op<;>first|rfl|exact absurd rfl h
 have e2:(op==CmpOp.NotIn)=false:=by cases op<;>first|rfl|exact absurd rfl h2
 cases b<;>simp[behindInMarks,e1,e2]
def tIsN (ta:TE):TE:=fun σ H Q=>ta σ H fun x H1=>Q (.bl (decide (x=.non))) H1
theorem RelV.none_iff {x:V}{v:Value}(r:RelV x v):(v==Value.none)=decide (x=.non):=by
 cases x with
 |non=>cases r;rfl
 |bl _=>cases r;rfl
 |int _=>obtain⟨t,rfl⟩:=r;rfl
 |str _=>obtain⟨t,rfl⟩:=r;rfl
 |byt _=>obtain⟨t,rfl⟩:=r;rfl
 |flt _=>obtain⟨t,rfl⟩:=r;rfl
 |ref _=>cases r;rfl
 |ty _=>cases r;rfl
theorem pc_isN {j pos'}(ha:PE X a ta):PC X .Is a (.Constant .none j pos') (tIsN ta):=by
 intro pins s σ H Q I h
 refine thn (ha pins s σ H _ I h) fun v s1 hq9=>?_
 obtain⟨x,H1,I1,r1,q1⟩:=hq9
 exact Constant_none (is_none_gen ⟨.bl _,H1,I1,by rw[r1.none_iff];rfl,q1⟩)
def tB (t:TE):TT:=fun σ H Q=>t σ H fun x H1=>∃c,x=.bl c/\Q c H1
theorem pt_cmp {op:CmpOp}{t:TE}(h:PC X op a b t)(h1:behindInMarks op b=false:=by first|exact nobehind _ (by decide) (by decide)|rfl):PT X (.Compare a [op] [b] pos) (tB t):=by
 intro pins s σ H Q I hw
 refine wpAny_isTrue_Compare1 (thn (h pins s σ H _ I hw) fun v s1 h1=>thn h1 fun u s2 h2=>thn h2 fun c s3 ⟨x,H1,I1,r1,q1⟩=>?_) h1
 obtain⟨d,rfl,q⟩:=q1
 cases r1
 exact wpAny_truthy_bool ⟨H1,I1,q⟩
theorem pt_val {e:Expr}{t:TE}(h:PE X e t)(he:∀whole,isTrue e X.env whole=(do let v ← whole;standAt e.pos;holding [v] (truthy v)):=by intro _;rfl):PT X e (tB t):=by
 intro pins s σ H Q I hw
 refine isTrue_plain (thn (h pins s σ H _ I hw) fun v s1 ⟨x,H1,I1,r1,q1⟩=>?_) (he _)
 obtain⟨d,rfl,q⟩:=q1
 cases r1
 exact wpAny_truthy_bool ⟨H1,I1,q⟩
variable {tA tB':TT} {rest:List Expr}
def tAnd (t u:TT):TT:=fun σ H Q=>t σ H fun c H1=>if c=true then u σ H1 Q else Q false H1
def tOr (t u:TT):TT:=fun σ H Q=>t σ H fun c H1=>if c=true then Q true H1 else u σ H1 Q
def tNot (t:TT):TT:=fun σ H Q=>t σ H fun c H1=>Q (!c) H1
theorem pw_and1 (ha:PT X a tA):PW X (.BoolOp .And [a] pos) tA:=by
 intro wh pins s σ H Q I h
 refine isTrue_and (thn (ha pins s σ H Q I h) fun c s1 e=>?_)
 cases c with
 |true=>exact isTrue_and_nil e
 |false=>exact e
theorem pw_or1 (ha:PT X a tA):PW X (.BoolOp .Or [a] pos) tA:=by
 intro wh pins s σ H Q I h
 refine isTrue_or (thn (ha pins s σ H Q I h) fun c s1 e=>?_)
 cases c with
 |false=>exact isTrue_or_nil e
 |true=>exact e
theorem pw_and (ha:PT X a tA)(hb:PW X (.BoolOp .And (b::rest) pos) tB'):PW X (.BoolOp .And (a::b::rest) pos) (tAnd tA tB'):=by
 intro wh pins s σ H Q I h
 refine isTrue_and (thn (ha pins s σ H _ I h) fun c s1 ⟨H1,I1,q1⟩=>?_)
 cases c with
 |true=>exact hb wh pins s1 σ H1 Q I1 q1
 |false=>exact⟨H1,I1,q1⟩
theorem pw_or (ha:PT X a tA)(hb:PW X (.BoolOp .Or (b::rest) pos) tB'):PW X (.BoolOp .Or (a::b::rest) pos) (tOr tA tB'):=by
 intro wh pins s σ H Q I h
 refine isTrue_or (thn (ha pins s σ H _ I h) fun c s1 ⟨H1,I1,q1⟩=>?_)
 cases c with
 |true=>exact⟨H1,I1,q1⟩
 |false=>exact hb wh pins s1 σ H1 Q I1 q1
theorem pt_not (ha:PT X a tA):PT X (.UnaryOp .Not a pos) (tNot tA):=by
 intro pins s σ H Q I h
 exact isTrue_not (ha pins s σ H (fun c H1=>Q (!c) H1) I h)
def tAndV (ta tb:TE):TE:=fun σ H Q=>ta σ H fun x H1=>∃c,x=.bl c/\if c=true then tb σ H1 Q else Q (.bl false) H1
def tOrV (ta tb:TE):TE:=fun σ H Q=>ta σ H fun x H1=>∃c,x=.bl c/\if c=true then Q (.bl true) H1 else tb σ H1 Q
def tNotV (ta:TE):TE:=fun σ H Q=>ta σ H fun x H1=>∃c,x=.bl c/\Q (.bl (!c)) H1
theorem pe_one {op}{t:TE}(h:PE X a t):PE X (.BoolOp op [a] pos) t:=fun pins s σ H Q I hw=>BoolOp_one (h pins s σ H Q I hw)
theorem pe_and (ha:PE X a ta)(hb:PE X (.BoolOp .And (b::rest) pos) tb):PE X (.BoolOp .And (a::b::rest) pos) (tAndV ta tb):=by
 intro pins s σ H Q I h
 refine BoolOp_and (thn (ha pins s σ H _ I h) fun v s1 ⟨x,H1,I1,r1,q1⟩=>?_)
 obtain⟨c,rfl,q1⟩:=q1
 cases r1
 refine wpAny_truthy_bool ?_
 cases c with
 |true=>exact hb pins s1 σ H1 Q I1 q1
 |false=>exact⟨.bl false,H1,I1,rfl,q1⟩
theorem pe_or (ha:PE X a ta)(hb:PE X (.BoolOp .Or (b::rest) pos) tb):PE X (.BoolOp .Or (a::b::rest) pos) (tOrV ta tb):=by
 intro pins s σ H Q I h
 refine BoolOp_or (thn (ha pins s σ H _ I h) fun v s1 ⟨x,H1,I1,r1,q1⟩=>?_)
 obtain⟨c,rfl,q1⟩:=q1
 cases r1
 refine wpAny_truthy_bool ?_
 cases c with
 |false=>exact hb pins s1 σ H1 Q I1 q1
 |true=>exact⟨.bl true,H1,I1,rfl,q1⟩
theorem pe_not (ha:PE X a ta):PE X (.UnaryOp .Not a pos) (tNotV ta):=by
 intro pins s σ H Q I h
 refine UnaryOp_ (thn (ha pins s σ H _ I h) fun v s1 ⟨x,H1,I1,r1,q1⟩=>?_)
 obtain⟨c,rfl,q1⟩:=q1
 cases r1
 exact not_of (wpAny_truthy_bool ⟨.bl (!c),H1,I1,rfl,q1⟩)
def tIf (t:TT)(ta tb:TE):TE:=fun σ H Q=>t σ H fun c H1=>if c=true then ta σ H1 Q else tb σ H1 Q
theorem pe_ifExp {c:Expr}(hc:PT X c tA)(ha:PE X a ta)(hb:PE X b tb):PE X (.IfExp c a b pos) (tIf tA ta tb):=by
 intro pins s σ H Q I h
 refine wpAny_IfExp (thn (hc pins s σ H _ I h) fun d s1 ⟨H1,I1,q1⟩=>?_)
 cases d with
 |true=>exact ha pins s1 σ H1 Q I1 q1
 |false=>exact hb pins s1 σ H1 Q I1 q1
end
end L2
namespace L2
open PySem PySem.Spec PyProof.Rows
def SqL (K:W.Frag)(H:Hp)(a:Addr)(xs:List V):Prop:=
 Rd H a (.lst xs)∨
  ∃(o:Obj) (its:Array Value) (n:Nat),K.lookup a=some o/\o.cls=.type "list"/\o.dict=none/\o.data=.seq its n/\its.size<=sizeLine/\Vals xs its.toList
def SqT (K:W.Frag)(H:Hp)(a:Addr)(xs:List V):Prop:=
 Rd H a (.tup xs)∨
  ∃(o:Obj) (its:Array Value) (n:Nat),K.lookup a=some o/\o.cls=.type "tuple"/\o.data=.seq its n/\its.size<=sizeLine/\Vals xs its.toList
def absV:Value->Option V
 |.none=>some .non
 |.bool b=>some (.bl b)
 |.int i _=>some (.int i)
 |.str x _=>some (.str x)
 |.bytes b _=>some (.byt b)
 |.float b _=>some (.flt b)
 |.ref a=>some (.ref a)
 |.type n=>some (.ty n)
 |_=>none
theorem RelV.abs {x:V}{u:Value}(r:RelV x u):absV u=some x:=by
 cases x with
 |non=>cases r;rfl
 |bl _=>cases r;rfl
 |int _=>obtain⟨t,rfl⟩:=r;rfl
 |str _=>obtain⟨t,rfl⟩:=r;rfl
 |byt _=>obtain⟨t,rfl⟩:=r;rfl
 |flt _=>obtain⟨t,rfl⟩:=r;rfl
 |ref _=>cases r;rfl
 |ty _=>cases r;rfl
theorem RelV.inj {x y:V}{u:Value}(r:RelV x u)(q:RelV y u):x=y:=Option.some.inj (r.abs.symm.trans q.abs)
theorem Vals.inj:∀{xs ys:List V} {us:List Value},Vals xs us->Vals ys us->xs=ys
 |_,_,_,.nil,.nil=>rfl
 |_,_,_,.cons r t,.cons r' t'=>by rw[r.inj r',Vals.inj t t']
section
variable {X:Cx} {pins:List (Addr×Obj)} {σ:St} {H:Hp} {s:Shared} {a:Addr} {xs ys:List V}
theorem SqL.of {K:W.Frag}(h:H a=some (.lst xs)):SqL K H a xs:=.inl (.inl h)
theorem SqT.of {K:W.Frag}(h:H a=some (.tup xs)):SqT K H a xs:=.inl (.inl h)
theorem Inv.list (I:Inv X pins σ H s)(h:SqL X.K H a xs):∃its:List Value,Vals xs its/\PlainL s.heap a its.toArray/\xs.length<=sizeLine:=by
 rcases h with h|⟨o,its,n,hk,hc,hd,hs,hz,r⟩
 ·obtain⟨z,its,n,r,e⟩:=h.ok I.hok
  exact⟨its,r,⟨_,n,e,rfl,rfl,rfl⟩,z⟩
 ·refine⟨its.toList,r,⟨o,n,I.kIn a o hk,hc,hd,by simpa using hs⟩,?_⟩
  have e:=r.length
  simp only[Array.length_toList] at e
  omega
theorem Inv.tuple (I:Inv X pins σ H s)(h:SqT X.K H a xs):∃its:List Value,Vals xs its/\IsTup s.heap a its.toArray/\xs.length<=sizeLine:=by
 rcases h with h|⟨o,its,n,hk,hc,hs,hz,r⟩
 ·obtain⟨z,its,r,p⟩:=h.ok I.hok
  exact⟨its,r,p,z⟩
 ·refine⟨its.toList,r,⟨o,I.kIn a o hk,hc,n,by simpa using hs⟩,?_⟩
  have e:=r.length
  simp only[Array.length_toList] at e
  omega
theorem Inv.list_inj (I:Inv X pins σ H s)(h:SqL X.K H a xs)(h':SqL X.K H a ys):xs=ys:=by
 obtain⟨its,r,⟨o,n,e,_,_,d⟩,_⟩:=I.list h
 obtain⟨its',r',⟨o',n',e',_,_,d'⟩,_⟩:=I.list h'
 rw[e] at e';cases e'
 rw[d] at d'
 injection d' with d1 _
 have:its=its':=by simpa using congrArg Array.toList d1
 subst this
 exact r.inj r'
theorem Inv.tuple_inj (I:Inv X pins σ H s)(h:SqT X.K H a xs)(h':SqT X.K H a ys):xs=ys:=by
 obtain⟨its,r,⟨o,e,_,n,d⟩,_⟩:=I.tuple h
 obtain⟨its',r',⟨o',e',_,n',d'⟩,_⟩:=I.tuple h'
 rw[e] at e';cases e'
 rw[d] at d'
 injection d' with d1 _
 have:its=its':=by simpa using congrArg Array.toList d1
 subst this
 exact r.inj r'
end
abbrev Cx.wish (X:Cx)(E:Value->Shared->Prop):Cx:={ X with xe:=E }
abbrev Cx.nox (X:Cx):Cx:=X.wish fun _ _=>False
theorem Cx.Ok.wish {X:Cx}(ok:X.Ok)(E:Value->Shared->Prop):(X.wish E).Ok:=
 ⟨ok.mod,ok.kind,ok.glob,ok.blt,ok.above,ok.inj,ok.has,ok.cab,ok.hd,ok.frames,ok.stk,ok.exf,ok.bs,ok.bsz,ok.noex,ok.exfs,ok.funs,ok.frf⟩
theorem Cx.Ok.unwish {X:Cx}{E:Value->Shared->Prop}(ok:(X.wish E).Ok):X.Ok:=
 ⟨ok.mod,ok.kind,ok.glob,ok.blt,ok.above,ok.inj,ok.has,ok.cab,ok.hd,ok.frames,ok.stk,ok.exf,ok.bs,ok.bsz,ok.noex,ok.exfs,ok.funs,ok.frf⟩
section
variable {X:Cx} {pins:List (Addr×Obj)} {σ:St} {H:Hp} {s:Shared} {E:Value->Shared->Prop}
theorem Inv.wish (I:Inv X pins σ H s)(E:Value->Shared->Prop):Inv (X.wish E) pins σ H s:=⟨I.ok.wish E,I.os,I.bare,I.base,I.loc,I.cell,I.free,I.freeC,I.pin,I.hok,I.len⟩
theorem Inv.unwish (I:Inv (X.wish E) pins σ H s):Inv X pins σ H s:=⟨I.ok.unwish,I.os,I.bare,I.base,I.loc,I.cell,I.free,I.freeC,I.pin,I.hok,I.len⟩
theorem SP.unwish {D:Ends}{f:Flow}{s':Shared}(h:SP (X.wish E) pins D f s'):SP X pins D f s':=by
 cases f with
 |next=>obtain⟨σ',H',I,q⟩:=h;exact⟨σ',H',I.unwish,q⟩
 |brk=>obtain⟨σ',H',I,q⟩:=h;exact⟨σ',H',I.unwish,q⟩
 |cont=>obtain⟨σ',H',I,q⟩:=h;exact⟨σ',H',I.unwish,q⟩
 |ret u=>obtain⟨v,σ',H',I,r,q⟩:=h;exact⟨v,σ',H',I.unwish,r,q⟩
theorem PSs.nox {st:List Stmt}{t:TS}(h:PSs X.nox st t):PSs X st t:=fun pins s σ H D I hw=>
 wpAny_mono (h pins s σ H D (I.wish _) hw) (fun _ _ q=>q.unwish) fun _ _ z=>False.elim z
end
section
variable {X:Cx} {st:Stmt} {rest:List Stmt} {t u:TS} {e:Expr} {te:TE} {pos:Pos}
def tNext:TS:=fun D σ H=>D.nx σ H
def tSeq (t u:TS):TS:=fun D σ H=>t { D with nx:=u D } σ H
theorem pss_nil:PSs X [] tNext:=fun _ _ σ H _ I h=>wpAny_execs_nil ⟨σ,H,I,h⟩
theorem pss_cons (h1:PS X st t)(h2:PSs X rest u):PSs X (st::rest) (tSeq t u):=by
 intro pins s σ H D I h
 refine wpAny_execs_cons (thn (h1 pins s σ H { D with nx:=u D } I h) fun f s1 q=>?_)
 cases f with
 |next=>
  obtain⟨σ',H',I',q⟩:=q
  exact h2 pins s1 σ' H' D I' q
 |ret v=>exact q
 |brk=>exact q
 |cont=>exact q
theorem pss_one (h1:PS X st t):PSs X [st] t:=by
 intro pins s σ H D I h
 refine wpAny_execs_cons (thn (h1 pins s σ H D I h) fun f s1 q=>?_)
 cases f with
 |next=>exact wpAny_execs_nil q
 |ret v=>exact q
 |brk=>exact q
 |cont=>exact q
theorem Inv.quiet {pins:List (Addr×Obj)}{σ:St}{H:Hp}{s:Shared}(I:Inv X pins σ H s):interactive X.env=false:=by simp[interactive,I.ok.kind]
def tDrop (te:TE):TS:=fun D σ H=>te σ H fun _ H1=>D.nx σ H1
theorem ps_expr (he:PE X e te)(hs:swapsWith e none pos.line X.env=pure false:=by rfl):PS X (.Expr e pos) (tDrop te):=by
 intro pins s σ H D I h
 exact wpAny_Expr_any (thn (he pins s σ H _ I h) fun v s1 ⟨x,H1,I1,r1,q1⟩=>⟨σ,H1,I1,q1⟩) I.quiet hs
def tRet (te:TE):TS:=fun D σ H=>te σ H D.rt
theorem ps_ret (he:PE X e te):PS X (.Return (some e) pos) (tRet te):=by
 intro pins s σ H D I h
 exact wpAny_Return_some (thn (he pins s σ H _ I h) fun v s1 ⟨x,H1,I1,r1,q1⟩=>⟨x,σ,H1,I1,r1,q1⟩)
def tIfS (c:TT)(t u:TS):TS:=fun D σ H=>c σ H fun b H1=>if b=true then t D σ H1 else u D σ H1
theorem ps_if {c:Expr}{a b:List Stmt}{tc:TT}(hc:PT X c tc)(ha:PSs X a t)(hb:PSs X b u):PS X (.If c a b pos) (tIfS tc t u):=by
 intro pins s σ H D I h
 refine wpAny_If (thn (hc pins s σ H _ I h) fun d s1 ⟨H1,I1,q1⟩=>?_)
 cases d with
 |true=>exact ha pins s1 σ H1 D I1 q1
 |false=>exact hb pins s1 σ H1 D I1 q1
end
abbrev TG:=V->St->Hp->(St->Hp->Prop)->Prop
def PG (X:Cx)(target:Expr)(t:TG):Prop:=
 ∀(pins:List (Addr×Obj)) (s:Shared) (σ:St) (H:Hp) (v:V) (u:Value) (Q:St->Hp->Prop),Inv X pins σ H s->RelV v u->t v σ H Q→
  wpAny (model X.prog X.w) X.A (assign target X.env u) (fun _ s'=>∃σ' H',Inv X pins σ' H' s'/\Q σ' H') X.xe s
section
variable {X:Cx} {pos:Pos}
def gName (i:Nat):TG:=fun v σ H Q=>Q (σ.set i (some v)) H
theorem pg_name {i:Nat}{x:Str}(hN:X.N.Nodup)(hi:X.N[i]?=some x)(hx:Loc X.env.scope x)(hf:X.fn x=true\/X.env.scope.names.lookup x=some .local:=by first|exact .inl rfl|exact .inr rfl|assumption):PG X (.Name x pos) (gName i):=by
 intro pins s σ H v u Q I r h
 exact wpAny_assign_Name (store_ok I hN hi hx r (fun s' I'=>⟨_,H,I',h⟩) hf)
def tAsg (te:TE)(g:TG):TS:=fun D σ H=>te σ H fun x H1=>g x σ H1 D.nx
theorem ps_set {i:Nat}{x:Str}{e:Expr}{te:TE}{pos':Pos}(hN:X.N.Nodup)(hi:X.N[i]?=some x)(hx:Loc X.env.scope x)(he:PE X e te)(hs:swapsWith e (some (.Name x pos')) pos.line X.env=pure false:=by rfl)(hf:X.fn x=true\/X.env.scope.names.lookup x=some .local:=by first|exact .inl rfl|exact .inr rfl|assumption):
  PS X (.Assign [.Name x pos'] e pos) (tAsg te (gName i)):=by
 intro pins s σ H D I h
 refine wpAny_Assign_Name (thn (he pins s σ H _ I h) fun v s1 ⟨y,H1,I1,r1,q1⟩=>?_) hs
 exact store_ok I1 hN hi hx r1 (fun s2 I2=>⟨_,H1,I2,q1⟩) hf
end
structure It where
 go:Nat->Hp->Prop
 yld:Nat->Hp->V->Hp->Prop
 stop:Nat->Hp->Prop
def FpOk (X:Cx)(pins:List (Addr×Obj))(H:Hp)(b:Addr):Prop:=
 H b=none/\b≠X.env.locals/\b∉X.fs/\(b∈X.ex\/X.s₀.heap.objs.size<=b)/\(∀x c,X.env.cells.lookup x=some c->c≠b)/\∀p∈X.pn++pins,p.1≠b
theorem Inv.fpOk {X:Cx}{pins:List (Addr×Obj)}{σ:St}{H H':Hp}{s:Shared}{b:Addr}(I:Inv X pins σ H s)(hb:s.heap.objs.size<=b)(hn:H' b=none):FpOk X pins H' b:=by
 refine⟨hn,Nat.ne_of_gt (Nat.lt_of_lt_of_le I.lt hb),I.nofs hb,.inr (Nat.le_trans I.sz hb),fun x c e z=>?_,fun p hp z=>?_⟩
 ·obtain⟨v,q⟩:=I.cell x c e
  exact absurd (Nat.lt_of_lt_of_le q.lt (by rw[z];exact hb)) (Nat.lt_irrefl _)
 ·exact absurd (Nat.lt_of_lt_of_le (Heap.lt_size (I.pin p hp).1) (by rw[z];exact hb)) (Nat.lt_irrefl _)
structure Turn (P:Program)(w:World)(K:W.Frag)(tg:Expr)(J:It)(fp:List Addr)(it:Addr)(tn:Nat->Heap->Prop):Prop where
 mem:it∈fp
 obj:∀i h,tn i h->∀b∈fp,∃o,h.get? b=some o/\∀v,o.data≠.cell v
 keep:∀i h h',tn i h->(∀b∈fp,∀o,h.get? b=some o->h'.get? b=some o)->tn i h'
 item:∀(X:Cx),X.prog=P->X.w=w->X.K=K->X.calm=true->∀(i:Nat) (pins:List (Addr×Obj)) (s:Shared) (σ:St) (H:Hp) (E:Value->Shared->Prop),Inv X pins σ H s->(∀b∈fp,FpOk X pins H b)->tn i s.heap->J.go i H→
  wpAny (model P w) X.A (pyNext (.ref it)) (fun r s1=>∃u,r=some u∧
   wpAny (model P w) X.A (letOwnedTupleGo tg (.ref it) u) (fun _ s2=>∃x H',Inv X pins σ H' s2/\RelV x u/\J.yld i H x H'/\tn (i+1) s2.heap/\∀b∈fp,H' b=none) E s1) E s
 done:∀(X:Cx),X.prog=P->X.w=w->X.K=K->X.calm=true->∀(i:Nat) (pins:List (Addr×Obj)) (s:Shared) (σ:St) (H:Hp) (E:Value->Shared->Prop),Inv X pins σ H s->(∀b∈fp,FpOk X pins H b)->tn i s.heap->J.stop i H→
  wpAny (model P w) X.A (pyNext (.ref it)) (fun r s1=>r=none/\Inv X pins σ H s1) E s
 self:∀(A:Around) (i:Nat) (s:Shared) (Q:Value->Shared->Prop) (E:Value->Shared->Prop),tn i s.heap->Q (.ref it) s->wpAny (model P w) A (pyIter (.ref it)) Q E s
abbrev TI:=St->Hp->(It->Hp->Prop)->Prop
def PIE (X:Cx)(pins:List (Addr×Obj))(σ:St)(tg:Expr)(R:It->Hp->Prop)(itv:Value)(s2:Shared):Prop:=
 ∃(it:Addr) (fp:List Addr) (tn:Nat->Heap->Prop) (J:It) (H':Hp),itv=.ref it/\Inv X pins σ H' s2/\Turn X.prog X.w X.K tg J fp it tn/\tn 0 s2.heap/\(∀b∈fp,FpOk X pins H' b)/\R J H'
def PI (X:Cx)(tg iter:Expr)(wi:TI):Prop:=
 ∀(pins:List (Addr×Obj)) (s:Shared) (σ:St) (H:Hp) (R:It->Hp->Prop),Inv X pins σ H s->wi σ H R→
  wpAny (model X.prog X.w) X.A (eval iter X.env) (fun v s1=>wpAny (model X.prog X.w) X.A (pyIter v) (PIE X pins σ tg R) X.xe s1) X.xe s
theorem go_of {M:Model}{A:Around}{E:Value->Shared->Prop}{s:Shared}{tg:Expr}{it:Addr}{u:Value}{o:Obj}{n:String}{vs:Array Value}{Q:Unit->Shared->Prop}(ho:s.heap.get? it=some o)(hc:o.cls=.type n)(hd:o.data=.fields vs)
  (hn:["enumerate","zip","dict_itemiterator","dict_reverseitemiterator","odict_iterator","itertools.zip_longest","itertools.pairwise"].contains n=false) (hQ:Q () s):wpAny M A (letOwnedTupleGo tg (.ref it) u) Q E s:=by
 unfold letOwnedTupleGo
 cases tg<;>first
  |exact wpAny_pure hQ
  | (cases u<;>first
      |exact wpAny_pure hQ
      | (refine wpAny_bind (wpAny_load ho ?_)
         rw[hc,hd]
         show wpAny M A (if (["enumerate","zip","dict_itemiterator","dict_reverseitemiterator","odict_iterator","itertools.zip_longest","itertools.pairwise"].contains n&&vs[0]?==some (rawInt _))=true then _ else _) Q E s
         rw[if_neg (by intro h;rw[hn,Bool.false_and] at h;cases h)]
         exact wpAny_pure hQ))
def Itl (K:W.Frag)(a:Addr):It:=
 ⟨fun i H=>∃xs x,SqL K H a xs/\xs[i]?=some x,fun i H x H'=>H'=H/\∀xs,SqL K H a xs->xs[i]?=some x,fun i H=>∃xs,SqL K H a xs/\xs.length<=i⟩
def Itt (K:W.Frag)(a:Addr):It:=
 ⟨fun i H=>∃xs x,SqT K H a xs/\xs[i]?=some x,fun i H x H'=>H'=H/\∀xs,SqT K H a xs->xs[i]?=some x,fun i H=>∃xs,SqT K H a xs/\xs.length<=i⟩
def Itr (lo:Int)(n:Nat):It:=⟨fun i _=>i<n,fun i H x H'=>H'=H/\x=.int (lo+i),fun i _=>n<=i⟩
theorem turn_list {P:Program}{w:World}{K:W.Frag}{tg:Expr}(a it:Addr):Turn P w K tg (Itl K a) [it] it (fun i h=>h.IsListIter it a i) where
 mem:=by simp
 obj:=fun i h st b hb=>by
  have e:b=it:=by simpa using hb
  subst e
  obtain⟨o,e,c,d⟩:=st
  exact⟨o,e,fun v z=>by rw[d] at z;cases z⟩
 keep:=fun i h h' st k=>st.at fun o e=>k it (by simp) o e
 item:=by
  intro X hP hw hK hc i pins s σ H E I hf st hg
  subst hP hw hK
  obtain⟨xs,x,hq,hx⟩:=hg
  obtain⟨its,rv,p,hz⟩:=I.list hq
  obtain⟨u,hu,ru⟩:=rv.get hx
  obtain⟨f0,f1,f2,f3,f4,f5⟩:=hf it (by simp)
  refine wpAny_pyNext_list_item st p.isList (x:=u) (by simpa using hu) fun h' st' sb=>?_
  have I1:Inv X pins σ H { s with heap:=h' }:=I.turned (t':=s.toks) (fun b o hb e=>(sb.2 b hb).trans e) f0 f1 f3 f4 f5
  obtain⟨o,e,c,d⟩:=id st'
  exact⟨u,rfl,go_of (s:={ s with heap:=h' }) e c d (by decide) ⟨x,H,I1,ru,⟨rfl,fun ys hy=>by rw[I.list_inj hy hq];exact hx⟩,st',fun b hb=>(hf b hb).1⟩⟩
 done:=by
  intro X hP hw hK hc i pins s σ H E I hf st hg
  subst hP hw hK
  obtain⟨xs,hq,hx⟩:=hg
  obtain⟨its,rv,p,hz⟩:=I.list hq
  obtain⟨f0,f1,f2,f3,f4,f5⟩:=hf it (by simp)
  have hl:=rv.length
  exact wpAny_pyNext_list_end (I.ok.hd hc) st p.isList (by simp;omega) fun h' eb=>⟨rfl,I.turned (t':=s.toks) (fun b o hb e=>eb b o hb e) f0 f1 f3 f4 f5⟩
 self:=fun _ _ _ _ _ st h=>wpAny_pyIter_listiter st h
theorem turn_tuple {P:Program}{w:World}{K:W.Frag}{tg:Expr}(a it:Addr):Turn P w K tg (Itt K a) [it] it (fun i h=>h.IsTupleIter it a i) where
 mem:=by simp
 obj:=fun i h st b hb=>by
  have e:b=it:=by simpa using hb
  subst e
  obtain⟨o,e,c,d⟩:=st
  exact⟨o,e,fun v z=>by rw[d] at z;cases z⟩
 keep:=fun i h h' st k=>st.at fun o e=>k it (by simp) o e
 item:=by
  intro X hP hw hK hc i pins s σ H E I hf st hg
  subst hP hw hK
  obtain⟨xs,x,hq,hx⟩:=hg
  obtain⟨its,rv,p,hz⟩:=I.tuple hq
  obtain⟨u,hu,ru⟩:=rv.get hx
  obtain⟨f0,f1,f2,f3,f4,f5⟩:=hf it (by simp)
  refine wpAny_pyNext_tuple_item st (show s.heap.IsTuple a its.toArray from p) (x:=u) (by simpa using hu) fun h' st' sb=>?_
  have I1:Inv X pins σ H { s with heap:=h' }:=I.turned (t':=s.toks) (fun b o hb e=>(sb.2 b hb).trans e) f0 f1 f3 f4 f5
  obtain⟨o,e,c,d⟩:=id st'
  exact⟨u,rfl,go_of (s:={ s with heap:=h' }) e c d (by decide) ⟨x,H,I1,ru,⟨rfl,fun ys hy=>by rw[I.tuple_inj hy hq];exact hx⟩,st',fun b hb=>(hf b hb).1⟩⟩
 done:=by
  intro X hP hw hK hc i pins s σ H E I hf st hg
  subst hP hw hK
  obtain⟨xs,hq,hx⟩:=hg
  obtain⟨its,rv,p,hz⟩:=I.tuple hq
  obtain⟨f0,f1,f2,f3,f4,f5⟩:=hf it (by simp)
  have hl:=rv.length
  exact wpAny_pyNext_tuple_end (I.ok.hd hc) st (show s.heap.IsTuple a its.toArray from p) (by simp;omega) fun h' eb=>⟨rfl,I.turned (t':=s.toks) (fun b o hb e=>eb b o hb e) f0 f1 f3 f4 f5⟩
 self:=fun _ _ _ _ _ st h=>wpAny_pyIter_tupleiter st h
theorem turn_range {P:Program}{w:World}{K:W.Frag}{tg:Expr}(it:Addr)(lo:Int)(n:Nat):Turn P w K tg (Itr lo n) [it] it (fun i h=>IsRangeIter h it (lo+(i:Nat)*1) ((n:Int)-(i:Nat)) 1) where
 mem:=by simp
 obj:=fun i h st b hb=>by
  have e:b=it:=by simpa using hb
  subst e
  exact⟨_,st,fun v z=>by
   have z':Data.fields _=Data.cell v:=z
   cases z'⟩
 keep:=fun i h h' st k=>k it (by simp) _ st
 item:=by
  intro X hP hw hK hc i pins s σ H E I hf st hg
  subst hP hw hK
  obtain⟨f0,f1,f2,f3,f4,f5⟩:=hf it (by simp)
  have W:=Walks.range (prog:=X.prog) (w:=X.w) (I.ok.hd hc) it lo 1 n
  refine W.item i s _ _ hg st fun v h' tk hv st' kk=>?_
  obtain⟨t,rfl⟩:=hv
  have I1:Inv X pins σ H { s with heap:=h',toks:=tk }:=I.turned (fun b o hb e=>kk b o (by simpa using hb) e) f0 f1 f3 f4 f5
  refine⟨_,rfl,go_of (s:={ s with heap:=h',toks:=tk }) (n:="range_iterator") st' rfl rfl (by decide) ⟨.int (lo+i),H,I1,⟨t,?_⟩,⟨rfl,rfl⟩,st',fun b hb=>(hf b hb).1⟩⟩
  rw[Int.mul_one]
 done:=by
  intro X hP hw hK hc i pins s σ H E I hf st hg
  subst hP hw hK
  obtain⟨f0,f1,f2,f3,f4,f5⟩:=hf it (by simp)
  exact wpAny_pyNext_range_end (I.ok.hd hc) st (by have:n<=i:=hg;omega) fun h' eb=>⟨rfl,I.turned (t':=s.toks) (fun b o hb e=>eb b o hb e) f0 f1 f3 f4 f5⟩
 self:=fun _ _ _ _ _ st h=>wpAny_pyIter_rangeiter st h
end L2
namespace L2
open PySem PySem.Spec PyProof.Rows
section
variable {X:Cx} {tg:Expr}
def iList (K:W.Frag)(tl:TE):TI:=fun σ H R=>tl σ H fun x H1=>∃a,x=.ref a/\(∃xs,SqL K H1 a xs)/\R (Itl K a) H1
def iTup (K:W.Frag)(tl:TE):TI:=fun σ H R=>tl σ H fun x H1=>∃a,x=.ref a/\(∃xs,SqT K H1 a xs)/\R (Itt K a) H1
theorem pi_list {l:Expr}{tl:TE}(hl:PE X l tl):PI X tg l (iList X.K tl):=by
 intro pins s σ H R I h
 refine thn (hl pins s σ H _ I h) fun v s1 hq9=>?_
 obtain⟨x,H1,I1,r1,q1⟩:=hq9
 obtain⟨a,e,⟨xs,hq⟩,q⟩:=q1
 subst e
 cases r1
 obtain⟨its,rv,p,hz⟩:=I1.list hq
 refine wpAny_pyIter_list p.isList ?_
 refine⟨s1.heap.objs.size,[s1.heap.objs.size],_,_,H1,rfl,I1.kept (t':=s1.toks) fun b o e=>Heap.get?_push_of_some _ e,turn_list a _,⟨_,Heap.get?_push_size _ rfl,rfl,rfl⟩,fun b hb=>?_,q⟩
 have e:b=s1.heap.objs.size:=by simpa using hb
 subst e
 exact I1.fpOk (Nat.le_refl _) (I1.hok.fresh (Nat.le_refl _))
theorem pi_tup {l:Expr}{tl:TE}(hl:PE X l tl):PI X tg l (iTup X.K tl):=by
 intro pins s σ H R I h
 refine thn (hl pins s σ H _ I h) fun v s1 hq9=>?_
 obtain⟨x,H1,I1,r1,q1⟩:=hq9
 obtain⟨a,e,⟨xs,hq⟩,q⟩:=q1
 subst e
 cases r1
 obtain⟨its,rv,p,hz⟩:=I1.tuple hq
 refine wpAny_pyIter_tuple (show s1.heap.IsTuple a its.toArray from p) ?_
 refine⟨s1.heap.objs.size,[s1.heap.objs.size],_,_,H1,rfl,I1.kept (t':=s1.toks) fun b o e=>Heap.get?_push_of_some _ e,turn_tuple a _,⟨_,Heap.get?_push_size _ rfl,rfl,rfl⟩,fun b hb=>?_,q⟩
 have e:b=s1.heap.objs.size:=by simpa using hb
 subst e
 exact I1.fpOk (Nat.le_refl _) (I1.hok.fresh (Nat.le_refl _))
theorem range_it {pins:List (Addr×Obj)}{σ:St}{H:Hp}{s:Shared}{R:It->Hp->Prop}{E:Value->Shared->Prop}{lo hi:Int}{t u v:Tok}{tk:Nat}(I:Inv X pins σ H s)(h1:-(2 ^ 62)<=lo)(h2:lo<2 ^ 62)(h3:-(2 ^ 62)<=hi)(h4:hi<2 ^ 62)
  (q:R (Itr lo (hi-lo).toNat) H):wpAny (model X.prog X.w) X.A (pyIter (.ref s.heap.objs.size)) (PIE X pins σ tg R) E { s with heap:=s.heap.push { cls:=.type "range",data:=.fields #[.int lo t,.int hi u,.int 1 v] },toks:=tk }:=by
 refine wpAny_pyIter_range (IsRange.new ..) (small_one h1 h2 h3 h4) ?_
 have I1:Inv X pins σ H { s with heap:=s.heap.push { cls:=.type "range",data:=.fields #[.int lo t,.int hi u,.int 1 v] },toks:=tk }:=I.kept fun b o e=>Heap.get?_push_of_some _ e
 refine⟨(s.heap.push { cls:=.type "range",data:=.fields #[.int lo t,.int hi u,.int 1 v] }).objs.size,[(s.heap.push { cls:=.type "range",data:=.fields #[.int lo t,.int hi u,.int 1 v] }).objs.size],_,_,H,rfl,
  I1.kept (t':=tk) fun b o e=>Heap.get?_push_of_some _ e,turn_range _ lo (hi-lo).toNat,?_,fun b hb=>?_,q⟩
 ·have e1:lo+((0:Nat):Int)*1=lo:=by simp
  have e2:(((hi-lo).toNat:Nat):Int)-((0:Nat):Int)=Builtin.Range.rangeSize lo hi 1:=by rw[rangeSize_one];split<;>omega
  show IsRangeIter _ _ (lo+((0:Nat):Int)*1) ((((hi-lo).toNat:Nat):Int)-((0:Nat):Int)) 1
  rw[e1,e2]
  exact Heap.get?_push_size _ rfl
 ·have e:b=(s.heap.push { cls:=.type "range",data:=.fields #[.int lo t,.int hi u,.int 1 v] }).objs.size:=by simpa using hb
  subst e
  exact I1.fpOk (Nat.le_refl _) (I1.hok.fresh (Nat.le_refl _))
def iRng1 (ta:TA):TI:=fun σ H R=>ta σ H fun vs H1=>∃j:Int,vs=[.int j]/\-(2 ^ 62)<=j/\j<2 ^ 62/\R (Itr 0 j.toNat) H1
def iRng2 (ta:TA):TI:=fun σ H R=>ta σ H fun vs H1=>∃i j:Int,vs=[.int i,.int j]/\(-(2 ^ 62)<=i/\i<2 ^ 62/\-(2 ^ 62)<=j/\j<2 ^ 62)/\R (Itr i (j-i).toNat) H1
theorem pi_range1 {a:Expr}{ta:TA}{p pos:Pos}(hg:Gl X "range")(hm:X.mg "range"=none)(ha:PA X [a] ta)(hs:starEach [a] X.env=[(false,eval a X.env)]:=by rfl):PI X tg (.Call (.Name "range" p) [a] [] pos) (iRng1 ta):=by
 intro pins s σ H R I h
 refine Call_ (ld_blt I hg hm boot_range (PyProof.Rows.callWith_type1 (thn (ha pos pins s σ H _ I h) fun us s1 ⟨vs,H1,I1,r1,q1⟩=>?_) hs rfl))
 obtain⟨j,e,q1,q2,q⟩:=q1
 subst e
 cases r1 with
 |cons r rr=>
  cases rr
  obtain⟨t,rfl⟩:=r
  exact call_range_1 (range_it I1 (by omega) (by omega) q1 q2 (by simpa using q))
theorem pi_range2 {a b:Expr}{ta:TA}{p pos:Pos}(hg:Gl X "range")(hm:X.mg "range"=none)(ha:PA X [a,b] ta)(hs:starEach [a,b] X.env=[(false,eval a X.env),(false,eval b X.env)]:=by rfl)(hs2:starEach [b] X.env=[(false,eval b X.env)]:=by rfl):
  PI X tg (.Call (.Name "range" p) [a,b] [] pos) (iRng2 ta):=by
 intro pins s σ H R I h
 refine Call_ (ld_blt I hg hm boot_range (PyProof.Rows.callWith_type1 (thn (ha pos pins s σ H _ I h) fun us s1 ⟨vs,H1,I1,r1,q1⟩=>?_) (by rw[hs,hs2]) (by rw[hs2];rfl)))
 obtain⟨i,j,e,⟨q1,q2,q3,q4⟩,q⟩:=q1
 subst e
 cases r1 with
 |cons r rr=>
  cases rr with
  |cons r' rr=>
   cases rr
   obtain⟨t,rfl⟩:=r
   obtain⟨t',rfl⟩:=r'
   exact call_range_2 (range_it I1 q1 q2 q3 q4 q)
def tFor (wi:TI)(g:TG)(tb:TS):TS:=fun D σ H=>wi σ H fun J H1=>∃W:Nat->Nat->St->Hp->Prop,(∃m,W 0 m σ H1)/\∀i m σ H,W i m σ H→
 (J.stop i H/\D.nx σ H)\/(J.go i H/\∃N:St->Hp->Prop,(∀σ' H',N σ' H'->∃m',m'<m/\W (i+1) m' σ' H')/\∀x H',J.yld i H x H'->g x σ H' fun σ2 H2=>tb { D with nx:=N,ct:=N,bk:=D.nx } σ2 H2)
def pinsAt (fp:List Addr)(h:Heap):List (Addr×Obj):=fp.filterMap fun b=>(h.get? b).map fun o=>(b,o)
theorem mem_pinsAt {fp:List Addr}{h:Heap}{b:Addr}{o:Obj}(hb:b∈fp)(e:h.get? b=some o):(b,o)∈pinsAt fp h:=List.mem_filterMap.mpr ⟨b,hb,by rw[e];rfl⟩
theorem of_pinsAt {fp:List Addr}{h:Heap}{p:Addr×Obj}(hp:p∈pinsAt fp h):p.1∈fp/\h.get? p.1=some p.2:=by
 obtain⟨b,hb,e⟩:=List.mem_filterMap.mp hp
 cases q:h.get? b with
 |none=>rw[q] at e;cases e
 |some o=>
  rw[q] at e
  have e':(b,o)=p:=Option.some.inj e
  subst e'
  exact⟨hb,q⟩
theorem Inv.pinned {pins:List (Addr×Obj)}{σ:St}{H:Hp}{s:Shared}{fp:List Addr}(I:Inv X pins σ H s)(hf:∀b∈fp,FpOk X pins H b)(ho:∀b∈fp,∃o,s.heap.get? b=some o/\∀v,o.data≠.cell v):Inv X (pins++pinsAt fp s.heap) σ H s:=
 I.pins_of fun p hp=>(List.mem_append.mp hp).elim (fun z=>I.pin p (List.mem_append_right _ z)) fun z=>by
  obtain⟨hb,e⟩:=of_pinsAt z
  obtain⟨f0,f1,f2,_⟩:=hf p.1 hb
  obtain⟨o,e',d⟩:=ho p.1 hb
  rw[e] at e';cases e'
  exact⟨e,f0,f1,f2,d⟩
theorem Inv.unpinned {pins pl:List (Addr×Obj)}{σ:St}{H:Hp}{s:Shared}(I:Inv X (pins++pl) σ H s):Inv X pins σ H s:=I.pins_of fun p hp=>I.pin p (List.mem_append_right _ (List.mem_append_left _ hp))
theorem ps_for {iter:Expr}{body:List Stmt}{wi:TI}{g:TG}{tb:TS}{pos:Pos}(hp:PassesOwn (model X.prog X.w) X.A X.env X.xe)(hc:X.calm=true)(hi:PI X tg iter wi)(hg:PG X tg g)(hb:PSs X body tb)
  (hs:∀x,foldedSetIterable iter X.env x=pure x:=by intro _;rfl):PS X (.For tg iter body [] pos) (tFor wi g tb):=by
 intro pins s σ H D I h
 refine wpAny_For (thn (hi pins s σ H _ I h) fun v s1 h1=>thn h1 fun itv s2 h2=>?_) hs
 obtain⟨it,fp,tn,J,H2,e,I2,T,st2,f2,W,⟨m0,w0⟩,turn⟩:=h2
 subst e
 have stat:∀{H':Hp},(∀b∈fp,H' b=none)->∀b∈fp,FpOk X pins H' b:=fun hn b hb=>⟨hn b hb,(f2 b hb).2⟩
 refine codeAny_forLoop_any (fun n s'=>∃i σ' H',Inv X pins σ' H' s'/\tn i s'.heap/\(∀b∈fp,H' b=none)/\W i n σ' H') ?_ m0 ⟨0,σ,H2,I2,st2,fun b hb=>(f2 b hb).1,w0⟩
 rintro n s3 ⟨i,σ3,H3,I3,st3,fr3,w3⟩
 rcases turn i n σ3 H3 w3 with⟨stop,qn⟩|⟨go,N,hN,step⟩
 ·refine wpAny_passesOwn hp (thn (T.done X rfl rfl rfl hc i pins s3 σ3 H3 X.xe I3 (stat fr3) st3 stop) fun r s4 ⟨hr,I4⟩=>?_)
  subst hr
  exact wpAny_execs_nil ⟨σ3,H3,I4,qn⟩
 ·refine wpAny_passesOwn hp (thn (T.item X rfl rfl rfl hc i pins s3 σ3 H3 X.xe I3 (stat fr3) st3 go) fun r s4 ⟨u,hr,h4⟩=>?_)
  subst hr
  refine wpAny_passesOwn hp (thn h4 fun _ s5 ⟨x,H5,I5,r5,y5,st5,fr5⟩=>?_)
  have I5':=I5.pinned (stat fr5) (T.obj _ _ st5)
  refine wpAny_passesOwn hp (thn (hg _ s5 σ3 H5 x u _ I5' r5 (step x H5 y5)) fun _ s6 ⟨σ6,H6,I6,q6⟩=>?_)
  refine wpAny_passesOwn hp (thn (hb _ s6 σ6 H6 _ I6 q6) fun f s7 q7=>?_)
  have again:∀{σ7:St} {H7:Hp},Inv X (pins++pinsAt fp s5.heap) σ7 H7 s7->N σ7 H7->∃m,m<n/\∃i σ' H',Inv X pins σ' H' s7/\tn i s7.heap/\(∀b∈fp,H' b=none)/\W i m σ' H':=fun {σ7 H7} I7 n7=>by
   obtain⟨m',hm,w7⟩:=hN σ7 H7 n7
   refine⟨m',hm,i+1,σ7,H7,I7.unpinned,T.keep _ _ _ st5 fun b hb o e=>(I7.pin (b,o) (List.mem_append_right _ (List.mem_append_right _ (mem_pinsAt hb e)))).1,fun b hb=>?_,w7⟩
   obtain⟨o,e,d⟩:=T.obj _ _ st5 b hb
   exact(I7.pin (b,o) (List.mem_append_right _ (List.mem_append_right _ (mem_pinsAt hb e)))).2.1
  cases f with
  |next=>obtain⟨σ7,H7,I7,n7⟩:=q7;exact again I7 n7
  |cont=>obtain⟨σ7,H7,I7,n7⟩:=q7;exact again I7 n7
  |brk=>obtain⟨σ7,H7,I7,q7⟩:=q7;exact⟨σ7,H7,I7.unpinned,q7⟩
  |ret v=>obtain⟨x7,σ7,H7,I7,r7,q7⟩:=q7;exact⟨x7,σ7,H7,I7.unpinned,r7,q7⟩
end
theorem for_list {K:W.Frag}{a:Addr}{xs:List V}{g:TG}{tb:TS}{D:Ends}{σ:St}{H:Hp}(Pv:Nat->St->Hp->Prop)(h0:Pv 0 σ H)(hl:∀i σ H,i<=xs.length->Pv i σ H->SqL K H a xs)
  (hs:∀i x σ H,xs[i]?=some x->Pv i σ H->g x σ H fun σ2 H2=>tb { D with nx:=Pv (i+1),ct:=Pv (i+1),bk:=D.nx } σ2 H2) (hd:∀σ H,Pv xs.length σ H->D.nx σ H):
  ∃W:Nat->Nat->St->Hp->Prop,(∃m,W 0 m σ H)/\∀i m σ H,W i m σ H→
   ((Itl K a).stop i H/\D.nx σ H)\/((Itl K a).go i H/\∃N:St->Hp->Prop,(∀σ' H',N σ' H'->∃m',m'<m/\W (i+1) m' σ' H')/\∀x H',(Itl K a).yld i H x H'->g x σ H' fun σ2 H2=>tb { D with nx:=N,ct:=N,bk:=D.nx } σ2 H2):=by
 refine⟨fun i m σ H=>m=xs.length-i/\i<=xs.length/\Pv i σ H,⟨xs.length,by simp,Nat.zero_le _,h0⟩,?_⟩
 rintro i m σ H ⟨rfl,hi,p⟩
 have q:=hl i σ H hi p
 by_cases hlt:i<xs.length
 ·refine .inr ⟨⟨xs,xs[i],q,by simp[hlt]⟩,Pv (i+1),fun σ' H' p'=>⟨xs.length-(i+1),by omega,rfl,hlt,p'⟩,fun x H' y=>?_⟩
  obtain⟨e,y⟩:=y
  subst e
  exact hs i x σ _ (y xs q) p
 ·have e:i=xs.length:=by omega
  subst e
  exact .inl ⟨⟨xs,q,Nat.le_refl _⟩,hd σ H p⟩
theorem for_tup {K:W.Frag}{a:Addr}{xs:List V}{g:TG}{tb:TS}{D:Ends}{σ:St}{H:Hp}(Pv:Nat->St->Hp->Prop)(h0:Pv 0 σ H)(hl:∀i σ H,i<=xs.length->Pv i σ H->SqT K H a xs)
  (hs:∀i x σ H,xs[i]?=some x->Pv i σ H->g x σ H fun σ2 H2=>tb { D with nx:=Pv (i+1),ct:=Pv (i+1),bk:=D.nx } σ2 H2) (hd:∀σ H,Pv xs.length σ H->D.nx σ H):
  ∃W:Nat->Nat->St->Hp->Prop,(∃m,W 0 m σ H)/\∀i m σ H,W i m σ H→
   ((Itt K a).stop i H/\D.nx σ H)\/((Itt K a).go i H/\∃N:St->Hp->Prop,(∀σ' H',N σ' H'->∃m',m'<m/\W (i+1) m' σ' H')/\∀x H',(Itt K a).yld i H x H'->g x σ H' fun σ2 H2=>tb { D with nx:=N,ct:=N,bk:=D.nx } σ2 H2):=by
 refine⟨fun i m σ H=>m=xs.length-i/\i<=xs.length/\Pv i σ H,⟨xs.length,by simp,Nat.zero_le _,h0⟩,?_⟩
 rintro i m σ H ⟨rfl,hi,p⟩
 have q:=hl i σ H hi p
 by_cases hlt:i<xs.length
 ·refine .inr ⟨⟨xs,xs[i],q,by simp[hlt]⟩,Pv (i+1),fun σ' H' p'=>⟨xs.length-(i+1),by omega,rfl,hlt,p'⟩,fun x H' y=>?_⟩
  obtain⟨e,y⟩:=y
  subst e
  exact hs i x σ _ (y xs q) p
 ·have e:i=xs.length:=by omega
  subst e
  exact .inl ⟨⟨xs,q,Nat.le_refl _⟩,hd σ H p⟩
theorem for_range {lo:Int}{n:Nat}{g:TG}{tb:TS}{D:Ends}{σ:St}{H:Hp}(Pv:Nat->St->Hp->Prop)(h0:Pv 0 σ H)
  (hs:∀i σ H,i<n->Pv i σ H->g (.int (lo+i)) σ H fun σ2 H2=>tb { D with nx:=Pv (i+1),ct:=Pv (i+1),bk:=D.nx } σ2 H2) (hd:∀σ H,Pv n σ H->D.nx σ H):
  ∃W:Nat->Nat->St->Hp->Prop,(∃m,W 0 m σ H)/\∀i m σ H,W i m σ H→
   ((Itr lo n).stop i H/\D.nx σ H)\/((Itr lo n).go i H/\∃N:St->Hp->Prop,(∀σ' H',N σ' H'->∃m',m'<m/\W (i+1) m' σ' H')/\∀x H',(Itr lo n).yld i H x H'->g x σ H' fun σ2 H2=>tb { D with nx:=N,ct:=N,bk:=D.nx } σ2 H2):=by
 refine⟨fun i m σ H=>m=n-i/\i<=n/\Pv i σ H,⟨n,by simp,Nat.zero_le _,h0⟩,?_⟩
 rintro i m σ H ⟨rfl,hi,p⟩
 by_cases hlt:i<n
 ·refine .inr ⟨hlt,Pv (i+1),fun σ' H' p'=>⟨n-(i+1),by omega,rfl,hlt,p'⟩,fun x H' y=>?_⟩
  obtain⟨e,y⟩:=y
  subst e y
  exact hs i σ _ hlt p
 ·have e:i=n:=by omega
  subst e
  exact .inl ⟨Nat.le_refl _,hd σ H p⟩
end L2
namespace L2
open PySem PySem.Spec PyProof.Rows
abbrev R2:=V->V->Hp->VK->Prop
def OpR (X:Cx)(f:Value->Value->Sem Value)(r:R2):Prop:=
 ∀(pins:List (Addr×Obj)) (s:Shared) (σ:St) (H:Hp) (x y:V) (v u:Value) (Q:VK),Inv X pins σ H s->RelV x v->RelV y u->r x y H Q→
  wpAny (model X.prog X.w) X.A (f v u) (EP X pins σ Q) X.xe s
def UnR (X:Cx)(f:Value->Sem Value)(r:V->Hp->VK->Prop):Prop:=
 ∀(pins:List (Addr×Obj)) (s:Shared) (σ:St) (H:Hp) (x:V) (v:Value) (Q:VK),Inv X pins σ H s->RelV x v->r x H Q→
  wpAny (model X.prog X.w) X.A (f v) (EP X pins σ Q) X.xe s
def CallR (X:Cx)(f:Value)(r:List V->Hp->VK->Prop):Prop:=
 ∀(pins:List (Addr×Obj)) (s:Shared) (σ:St) (H:Hp) (xs:List V) (us:List Value) (Q:VK),Inv X pins σ H s->Vals xs us->r xs H Q→
  wpAny (model X.prog X.w) X.A (call f us) (EP X pins σ Q) X.xe s
def tOp (r:R2)(ta tb:TE):TE:=fun σ H Q=>ta σ H fun x H1=>tb σ H1 fun y H2=>r x y H2 Q
def tUn (r:V->Hp->VK->Prop)(ta:TE):TE:=fun σ H Q=>ta σ H fun x H1=>r x H1 Q
def rI (C:Int->Int->Prop)(g:Int->Int->V):R2:=fun x y H Q=>∃i j,x=.int i/\y=.int j/\C i j/\Q (g i j) H
def rI0 (g:Int->Int->V):R2:=fun x y H Q=>∃i j,x=.int i/\y=.int j/\Q (g i j) H
def rU (g:Int->V):V->Hp->VK->Prop:=fun x H Q=>∃i,x=.int i/\Q (g i) H
section
variable {X:Cx} {a b c:Expr} {ta tb tc:TE} {pos:Pos}
theorem binT (ha:PE X a ta)(hb:PE X b tb){pins:List (Addr×Obj)}{s:Shared}{σ:St}{H:Hp}{R:V->V->Hp->Prop}(I:Inv X pins σ H s)
  (h:ta σ H fun x H1=>tb σ H1 fun y H2=>R x y H2) {Q:Value->Shared->Prop} {f:Value->Value->Sem Value}
  (hf:∀v u s2 x y H2,Inv X pins σ H2 s2->RelV x v->RelV y u->R x y H2->wpAny (model X.prog X.w) X.A (f v u) Q X.xe s2):
  wpAny (model X.prog X.w) X.A (eval a X.env) (fun v s₁=>wpAny (model X.prog X.w) X.A (eval b X.env) (fun u s₂=>wpAny (model X.prog X.w) X.A (f v u) Q X.xe s₂) X.xe s₁) X.xe s:=by
 refine thn (ha pins s σ H _ I h) fun v s1 hq9=>?_
 obtain⟨x,H1,I1,r1,q1⟩:=hq9
 refine thn (hb pins s1 σ H1 _ I1 q1) fun u s2 hq9=>?_
 obtain⟨y,H2,I2,r2,q2⟩:=hq9
 exact hf v u s2 x y H2 I2 r1 r2 q2
theorem pe_op {op:Operator}{r:R2}(ho:OpR X (binaryOp op) r)(ha:PE X a ta)(hb:PE X b tb):PE X (.BinOp a op b pos) (tOp r ta tb):=by
 intro pins s σ H Q I h
 exact wpAny_BinOp (binT ha hb I h fun v u s2 x y H2 I2 rx ry q=>ho pins s2 σ H2 x y v u Q I2 rx ry q)
theorem pe_un {op:UnaryOp}{r:V->Hp->VK->Prop}(ho:UnR X (unaryOp op) r)(ha:PE X a ta):PE X (.UnaryOp op a pos) (tUn r ta):=by
 intro pins s σ H Q I h
 exact UnaryOp_ (thn (ha pins s σ H _ I h) fun v s1 ⟨x,H1,I1,r1,q1⟩=>ho pins s1 σ H1 x v Q I1 r1 q1)
theorem opI {f:Value->Value->Sem Value}{C:Int->Int->Prop}{g:Int->Int->Int}
  (rule:∀(i j:Int) (t u:Tok) (s:Shared) (Q:Value->Shared->Prop) (E:Value->Shared->Prop),C i j->Q (.int (g i j) s.toks) { s with toks:=s.toks+1 }->wpAny (model X.prog X.w) X.A (f (.int i t) (.int j u)) Q E s):
  OpR X f (rI C fun i j=>.int (g i j)):=by
 intro pins s σ H x y v u Q I rx ry h
 obtain⟨i,j,rfl,rfl,hc,q⟩:=h
 obtain⟨t,rfl⟩:=rx
 obtain⟨t',rfl⟩:=ry
 exact rule i j t t' s _ _ hc ⟨.int (g i j),H,I.tok _,⟨_,rfl⟩,q⟩
theorem opI0 {f:Value->Value->Sem Value}{g:Int->Int->Int}
  (rule:∀(i j:Int) (t u:Tok) (s:Shared) (Q:Value->Shared->Prop) (E:Value->Shared->Prop),Q (.int (g i j) s.toks) { s with toks:=s.toks+1 }->wpAny (model X.prog X.w) X.A (f (.int i t) (.int j u)) Q E s):
  OpR X f (rI0 fun i j=>.int (g i j)):=by
 intro pins s σ H x y v u Q I rx ry h
 obtain⟨i,j,rfl,rfl,q⟩:=h
 obtain⟨t,rfl⟩:=rx
 obtain⟨t',rfl⟩:=ry
 exact rule i j t t' s _ _ ⟨.int (g i j),H,I.tok _,⟨_,rfl⟩,q⟩
theorem opB0 {f:Value->Value->Sem Value}{g:Int->Int->Bool}
  (rule:∀(i j:Int) (t u:Tok) (s:Shared) (Q:Value->Shared->Prop) (E:Value->Shared->Prop),Q (.bool (g i j)) s->wpAny (model X.prog X.w) X.A (f (.int i t) (.int j u)) Q E s):
  OpR X f (rI0 fun i j=>.bl (g i j)):=by
 intro pins s σ H x y v u Q I rx ry h
 obtain⟨i,j,rfl,rfl,q⟩:=h
 obtain⟨t,rfl⟩:=rx
 obtain⟨t',rfl⟩:=ry
 exact rule i j t t' s _ _ ⟨.bl (g i j),H,I,rfl,q⟩
def CDiv (i j:Int):Prop:=0<j/\j<1073741824
def CMul (i j:Int):Prop:=(-(2 ^ 64)<i/\i<2 ^ 64)\/(-(2 ^ 64)<j/\j<2 ^ 64)
theorem CMul.ok {i j:Int}(h:CMul i j):IntMulOk i j:=by
 rcases h with⟨h1,h2⟩|⟨h1,h2⟩
 ·exact .of_left (intBits_le_64 h1 h2)
 ·exact .of_right (intBits_le_64 h1 h2)
theorem op_add:OpR X (binaryOp .Add) (rI0 fun i j=>.int (i+j)):=opI0 fun _ _ _ _ _ _ _ q=>add_int q
theorem op_sub:OpR X (binaryOp .Sub) (rI0 fun i j=>.int (i-j)):=opI0 fun _ _ _ _ _ _ _ q=>sub_int q
theorem op_mul:OpR X (binaryOp .Mult) (rI CMul fun i j=>.int (i*j)):=opI fun _ _ _ _ _ _ _ hc q=>mul_int q hc.ok
theorem op_fdiv:OpR X (binaryOp .FloorDiv) (rI CDiv fun i j=>.int (i / j)):=opI fun i j _ _ _ _ _ hc q=>by
 have h1:(0:Int)<j:=hc.1
 have h2:j<1073741824:=hc.2
 exact floordiv_int (by omega) (by rw[Int.fdiv_eq_ediv_of_nonneg i (by omega)];exact q) (.inl (PyProof.noPylong_small (by omega)))
theorem op_mod:OpR X (binaryOp .Mod) (rI (fun _ j=>0<j) fun i j=>.int (i%j)):=opI fun i j _ _ _ _ _ hc q=>by
 have h1:(0:Int)<j:=hc
 exact mod_int' (by omega) (by rw[Int.fmod_eq_emod_of_nonneg i (by omega)];exact q)
theorem unI {f:Value->Sem Value}{g:Int->Int}
  (rule:∀(i:Int) (t:Tok) (s:Shared) (Q:Value->Shared->Prop) (E:Value->Shared->Prop),Q (.int (g i) s.toks) { s with toks:=s.toks+1 }->wpAny (model X.prog X.w) X.A (f (.int i t)) Q E s):
  UnR X f (rU fun i=>.int (g i)):=by
 intro pins s σ H x v Q I rx h
 obtain⟨i,rfl,q⟩:=h
 obtain⟨t,rfl⟩:=rx
 exact rule i t s _ _ ⟨.int (g i),H,I.tok _,⟨_,rfl⟩,q⟩
theorem un_neg:UnR X (unaryOp .USub) (rU fun i=>.int (-i)):=unI fun _ _ _ _ _ q=>neg_int q
end
def scal:V->V->Bool
 |.non,.non=>true | .non,.int _=>true | .int _,.non=>true | .non,.bl _=>true | .bl _,.non=>true | .non,.str _=>true | .str _,.non=>true
 |.int _,.int _=>true | .bl _,.bl _=>true | .str _,.str _=>true | .byt _,.byt _=>true
 |.int _,.str _=>true | .str _,.int _=>true | .bl _,.str _=>true | .str _,.bl _=>true
 |_,_=>false
def rEq:R2:=fun x y H Q=>scal x y=true/\Q (.bl (decide (x=y))) H
def rNe:R2:=fun x y H Q=>scal x y=true/\Q (.bl (!decide (x=y))) H
theorem dec_int {i j:Int}:decide (V.int i=V.int j)=(i==j):=by
 rw[Bool.eq_iff_iff]
 simp
theorem dec_bl {i j:Bool}:decide (V.bl i=V.bl j)=(i==j):=by
 rw[Bool.eq_iff_iff]
 simp
theorem dec_str {i j:Str}:decide (V.str i=V.str j)=(i==j):=by
 rw[Bool.eq_iff_iff]
 simp
theorem dec_byt {i j:Array UInt8}:decide (V.byt i=V.byt j)=(i.toList==j.toList):=by
 rw[Bool.eq_iff_iff]
 cases i
 cases j
 simp
section
variable {X:Cx} {a b c:Expr} {ta tb tc:TE} {pos:Pos}
theorem fin_bl {pins:List (Addr×Obj)}{σ:St}{H:Hp}{s:Shared}{Q:VK}{k k':Bool}(I:Inv X pins σ H s)(q:Q (.bl k) H)(e:k=k'):EP X pins σ Q (.bool k') s:=by
 subst e
 exact⟨.bl k,H,I,rfl,q⟩
theorem op_eq:OpR X (compareOp .Eq) rEq:=by
 intro pins s σ H x y v u Q I rx ry h
 obtain⟨hs,q⟩:=h
 cases x with
 |non=>
  cases rx
  cases y with
  |non=>cases ry;exact PySem.EqNone.eq_none_none (fin_bl I q (by simp))
  |bl j=>cases ry;exact PySem.EqNone.eq_none_bool (fin_bl I q (by simp))
  |int j=>obtain⟨t',rfl⟩:=ry;exact PySem.EqNone.eq_none_int (fin_bl I q (by simp))
  |str j=>obtain⟨t',rfl⟩:=ry;exact PySem.EqNone.eq_none_str (fin_bl I q (by simp))
  |_=>exact absurd (show false=true from hs) Bool.false_ne_true
 |bl i=>
  cases rx
  cases y with
  |non=>cases ry;exact PySem.EqNone.eq_bool_none (fin_bl I q (by simp))
  |bl j=>cases ry;exact eq_bool (fin_bl I q dec_bl)
  |str j=>obtain⟨t',rfl⟩:=ry;exact PySem.EqMixed.eq_bool_str (fin_bl I q (by simp))
  |_=>exact absurd (show false=true from hs) Bool.false_ne_true
 |int i=>
  obtain⟨t,rfl⟩:=rx
  cases y with
  |non=>cases ry;exact PySem.EqNone.eq_int_none (fin_bl I q (by simp))
  |int j=>obtain⟨t',rfl⟩:=ry;exact eq_int (fin_bl I q dec_int)
  |str j=>obtain⟨t',rfl⟩:=ry;exact PySem.EqMixed.eq_int_str (fin_bl I q (by simp))
  |_=>exact absurd (show false=true from hs) Bool.false_ne_true
 |str i=>
  obtain⟨t,rfl⟩:=rx
  cases y with
  |non=>cases ry;exact PySem.EqNone.eq_str_none (fin_bl I q (by simp))
  |bl j=>cases ry;exact PySem.EqMixed.eq_str_bool (fin_bl I q (by simp))
  |int j=>obtain⟨t',rfl⟩:=ry;exact PySem.EqMixed.eq_str_int (fin_bl I q (by simp))
  |str j=>obtain⟨t',rfl⟩:=ry;exact eq_str (fin_bl I q dec_str)
  |_=>exact absurd (show false=true from hs) Bool.false_ne_true
 |byt i=>
  obtain⟨t,rfl⟩:=rx
  cases y with
  |byt j=>obtain⟨t',rfl⟩:=ry;exact W.eq_bytes (fin_bl I q dec_byt)
  |_=>exact absurd (show false=true from hs) Bool.false_ne_true
 |_=>cases y<;>exact absurd (show false=true from hs) Bool.false_ne_true
theorem op_ne:OpR X (compareOp .NotEq) rNe:=by
 intro pins s σ H x y v u Q I rx ry h
 obtain⟨hs,q⟩:=h
 cases x with
 |non=>
  cases rx
  cases y with
  |non=>cases ry;exact PySem.EqNone.ne_none_none (fin_bl I q (by simp))
  |bl j=>cases ry;exact PySem.EqNone.ne_none_bool (fin_bl I q (by simp))
  |int j=>obtain⟨t',rfl⟩:=ry;exact PySem.EqNone.ne_none_int (fin_bl I q (by simp))
  |str j=>obtain⟨t',rfl⟩:=ry;exact PySem.EqNone.ne_none_str (fin_bl I q (by simp))
  |_=>exact absurd (show false=true from hs) Bool.false_ne_true
 |bl i=>
  cases rx
  cases y with
  |non=>cases ry;exact PySem.EqNone.ne_bool_none (fin_bl I q (by simp))
  |bl j=>cases ry;exact ne_bool (fin_bl I q (congrArg not dec_bl))
  |str j=>obtain⟨t',rfl⟩:=ry;exact PySem.EqMixed.ne_bool_str (fin_bl I q (by simp))
  |_=>exact absurd (show false=true from hs) Bool.false_ne_true
 |int i=>
  obtain⟨t,rfl⟩:=rx
  cases y with
  |non=>cases ry;exact PySem.EqNone.ne_int_none (fin_bl I q (by simp))
  |int j=>obtain⟨t',rfl⟩:=ry;exact ne_int (fin_bl I q (congrArg not dec_int))
  |str j=>obtain⟨t',rfl⟩:=ry;exact PySem.EqMixed.ne_int_str (fin_bl I q (by simp))
  |_=>exact absurd (show false=true from hs) Bool.false_ne_true
 |str i=>
  obtain⟨t,rfl⟩:=rx
  cases y with
  |non=>cases ry;exact PySem.EqNone.ne_str_none (fin_bl I q (by simp))
  |bl j=>cases ry;exact PySem.EqMixed.ne_str_bool (fin_bl I q (by simp))
  |int j=>obtain⟨t',rfl⟩:=ry;exact PySem.EqMixed.ne_str_int (fin_bl I q (by simp))
  |str j=>obtain⟨t',rfl⟩:=ry;exact ne_str (fin_bl I q (congrArg not dec_str))
  |_=>exact absurd (show false=true from hs) Bool.false_ne_true
 |byt i=>
  obtain⟨t,rfl⟩:=rx
  cases y with
  |byt j=>obtain⟨t',rfl⟩:=ry;exact W.ne_bytes (fin_bl I q (congrArg not dec_byt))
  |_=>exact absurd (show false=true from hs) Bool.false_ne_true
 |_=>cases y<;>exact absurd (show false=true from hs) Bool.false_ne_true
theorem op_lt:OpR X (compareOp .Lt) (rI0 fun i j=>.bl (decide (i<j))):=opB0 fun _ _ _ _ _ _ _ q=>lt_int q
theorem op_le:OpR X (compareOp .LtE) (rI0 fun i j=>.bl (decide (i<=j))):=opB0 fun _ _ _ _ _ _ _ q=>le_int q
theorem op_in_str:OpR X (compareOp .In) (fun x y H Q=>∃i j,x=.str i/\y=.str j/\Q (.bl (!(Builtin.Str.occurrences j i 0 j.length 1).isEmpty)) H):=by
 intro pins s σ H x y v u Q I rx ry h
 obtain⟨i,j,rfl,rfl,q⟩:=h
 obtain⟨t,rfl⟩:=rx
 obtain⟨t',rfl⟩:=ry
 exact in_str (fin_bl I q rfl)
theorem op_isN:OpR X (compareOp .Is) (fun x y H Q=>y=.non/\Q (.bl (decide (x=.non))) H):=by
 intro pins s σ H x y v u Q I rx ry h
 obtain⟨rfl,q⟩:=h
 cases ry
 refine is_none_gen (fin_bl I q ?_)
 cases x<;>first
  | (cases rx;rfl)
  | (obtain⟨t,rfl⟩:=rx;rfl)
theorem nomark (b:Expr){op:CmpOp}(h:op≠.In:=by decide)(h2:op≠.NotIn:=by decide):behindInMarks op b=false:=by
 have e1:(op==CmpOp.In)=false:=by cases op<;>first|rfl|exact absurd rfl h
 have e2:(op==CmpOp.NotIn)=false:=by cases op<;>first|rfl|exact absurd rfl h2
 cases b<;>simp[behindInMarks,e1,e2]
theorem pe_cmpR {op:CmpOp}{r:R2}(ho:OpR X (compareOp op) r)(ha:PE X a ta)(hb:PE X b tb)(hm:behindInMarks op b=false):PE X (.Compare a [op] [b] pos) (tOp r ta tb):=by
 intro pins s σ H Q I h
 exact wpAny_Compare1 (binT ha hb I h fun v u s2 x y H2 I2 rx ry q=>ho pins s2 σ H2 x y v u Q I2 rx ry q) hm
def tTest (t:TE):TT:=fun σ H Q=>t σ H fun x H'=>∃k,x=.bl k/\Q k H'
theorem pt_cmpR {op:CmpOp}{r:R2}(ho:OpR X (compareOp op) r)(ha:PE X a ta)(hb:PE X b tb)(hm:behindInMarks op b=false):PT X (.Compare a [op] [b] pos) (tTest (tOp r ta tb)):=by
 intro pins s σ H Q I h
 refine wpAny_isTrue_Compare1 (thn (ha pins s σ H _ I h) fun v s1 ⟨x,H1,I1,r1,q1⟩=>thn (hb pins s1 σ H1 _ I1 q1) fun u s2 ⟨y,H2,I2,r2,q2⟩=>
  thn (ho pins s2 σ H2 x y v u _ I2 r1 r2 q2) fun c s3 ⟨z,H3,I3,r3,k,e,q3⟩=>?_) hm
 subst e
 cases r3
 exact wpAny_truthy_bool ⟨H3,I3,q3⟩
def tChain (r r':R2)(ta tb tc:TE):TE:=fun σ H Q=>ta σ H fun x H1=>tb σ H1 fun y H2=>r x y H2 fun z H3=>∃k,z=.bl k∧
 (if k=true then tc σ H3 fun w' H4=>r' y w' H4 Q else Q (.bl false) H3)
theorem pt_chain {op op':CmpOp}{r r':R2}(ho:OpR X (compareOp op) r)(ho':OpR X (compareOp op') r')(ha:PE X a ta)(hb:PE X b tb)(hc:PE X c tc)
  (hm:lastMarks [op,op'] [b,c]=false:=by with_unfolding_all rfl):PT X (.Compare a [op,op'] [b,c] pos) (tTest (tChain r r' ta tb tc)):=by
 intro pins s σ H Q I h
 refine isTrue_chain (thn (ha pins s σ H _ I h) fun v s1 ⟨x,H1,I1,r1,q1⟩=>test_link (thn (hb pins s1 σ H1 _ I1 q1) fun u s2 ⟨y,H2,I2,r2,q2⟩=>
  thn (ho pins s2 σ H2 x y v u _ I2 r1 r2 q2) fun d s3 ⟨z,H3,I3,r3,k,e,q3⟩=>?_)) hm
 subst e
 cases r3
 refine wpAny_truthy_bool ?_
 cases k with
 |false=>
  obtain⟨k',e',q'⟩:=q3
  cases e'
  exact ite_ff ⟨H3,I3,q'⟩
 |true=>
  refine ite_tt (test_last (thn (hc pins s3 σ H3 _ I3 q3) fun w' s4 ⟨z',H4,I4,r4,q4⟩=>thn (ho' pins s4 σ H4 y z' u w' _ I4 r2 r4 q4) fun d' s5 ⟨z2,H5,I5,r5,k2,e2,q5⟩=>?_))
  subst e2
  cases r5
  exact wpAny_truthy_bool ⟨H5,I5,q5⟩
theorem line63:(sizeLine:Nat)<2 ^ 63:=by rw[sizeLine_eq];decide
theorem op_add_str:OpR X (binaryOp .Add) (fun x y H Q=>∃i j,x=.str i/\y=.str j/\i.length+j.length<=sizeLine/\Q (.str (i++j)) H):=by
 intro pins s σ H x y v u Q I rx ry h
 obtain⟨i,j,rfl,rfl,hz,q⟩:=h
 obtain⟨t,rfl⟩:=rx
 obtain⟨t',rfl⟩:=ry
 exact add_str (fun t' tk=>⟨.str (i++j),H,I.tok _,⟨_,rfl⟩,q⟩) hz
theorem vals1 {x:V}{us:List Value}(r:Vals [x] us):∃u,us=[u]/\RelV x u:=by
 cases r with
 |cons r1 r2=>cases r2;exact⟨_,rfl,r1⟩
theorem call_str_int:CallR X (.type "str") (fun xs H Q=>∃i,xs=[.int i]/\i.natAbs.log2<1920/\Q (.str (toString i)) H):=by
 intro pins s σ H xs us Q I r h
 obtain⟨i,rfl,hz,q⟩:=h
 obtain⟨u,rfl,t,rfl⟩:=vals1 r
 exact PySem.P.str_of_int hz ⟨.str _,H,I.tok _,⟨_,rfl⟩,q⟩
end
end L2
namespace L2
open PySem PySem.Spec PyProof.Rows
structure ObjM (h:Heap)(x dx C:Addr)(mA:Str->Option Value):Prop where
 obj:h.get? x=some (W.instObj C dx)
 ns:h.Ns1 dx mA
 ne:dx≠x
theorem lookIn_ns {h:Heap}{dx:Addr}{mA:Str->Option Value}(n:h.Ns1 dx mA):∃od,h.get? dx=some od/\∀name,W.lookIn name od=some (mA name):=by
 obtain⟨o,es,ep,ho,hd,hk,_,hm⟩:=n
 refine⟨o,ho,fun name=>?_⟩
 have e:=hm name
 unfold nsFind findBy at e
 rw[<- Array.find?_toList] at e
 unfold W.lookIn
 rw[hd]
 dsimp only
 split
 ·rename_i y q
  rw[q] at e
  exact congrArg some e
 ·rename_i q
  rw[q] at e
  have a:es.toList.any (·.refKey)=false:=by
   rw[List.any_eq_false]
   intro y hy
   obtain⟨z,t,hkey⟩:=hk y (Array.mem_toList_iff.mp hy)
   simp[DictEntry.refKey,hkey]
  have a':¬es.toList.any (·.refKey)=true:=by rw[a];exact Bool.false_ne_true
  rw[if_neg a']
  exact congrArg some e
theorem ObjM.look {h:Heap}{x dx C:Addr}{mA:Str->Option Value}(I:ObjM h x dx C mA):∃od,W.InstAt h x (W.instObj C dx) C (some od)/\∀name,W.lookIn name od=some (mA name):=
 let ⟨od,ho,hl⟩:=lookIn_ns I.ns
 ⟨od,⟨I.obj,rfl,rfl,ho⟩,hl⟩
section
variable {prog:Program} {w:World} {A:Around} {E:Value->Shared->Prop} {s:Shared} {K:W.Frag} {x dx C f:Addr} {mA:Str->Option Value} {name:Str} {v:Value}
theorem get_meth {pl:Sem Bool}{Q:Value×List Value->Shared->Prop}(X:K.In s.heap)(I:ObjM s.heap x dx C mA)(hg:W.plainGet K C name=true)
  (hf:W.findIn K (.ref C) name=some (some (.ref f))) (ht:W.isFn K (.ref f)=true) (hv:mA name=none) (h:Q (.ref f,[.ref x]) s):
  wpAny (model prog w) A (getMethod (.ref x) name pl) Q E s:=by
 obtain⟨od,J,hl⟩:=I.look
 exact W.method_fn X J (W.plainGet_of hg).1 (W.plainGet_of hg).2 hf (beq_iff_eq.mp ht) (by show(W.lookIn name od).map (·.isSome)=some false;rw[hl,hv];rfl) h
theorem set_map {ns:List Str}{Q:Unit->Shared->Prop}(X:K.In s.heap)(I:ObjM s.heap x dx C mA)
  (hs:W.findIn K (.ref C) "__setattr__"=some (some (.builtin "object.__setattr__"))) (hp:W.plainOver K C=true) (ht:W.takerIn K C name=some none) (hh:W.hasDictIn K C=true)
  (hw:PySem.Within mA ns) (hsz:ns.length<=sizeLine)
  (h:∀h',ObjM h' x dx C (fun y=>if y=name then some v else mA y)->Heap.SameBut dx s.heap h'->Q () { s with heap:=h',toks:=s.toks+2 }):
  wpAny (model prog w) A (setAttr (.ref x) name v) Q E s:=by
 obtain⟨od,J,hl⟩:=I.look
 refine W.set_plain X J hs (W.osa_open (s:={ s with toks:=s.toks+1 }) (r:=none) X J hp ht fun b=>?_)
 obtain⟨cd,hc,hd'⟩:=W.any_some hh
 have hx:s.heap.get? x=some ⟨.ref C,some dx,.plain,#[]⟩:=I.obj
 refine wpAny_bind (wpAny_pure (wpAny_bind (wpAny_bind (wpAny_loadPart hx (wpAny_bind (W.Looks.here (s:={ s with toks:=s.toks+1 }) (W.looks_clsIn X hc) ?_))))))
 rw[hd']
 refine wpAny_pure (a:=some dx) (wpAny_bind (wpAny_pure (wpAny_bind ?_)))
 refine wpAny_nsSet1 (s:={ s with toks:=s.toks+1 }) I.ns fun h' hn2 hs2=>?_
 obtain⟨oD,esD,epD,hoD,hdD,hcD⟩:=hn2.count (PySem.Within.cons name v hw)
 refine wpAny_bind (wpAny_lookBehind hoD (by rw[hdD];exact pastItsLine_dict (Nat.le_trans hcD (by rw[List.length_cons];omega))) ?_)
 exact wpAny_pure (h _ ⟨(hs2.2 _ (Ne.symm I.ne)).trans I.obj,hn2,I.ne⟩ hs2)
theorem make_map {R:Result->Shared->Prop}{vs:List Value}{kw:List (Str×Value)}(X:K.In s.heap)(hm:W.makesIn K C=true)
  (hi:W.findIn K (.ref C) "__init__"=some (some (.ref f))) (hf:W.typeIn K (.ref f)=some (.type "function"))
  (h:codeAny (model prog w) (A.under (.builtin "type.__call__" ⟨.ref C::vs,kw⟩)) (.call (.ref f) ⟨.ref (s.heap.objs.size+1)::vs,kw⟩) (W.InitBack (s.heap.objs.size+1) R)
   { s with heap:=(s.heap.push W.emptyDict).push (W.instObj C s.heap.objs.size) }):
  codeAny (model prog w) A (.call (.ref C) ⟨vs,kw⟩) R s:=by
 obtain⟨hh,g,d,t,os⟩:=s
 exact W.make_core (W.makes_of X hm) (W.looks_findIn X hi) (fun self=>W.bind_fn X self hf) (.inl rfl) h
theorem make_map0 {R:Result->Shared->Prop}(X:K.In s.heap)(hm:W.makesIn K C=true)
  (hi:W.findIn K (.ref C) "__init__"=some (some (.builtin "object.__init__")))
  (hb:∀self,W.Looks (model prog w) s.heap (bindSpecial (.builtin "object.__init__") self) (.builtin "object.__init__",[self]))
  (h:codeAny (model prog w) (A.under (.builtin "type.__call__" ⟨[.ref C],[]⟩)) (.call (.builtin "object.__init__") ⟨[.ref (s.heap.objs.size+1)],[]⟩) (W.InitBack (s.heap.objs.size+1) R)
   { s with heap:=(s.heap.push W.emptyDict).push (W.instObj C s.heap.objs.size) }):
  codeAny (model prog w) A (.call (.ref C) ⟨[],[]⟩) R s:=by
 obtain⟨hh,g,d,t,os⟩:=s
 exact W.make_core (W.makes_of X hm) (W.looks_findIn X hi) hb (.inr ⟨rfl,rfl⟩) h
end
def putF (f:Str)(v:V):List (Str×V)->List (Str×V)
 | []=>[(f,v)]
 | (g,x)::r=>if g=f then(g,v)::r else(g,x)::putF f v r
theorem lookup_putF (f g:Str)(v:V):∀fs:List (Str×V),(putF f v fs).lookup g=if g=f then some v else fs.lookup g
 | []=>by
  show List.lookup g [(f,v)]=_
  by_cases h:g=f
  ·have hb:(g==f)=true:=beq_iff_eq.mpr h
   simp only[List.lookup,hb,if_pos h]
  ·have hb:(g==f)=false:=beq_eq_false_iff_ne.mpr h
   simp only[List.lookup,hb,if_neg h]
 | (k,x)::r=>by
  have ih:=lookup_putF f g v r
  rw[show putF f v ((k,x)::r)=(if k=f then(k,v)::r else(k,x)::putF f v r) from rfl]
  by_cases hk:k=f
  ·rw[if_pos hk]
   by_cases h:g=k
   ·have hb:(g==k)=true:=beq_iff_eq.mpr h
    simp only[List.lookup,hb,if_pos (h.trans hk)]
   ·have hb:(g==k)=false:=beq_eq_false_iff_ne.mpr h
    simp only[List.lookup,hb,if_neg (fun e:g=f=>h (e.trans hk.symm))]
  ·rw[if_neg hk]
   by_cases h:g=k
   ·have hb:(g==k)=true:=beq_iff_eq.mpr h
    simp only[List.lookup,hb,if_neg (fun e:g=f=>hk (h.symm.trans e))]
   ·have hb:(g==k)=false:=beq_eq_false_iff_ne.mpr h
    simp only[List.lookup,hb]
    exact ih
theorem keys_putF (f:Str)(v:V):∀fs:List (Str×V),f∈(putF f v fs).map (·.1)/\∀g,g∈fs.map (·.1)->g∈(putF f v fs).map (·.1)
 | []=>⟨by simp[putF],fun g h=>by simp at h⟩
 | (k,x)::r=>by
  obtain⟨i1,i2⟩:=keys_putF f v r
  rw[show putF f v ((k,x)::r)=(if k=f then(k,v)::r else(k,x)::putF f v r) from rfl]
  by_cases hk:k=f
  ·rw[if_pos hk]
   subst hk
   exact⟨by simp,fun g h=>by simpa using h⟩
  ·rw[if_neg hk]
   refine⟨?_,fun g h=>?_⟩
   ·rw[List.map_cons]
    exact List.mem_cons_of_mem _ i1
   ·rw[List.map_cons] at h ⊢
    rcases List.mem_cons.mp h with e|e
    ·exact List.mem_cons.mpr (.inl e)
    ·exact List.mem_cons_of_mem _ (i2 g e)
theorem length_putF (f:Str)(v:V):∀fs:List (Str×V),(putF f v fs).length<=fs.length+1
 | []=>by simp[putF]
 | (k,x)::r=>by
  have ih:=length_putF f v r
  rw[show putF f v ((k,x)::r)=(if k=f then(k,v)::r else(k,x)::putF f v r) from rfl]
  by_cases hk:k=f
  ·rw[if_pos hk,List.length_cons,List.length_cons];omega
  ·rw[if_neg hk,List.length_cons,List.length_cons];omega
theorem RelO.some_of {v:V}{o:Option Value}(r:RelO (some v) o):∃u,o=some u/\RelV v u:=by
 cases o with
 |none=>exact(show False from r).elim
 |some u=>exact⟨u,rfl,r⟩
theorem RelO.none_of {o:Option Value}(r:RelO none o):o=none:=by
 cases o with
 |none=>rfl
 |some u=>exact(show False from r).elim
theorem handed_of {v:V}{u:Value}(r:RelV v u):W.handedIn u=true:=by
 cases v with
 |non=>cases(show u=Value.none from r);rfl
 |bl b=>cases(show u=Value.bool b from r);rfl
 |int i=>obtain⟨t,e⟩:=(show ∃t,u=Value.int i t from r);cases e;rfl
 |str x=>obtain⟨t,e⟩:=(show ∃t,u=Value.str x t from r);cases e;rfl
 |byt b=>obtain⟨t,e⟩:=(show ∃t,u=Value.bytes b t from r);cases e;rfl
 |flt b=>obtain⟨t,e⟩:=(show ∃t,u=Value.float b t from r);cases e;rfl
 |ref a=>cases(show u=Value.ref a from r);rfl
 |ty n=>cases(show u=Value.type n from r);rfl
section
variable {P:Program} {w:World} {H H':Hp} {h h':Heap} {a C dx:Addr} {fs fs':List (Str×V)}
theorem ins_get (hok:HOk P w H h)(e:H a=some (.ins C dx fs)):∃mA,ObjM h a dx C mA/\(∀f,RelO (fs.lookup f) (mA f))/\PySem.Within mA (fs.map (·.1))/\fs.length<=1000/\H dx=some (.own a):=by
 obtain⟨d,z,ne,ob,mA,n,r,q⟩:=(show ObjOk P w H h a (.ins C dx fs) from hok a _ e)
 exact⟨mA,⟨ob,n,ne⟩,r,q,z,d⟩
end
structure Cls (K:W.Frag)(C:Addr):Prop where
 pg:W.plainGet K C Str.empty=true
 hd:W.hasDictIn K C=true
 po:W.plainOver K C=true
 sa:W.findIn K (.ref C) "__setattr__"=some (some (.builtin "object.__setattr__"))
theorem Cls.get {K:W.Frag}{C:Addr}(c:Cls K C)(f:Str):W.plainGet K C f=true:=c.pg
def NoAttr (K:W.Frag)(C:Addr)(f:Str):Prop:=W.findIn K (.ref C) f=some none
theorem NoAttr.taker {K:W.Frag}{C:Addr}{f:Str}(n:NoAttr K C f):W.takerIn K C f=some none:=by
 unfold W.takerIn
 rw[show W.findIn K (.ref C) f=some none from n]
 rfl
structure Meth (K:W.Frag)(C:Addr)(m:Str)(f:Addr):Prop where
 at_:W.findIn K (.ref C) m=some (some (.ref f))
 fn:W.isFn K (.ref f)=true
 kp:W.keepIn K (.ref f)=true
section
variable {X:Cx} {pins:List (Addr×Obj)} {σ:St} {H:Hp} {s:Shared} {a C dx:Addr} {fs:List (Str×V)} {f:Str} {v:V} {A:Around} {E:Value->Shared->Prop}
theorem getmeth_ok {m:Str}{g:Addr}{pl:Sem Bool}{Q:Value×List Value->Shared->Prop}(I:Inv X pins σ H s)(e:H a=some (.ins C dx fs))(c:Cls X.K C)(k:Meth X.K C m g)(l:fs.lookup m=none)
  (h:Q (.ref g,[.ref a]) s):wpAny (model X.prog X.w) A (getMethod (.ref a) m pl) Q E s:=by
 obtain⟨mA,O,r,_,_,_⟩:=ins_get I.hok e
 have hn:mA m=none:=RelO.none_of (by rw[<- l];exact r m)
 exact get_meth I.kIn O (c.get m) k.at_ k.fn hn h
theorem setattr_ok {y:V}{u:Value}{Q:Unit->Shared->Prop}(I:Inv X pins σ H s)(e:H a=some (.ins C dx fs))(c:Cls X.K C)(n:NoAttr X.K C f)(hl:fs.length<1000)(ry:RelV y u)
  (h:∀s',Inv X pins σ (upd H a (.ins C dx (putF f y fs))) s'->Q () s'):wpAny (model X.prog X.w) A (setAttr (.ref a) f u) Q E s:=by
 obtain⟨mA,O,r,wi,_,ho⟩:=ins_get I.hok e
 have hz:(fs.map (·.1)).length<=sizeLine:=by rw[List.length_map,sizeLine_eq];omega
 refine set_map I.kIn O c.sa c.po n.taker c.hd wi hz fun h' O' sb=>h _ ?_
 have hd:∃o,h'.get? dx=some o:=let ⟨o,_,_,e',_⟩:=O'.ns;⟨o,e'⟩
 refine I.write (x:=a) (e:=dx) (by rw[e];exact True.intro) (.inr ho) (fun b q hb z=>(sb.2 b hb).trans z) hd ?_
 refine⟨by rw[upd_ne O.ne];exact ho,?_,O.ne,O'.obj,_,O'.ns,fun g=>?_,fun g hg=>?_⟩
 ·have:=length_putF f y fs;omega
 ·show RelO ((putF f y fs).lookup g) (if g=f then some u else mA g)
  rw[lookup_putF]
  by_cases q:g=f
  ·rw[if_pos q,if_pos q];exact ry
  ·rw[if_neg q,if_neg q];exact r g
 ·by_cases q:g=f
  ·rw[q];exact(keys_putF f y fs).1
  ·refine(keys_putF f y fs).2 g (wi g fun z=>hg ?_)
   show(if g=f then some u else mA g)=none
   rw[if_neg q];exact z
theorem Inv.made (I:Inv X pins σ H s):Inv X pins σ (upd (upd H s.heap.objs.size (.own (s.heap.objs.size+1))) (s.heap.objs.size+1) (.ins C s.heap.objs.size []))
  { s with heap:=(s.heap.push W.emptyDict).push (W.instObj C s.heap.objs.size) }:=by
 have e1:(s.heap.push W.emptyDict).get? s.heap.objs.size=some W.emptyDict:=Heap.get?_push_size s.heap rfl
 have e2:((s.heap.push W.emptyDict).push (W.instObj C s.heap.objs.size)).get? (s.heap.objs.size+1)=some (W.instObj C s.heap.objs.size):=by
  have:=Heap.get?_push_size (s.heap.push W.emptyDict) (o:=W.instObj C s.heap.objs.size) rfl
  rwa [Heap.size_push] at this
 have e3:(s.heap.push W.emptyDict).Ns s.heap.objs.size (fun _=>none):=⟨W.emptyDict,#[],_,e1,rfl,(fun e he=>absurd he (by simp)),fun _=>rfl⟩
 have I1:=I.laid (a:=s.heap.objs.size) (o:=.own (s.heap.objs.size+1)) (h':=s.heap.push W.emptyDict) (t':=s.toks) (fun b u q=>Heap.get?_push_of_some _ q) (Nat.le_refl _) ⟨_,e1⟩
 refine I1.laid (a:=s.heap.objs.size+1) (o:=.ins C s.heap.objs.size []) (t':=s.toks) (fun b u q=>Heap.get?_push_of_some _ q) (Nat.le_of_eq (Heap.size_push _ _)) ?_
 have ne:s.heap.objs.size≠s.heap.objs.size+1:=Nat.ne_of_lt (Nat.lt_succ_self _)
 refine⟨by rw[upd_ne ne,upd_same],Nat.zero_le _,ne,e2,fun _=>none,(Heap.Ns1.of_empty e3).at fun o q=>Heap.get?_push_of_some _ q,fun _=>True.intro,fun y hy=>absurd rfl hy⟩
theorem attr_of {prog:Program}{w:World}{env:Env}{e:Expr}{f:Str}{pos:Pos}{s:Shared}{Q:Value->Shared->Prop}(hb:attributeBase e f env (eval e env)=eval e env)
  (h:wpAny (model prog w) A (eval e env) (fun o s₁=>wpAny (model prog w) A (getAttr o f true) Q E s₁) E s):wpAny (model prog w) A (eval (.Attribute e f pos) env) Q E s:=
 Attribute_any_ h (by rw[arm_eval_Attribute,hb])
end
def sFld (K:W.Frag)(ta tv:TE)(f:Str):TS:=fun D σ H=>tv σ H fun y H1=>ta σ H1 fun x H2=>∃a C dx fs,x=.ref a/\H2 a=some (.ins C dx fs)/\Cls K C/\NoAttr K C f/\fs.length<1000∧
 D.nx σ (upd H2 a (.ins C dx (putF f y fs)))
section
variable {X:Cx} {o e value:Expr} {f:Str} {pos pos' tpos:Pos} {ta tv:TE}
theorem ps_fld (ha:PE X o ta)(hv:PE X value tv)(hs:swapsWith value (some (.Attribute o f pos')) pos.line X.env=pure false):PS X (.Assign [.Attribute o f pos'] value pos) (sFld X.K ta tv f):=by
 intro pins s σ H D I h
 refine plainObj_wpAny_Assign_Attribute (thn (hv pins s σ H _ I h) fun u s1 ⟨y,H1,I1,ry,q⟩=>thn (ha pins s1 σ H1 _ I1 q) fun ov s2 ⟨x,H2,I2,rx,a,C,dx,fs,ex,ea,c,n,l,q2⟩=>?_) hs
 subst ex
 obtain rfl:ov=Value.ref a:=rx
 exact setattr_ok I2 ea c n l ry fun s3 I3=>⟨σ,_,I3,q2⟩
end
section
variable {X:Cx} {pins:List (Addr×Obj)} {σ:St} {H:Hp} {s:Shared} {A:Around} {E:Value->Shared->Prop} {Q:Value->Shared->Prop} {c:Value} {b:Bool}
inductive TyOf (K:W.Frag) (H:Hp):V->Value->Prop where
 |non:TyOf K H .non (.type "NoneType")
 |bl (x:Bool):TyOf K H (.bl x) (.type "bool")
 |int (i:Int):TyOf K H (.int i) (.type "int")
 |str (x:Str):TyOf K H (.str x) (.type "str")
 |flt (x:UInt64):TyOf K H (.flt x) (.type "float")
 |lst {a:Addr} {xs:List V} (e:H a=some (.lst xs)):TyOf K H (.ref a) (.type "list")
 |frz {a:Addr} {o:Obj} {xs:List V} (e:H a=some (.frz o (.lst xs))):TyOf K H (.ref a) (.type "list")
 |tup {a:Addr} {xs:List V} (e:H a=some (.tup xs)):TyOf K H (.ref a) (.type "tuple")
 |dK {a:Addr} {kvs:List (Key×V)} (e:H a=some (.dK kvs)):TyOf K H (.ref a) (.type "dict")
 |dT {a:Addr} {kvs:List (List Key×V)} (e:H a=some (.dT kvs)):TyOf K H (.ref a) (.type "dict")
 |ins {a C dx:Addr} {fs:List (Str×V)} (e:H a=some (.ins C dx fs)) (cl:Cls K C) (ha:W.findIn K (.ref C) "__class__"=some (some (.builtin "object.__class__")))
   (hn:W.specialIn K (.builtin "object.__class__") "__get__"=some (some (.builtin "getset_descriptor.__get__"))) (htk:W.takesIn K (.builtin "object.__class__")=some true)
   (hm:W.mroIn K C (.type "object")=some true):TyOf K H (.ref a) (.ref C)
theorem isinst_ok {x:V}{u t:Value}(I:Inv X pins σ H s)(rx:RelV x u)(ty:TyOf X.K H x t)(e:W.kitOne X.K t c=some b)(h:∀tk,Q (.bool b) { s with toks:=tk }):
  wpAny (model X.prog X.w) A (call (.builtin "isinstance") [u,c]) Q E s:=by
 cases ty with
 |non=>cases(show u=Value.none from rx);exact W.kia_one W.kitx_none I.kIn True.intro e (fun z=>nomatch z) h
 |bl y=>cases(show u=Value.bool y from rx);exact W.kia_one W.kitx_bool I.kIn True.intro e (fun z=>nomatch z) h
 |int i=>obtain⟨t,q⟩:=(show ∃t,u=Value.int i t from rx);cases q;exact W.kia_one W.kitx_int I.kIn True.intro e (fun z=>nomatch z) h
 |str y=>obtain⟨t,q⟩:=(show ∃t,u=Value.str y t from rx);cases q;exact W.kia_one W.kitx_str I.kIn True.intro e (fun z=>nomatch z) h
 |flt y=>obtain⟨t,q⟩:=(show ∃t,u=Value.float y t from rx);cases q;exact W.kia_one W.kitx_float I.kIn True.intro e (fun z=>nomatch z) h
 |@lst a xs ea=>
  cases(show u=Value.ref a from rx)
  obtain⟨_,_,n,_,h1⟩:=(show ObjOk X.prog X.w H s.heap a (.lst xs) from I.hok a _ ea)
  exact W.kia_one W.kitx_list I.kIn ⟨_,h1,rfl⟩ e (fun z=>nomatch z) h
 |@frz a ob xs ea=>
  cases(show u=Value.ref a from rx)
  obtain⟨_,_,_,n,_,h1⟩:=(show ObjOk X.prog X.w H s.heap a (.frz ob (.lst xs)) from I.hok a _ ea)
  exact W.kia_one W.kitx_list I.kIn ⟨_,h1,rfl⟩ e (fun z=>nomatch z) h
 |@tup a xs ea=>
  cases(show u=Value.ref a from rx)
  obtain⟨_,_,_,p⟩:=(show ObjOk X.prog X.w H s.heap a (.tup xs) from I.hok a _ ea)
  obtain⟨o,h1,h2,_⟩:=p
  exact W.kia_one W.kitx_tuple I.kIn ⟨o,h1,h2⟩ e (fun z=>nomatch z) h
 |@dK a kvs ea=>
  cases(show u=Value.ref a from rx)
  obtain⟨_,_,vs,_,p⟩:=(show ObjOk X.prog X.w H s.heap a (.dK kvs) from I.hok a _ ea)
  obtain⟨o,es,ep,h1,h2,_⟩:=p
  exact W.kia_one W.kitx_dict I.kIn ⟨o,h1,h2.1⟩ e (fun z=>nomatch z) h
 |@dT a kvs ea=>
  cases(show u=Value.ref a from rx)
  obtain⟨_,_,xs,_,o,es,ep,h1,h2,_⟩:=(show ObjOk X.prog X.w H s.heap a (.dT kvs) from I.hok a _ ea)
  exact W.kia_one W.kitx_dict I.kIn ⟨o,h1,h2.1⟩ e (fun z=>nomatch z) h
 |@ins a C dx fs ea cl ha hn htk hm=>
  cases(show u=Value.ref a from rx)
  obtain⟨mA,O,_⟩:=ins_get I.hok ea
  obtain⟨od,J,_⟩:=O.look
  exact W.kia_one (W.kitx_own (cl.get _) cl.hd ha hn htk hm) I.kIn J e (fun z=>nomatch z) h
end
end L2
namespace L2
open PySem PySem.Spec PyProof.Rows
structure Room (k:Nat)(A:Around):Prop where
 hd:A.handled=none
 dp:A.depth+3*k+5<recursionLimit
 un:A.units+16*k+200<cLine
theorem Room.mono {j k:Nat}{A:Around}(r:Room k A)(h:j<=k):Room j A:=⟨r.hd,by have:=r.dp;omega,by have:=r.un;omega⟩
theorem Room.deeper {k:Nat}{A:Around}(r:Room (k+1) A)(env:Env):Room k (A.deeper env):=
 ⟨r.hd,by have:=r.dp;show A.depth+1+3*k+5<_;omega,by have:=r.un;show A.units+3+16*k+200<_;omega⟩
theorem make_depth {A:Around}{C:Addr}{us:List Value}{kw:List (Str×Value)}:(A.under (.builtin "type.__call__" ⟨.ref C::us,kw⟩)).depth=A.depth+1:=by
 first|rfl|simp[Around.under,Code.weight,Code.isCreation,Code.isGuard,Code.isCaller,Code.frames,Code.isFrame,guardIds]
theorem make_units {A:Around}{C:Addr}{us:List Value}{kw:List (Str×Value)}:(A.under (.builtin "type.__call__" ⟨.ref C::us,kw⟩)).units=A.units+1:=by
 first|rfl|simp[Around.under,Code.cUnits,Code.frames,Code.isFrame]
theorem Room.make {k:Nat}{A:Around}(r:Room (k+1) A)(C:Addr)(us:List Value)(kw:List (Str×Value)):Room k (A.under (.builtin "type.__call__" ⟨.ref C::us,kw⟩)):=
 ⟨r.hd,by have:=r.dp;rw[make_depth];omega,by have:=r.un;rw[make_units];omega⟩
theorem Room.depth {k:Nat}{A:Around}(r:Room k A):A.depth<recursionLimit:=by have:=r.dp;omega
theorem Room.units {k:Nat}{A:Around}(r:Room k A):A.units+64<cLine:=by have:=r.un;omega
def tNil:TA:=fun _ H Q=>Q [] H
def tCons (ta:TE)(tr:TA):TA:=fun σ H Q=>ta σ H fun x H1=>tr σ H1 fun xs H2=>Q (x::xs) H2
section
variable {X:Cx} {e:Expr} {es:List Expr} {te:TE} {t:TA} {pos:Pos}
theorem pa_nil:PA X [] tNil:=fun _ _ _ _ H Q I h=>Calls.spliced_nil ⟨[],H,I,.nil,h⟩
theorem pa_cons (ha:PE X e te)(hr:PA X es t)(hs:starEach (e::es) X.env=(false,eval e X.env)::starEach es X.env:=by rfl):PA X (e::es) (tCons te t):=by
 intro pos pins s σ H Q I h
 rw[hs]
 show wpAny _ _ (spliced ((false,eval e X.env)::backTo pos (starEach es X.env))) _ _ s
 refine Calls.spliced_cons (thn (ha pins s σ H _ I h) fun u s1 ⟨x,H1,I1,r1,q1⟩=>?_)
 exact thn (hr pos pins s1 σ H1 _ I1 q1) fun us s2 ⟨xs,H2,I2,r2,q2⟩=>⟨x::xs,H2,I2,.cons r1 r2,q2⟩
def tTup (t:TA):TE:=fun σ H Q=>t σ H fun xs H1=>xs.length<=sizeLine/\∀p,H1 p=none->Q (.ref p) (upd H1 p (.tup xs))
def tLst (t:TA):TE:=fun σ H Q=>t σ H fun xs H1=>xs.length<=sizeLine/\∀p,H1 p=none->Q (.ref p) (upd H1 p (.lst xs))
theorem pe_tup {x1}(h:PA X es t):PE X (.Tuple es x1 pos) (tTup t):=by
 intro pins s σ H Q I hq
 refine wpAny_Tuple_spliced (thn (h pos pins s σ H _ I hq) fun us s1 ⟨xs,H1,I1,r,z,q⟩=>⟨by rw[<- r.length];exact z,?_⟩)
 have hf:H1 s1.heap.objs.size=none:=I1.hok.fresh (Nat.le_refl _)
 refine⟨.ref s1.heap.objs.size,upd H1 s1.heap.objs.size (.tup xs),I1.laid (t':=s1.toks) (fun b u e=>Heap.get?_push_of_some _ e) (Nat.le_refl _) ?_,rfl,q _ hf⟩
 exact⟨z,us,r,⟨_,Heap.get?_push_size _ rfl,rfl,_,rfl⟩⟩
theorem pe_lst (h:PA X es t):PE X (.List es pos) (tLst t):=by
 intro pins s σ H Q I hq
 refine wpAny_List_spliced (thn (h pos pins s σ H _ I hq) fun us s1 ⟨xs,H1,I1,r,z,q⟩=>⟨by rw[<- r.length];exact z,?_⟩)
 have hf:H1 s1.heap.objs.size=none:=I1.hok.fresh (Nat.le_refl _)
 refine⟨.ref s1.heap.objs.size,upd H1 s1.heap.objs.size (.lst xs),I1.laid (t':=s1.toks) (fun b u e=>Heap.get?_push_of_some _ e) (Nat.le_refl _) ?_,rfl,q _ hf⟩
 exact⟨z,us,0,r,Heap.get?_push_size _ rfl⟩
end
abbrev Sp:=List V->Hp->VK->XK->Prop
abbrev CXT:=List Env->Hp->Shared->XK->Value->Shared->Prop
structure Env0 (P:Program)(w:World)(K:W.Frag)(mg:Str->Option Value)(base:Heap)(A:Around)(outer:List Env)(s:Shared)(H:Hp):Prop where
 frames:A.frames=some outer
 mod:Mod K mg base
 bs:∀b o,base.get? b=some o->s.heap.get? b=some o/\H b=none
 bsz:base.objs.size<=s.heap.objs.size
 funs:s.heap.FunFrames base outer
 frf:∀b∈frs outer,H b=none
 hok:HOk P w H s.heap
 bare:AllBare s.gens
def CE (outer:List Env)(P:Program)(w:World)(H:Hp)(s:Shared)(Q:VK)(u:Value)(s':Shared):Prop:=
 ∃v H',s'.os=s.os/\AllBare s'.gens/\Un (frs outer) [] H H' s.heap s'.heap/\HOk P w H' s'.heap/\RelV v u/\Q v H'
def CR (CX:CXT)(outer:List Env)(P:Program)(w:World)(H:Hp)(s:Shared)(Q:VK)(E:XK)(r:Result)(s':Shared):Prop:=
 match r with
 |.ok (.ret u)=>CE outer P w H s Q u s'
 |.ok _=>False
 |.error e=>CX outer H s E e s'
structure FnOk (P:Program)(w:World)(K:W.Frag)(mg:Str->Option Value)(base:Heap)(CX:CXT)(k:Nat)(f:Addr)(fd:FuncData)(ps:List Str)(sp:Sp):Prop where
 len:∀vs H Q E,sp vs H Q E->vs.length=ps.length
 run:∀(A:Around) (outer:List Env) (s:Shared) (H:Hp) (args:Args) (us:List Value) (vs:List V) (Q:VK) (E:XK),Room k A->Env0 P w K mg base A outer s H->BindsTo s fd args (ps.zip us)->Vals vs us->sp vs H Q E→
  codeAny (model P w) A (.call (.ref f) args) (CR CX outer P w H s Q E) s
theorem FnOk.mono {P:Program}{w:World}{K:W.Frag}{mg:Str->Option Value}{base:Heap}{CX:CXT}{j k:Nat}{f:Addr}{fd:FuncData}{ps:List Str}{sp:Sp}(F:FnOk P w K mg base CX j f fd ps sp)(h:j<=k):
  FnOk P w K mg base CX k f fd ps sp:=⟨F.len,fun A outer s H args us vs Q E hr=>F.run A outer s H args us vs Q E (hr.mono h)⟩
theorem Env0.make {P:Program}{w:World}{K:W.Frag}{mg:Str->Option Value}{base:Heap}{A:Around}{outer:List Env}{s:Shared}{H:Hp}(e:Env0 P w K mg base A outer s H)(C:Addr)(us:List Value)(kw:List (Str×Value)):
  Env0 P w K mg base (A.under (.builtin "type.__call__" ⟨.ref C::us,kw⟩)) outer s H:=⟨by first|exact e.frames|(simpa [Around.under,Code.envs,Code.isFrame,pushEnvs] using e.frames),e.mod,e.bs,e.bsz,e.funs,e.frf,e.hok,e.bare⟩
section
variable {X:Cx} {pins:List (Addr×Obj)} {σ:St} {H:Hp} {s s':Shared}
theorem Inv.env0 (I:Inv X pins σ H s):Env0 X.prog X.w X.K X.mg X.base X.A X.stack s H:=
 ⟨I.ok.frames,I.ok.mod,I.bs,Nat.le_trans I.ok.bsz I.sz,I.stack,I.stkFree,I.hok,I.bare⟩
theorem Inv.after {Q:VK}{u:Value}(I:Inv X pins σ H s)(h:CE X.stack X.prog X.w H s Q u s'):EP X pins σ Q u s':=by
 obtain⟨v,H',os,bare,un,hok,r,q⟩:=h
 obtain⟨hh,g,d,t,os'⟩:=s'
 obtain rfl:os'=s.os:=os
 exact⟨v,H',I.call (h':=hh) (g':=g) (d':=d) (t':=t) (ch:=[]) un hok bare (fun b z=>absurd z (by simp)),r,q⟩
end
def tCall (sp:Sp)(dvs:List V)(E:XK)(t:TA):TE:=fun σ H Q=>t σ H fun vs H1=>sp (vs++dvs) H1 Q E
def tMake (C:Addr)(sp:Sp)(dvs:List V)(E:XK)(t:TA):TE:=fun σ H Q=>t σ H fun vs H1=>∀x dx,H1 x=none->H1 dx=none->dx≠x→
 sp (.ref x::(vs++dvs)) (upd (upd H1 dx (.own x)) x (.ins C dx [])) (fun v H2=>v=.non/\Q (.ref x) H2) E
def Binds (K:W.Frag)(fd:FuncData)(ps:List Str)(ds:List Value):Prop:=
 ∀(s:Shared) (us:List Value),K.In s.heap->(us++ds).length=ps.length->BindsTo s fd ⟨us,[]⟩ (ps.zip (us++ds))
theorem Binds.all {K:W.Frag}{fd:FuncData}{ps:List Str}(h:∀us:List Value,us.length=ps.length->bindArgs fd ⟨us,[]⟩=pure (ps.zip us)):Binds K fd ps []:=fun s us _ hl=>by
 rw[List.append_nil] at hl ⊢
 exact .of_eq (h us hl)
def Passes (CX:CXT)(X:Cx)(E:XK):Prop:=∀(pins:List (Addr×Obj)) (σ:St) (H:Hp) (s:Shared) (e:Value) (s':Shared),Inv X pins σ H s->CX X.stack H s E e s'->X.xe e s'
section
variable {X:Cx} {CX:CXT} {k:Nat} {f C:Addr} {fd:FuncData} {ps:List Str} {sp:Sp} {dvs:List V} {ds:List Value} {E:XK} {x m:Str} {p pos apos:Pos} {e o:Expr} {es:List Expr} {ta:TE} {t:TA}
theorem run_fn {pins:List (Addr×Obj)}{σ:St}{H:Hp}{s:Shared}{Q:VK}{us:List Value}{vs:List V}(F:FnOk X.prog X.w X.K X.mg X.base CX k f fd ps sp)(hr:Room k X.A)(hb:Binds X.K fd ps ds)(hd:Vals dvs ds)(hx:Passes CX X E)
  (I:Inv X pins σ H s) (r:Vals vs us) (h:sp (vs++dvs) H Q E):wpAny (model X.prog X.w) X.A (call (.ref f) us) (EP X pins σ Q) X.xe s:=by
 have r2:Vals (vs++dvs) (us++ds):=r.append hd
 have hl:(us++ds).length=ps.length:=by rw[<- r2.length];exact F.len _ _ _ _ h
 refine wpAny_call (codeAny_mono (F.run X.A X.stack s H ⟨us,[]⟩ (us++ds) (vs++dvs) Q E hr I.env0 (hb s us I.kIn hl) r2 h) fun r s' hq=>?_)
 cases r with
 |error e=>exact hx pins σ H s e s' I hq
 |ok fl=>
  cases fl with
  |ret u=>exact I.after hq
  |next=>exact False.elim hq
  |brk=>exact False.elim hq
  |cont=>exact False.elim hq
theorem pe_call (F:FnOk X.prog X.w X.K X.mg X.base CX k f fd ps sp)(hr:Room k X.A)(hg:Gl X x)(hm:X.mg x=some (.ref f))(hk:W.keepIn X.K (.ref f)=true)(hb:Binds X.K fd ps ds)(hd:Vals dvs ds)(hx:Passes CX X E)
  (ha:PA X (e::es) t) (hdb:(x==("__debug__":Str))=false:=by decide) (he:starEach (e::es) X.env=(false,eval e X.env)::starEach es X.env:=by rfl) (hpl:(backTo pos (starEach es X.env)).any (·.1)=false:=by rfl):
  PE X (.Call (.Name x p) (e::es) [] pos) (tCall sp dvs E t):=by
 intro pins s σ H Q I h
 refine wpAny_Call_Name_kw (ld_glob I hg hm ?_ hdb)
 refine W.callWith_K (h₀:=X.base) I.ok.mod.kin hk (thn (ha pos pins s σ H _ I h) fun us s1 ⟨vs,H1,I1,r,q⟩=>⟨I1.kIn,?_⟩) he hpl
 exact run_fn F hr hb hd hx I1 r q
theorem pe_call0 (F:FnOk X.prog X.w X.K X.mg X.base CX k f fd ps sp)(hr:Room k X.A)(hg:Gl X x)(hm:X.mg x=some (.ref f))(hk:W.keepIn X.K (.ref f)=true)(hb:Binds X.K fd ps ds)(hd:Vals dvs ds)(hx:Passes CX X E)
  (hdb:(x==("__debug__":Str))=false:=by decide):PE X (.Call (.Name x p) [] [] pos) (tCall sp dvs E tNil):=by
 intro pins s σ H Q I h
 refine wpAny_Call_Name_kw (ld_glob I hg hm ?_ hdb)
 exact W.callWith_K0 I.kIn hk (run_fn (us:=[]) F hr hb hd hx I .nil h)
structure Mk (K:W.Frag)(C f:Addr):Prop where
 makes:W.makesIn K C=true
 init:W.findIn K (.ref C) "__init__"=some (some (.ref f))
 fn:W.isFn K (.ref f)=true
 kp:W.keepIn K (.ref C)=true
theorem run_make {pins:List (Addr×Obj)}{σ:St}{H:Hp}{s:Shared}{Q:VK}{us:List Value}{vs:List V}(M:Mk X.K C f)(F:FnOk X.prog X.w X.K X.mg X.base CX k f fd ps sp)(hr:Room (k+1) X.A)(hb:Binds X.K fd ps ds)(hd:Vals dvs ds)
  (hx:Passes CX X E) (I:Inv X pins σ H s) (r:Vals vs us)
  (h:∀x dx,H x=none->H dx=none->dx≠x->sp (.ref x::(vs++dvs)) (upd (upd H dx (.own x)) x (.ins C dx [])) (fun v H2=>v=.non/\Q (.ref x) H2) E):
  wpAny (model X.prog X.w) X.A (call (.ref C) us) (EP X pins σ Q) X.xe s:=by
 have hq:=h (s.heap.objs.size+1) s.heap.objs.size (I.hok.fresh (Nat.le_succ _)) (I.hok.fresh (Nat.le_refl _)) (Nat.ne_of_lt (Nat.lt_succ_self _))
 have I2:=Inv.made (C:=C) I
 have r2:Vals (V.ref (s.heap.objs.size+1)::(vs++dvs)) (Value.ref (s.heap.objs.size+1)::(us++ds)):=.cons rfl (r.append hd)
 have hl:(Value.ref (s.heap.objs.size+1)::us++ds).length=ps.length:=by
  have e:=r2.length
  rw[F.len _ _ _ _ hq] at e
  exact e.symm
 refine wpAny_call (make_map (f:=f) I.kIn M.makes M.init (beq_iff_eq.mp M.fn) (codeAny_mono (F.run _ X.stack _ _ ⟨Value.ref (s.heap.objs.size+1)::us,[]⟩ (Value.ref (s.heap.objs.size+1)::(us++ds)) _ _ E (hr.make C us [])
  (I2.env0.make C us []) (hb _ (Value.ref (s.heap.objs.size+1)::us) I2.kIn hl) r2 hq) fun r s' hq'=>?_))
 cases r with
 |error e=>exact hx pins σ _ _ e s' I2 hq'
 |ok fl=>
  cases fl with
  |ret u=>
   obtain⟨v,H',I3,rv,ev,q3⟩:=I2.after hq'
   subst ev
   exact⟨rv,⟨V.ref (s.heap.objs.size+1),H',I3,rfl,q3⟩⟩
  |next=>exact False.elim hq'
  |brk=>exact False.elim hq'
  |cont=>exact False.elim hq'
theorem pe_make (M:Mk X.K C f)(F:FnOk X.prog X.w X.K X.mg X.base CX k f fd ps sp)(hr:Room (k+1) X.A)(hg:Gl X x)(hm:X.mg x=some (.ref C))(hb:Binds X.K fd ps ds)(hd:Vals dvs ds)(hx:Passes CX X E)
  (ha:PA X (e::es) t) (hdb:(x==("__debug__":Str))=false:=by decide) (he:starEach (e::es) X.env=(false,eval e X.env)::starEach es X.env:=by rfl) (hpl:(backTo pos (starEach es X.env)).any (·.1)=false:=by rfl):
  PE X (.Call (.Name x p) (e::es) [] pos) (tMake C sp dvs E t):=by
 intro pins s σ H Q I h
 refine wpAny_Call_Name_kw (ld_glob I hg hm ?_ hdb)
 refine W.callWith_K (h₀:=X.base) I.ok.mod.kin M.kp (thn (ha pos pins s σ H _ I h) fun us s1 ⟨vs,H1,I1,r,q⟩=>⟨I1.kIn,?_⟩) he hpl
 exact run_make M F hr hb hd hx I1 r q
end
structure FnScope (N P:List Str)(sc:Scope):Prop where
 kind:sc.kind=.function
 co:sc.isCoroutine=false
 gen:sc.isGenerator=false
 nd:N.Nodup
 pre:N.take P.length=P
 par:∀x∈P,sc.names.lookup x=some .local\/sc.names.lookup x=some .cell
 nofree:∀y∈sc.names,y.2≠.free
theorem FnScope.of {N P:List Str}{sc:Scope}(h:sc.kind=.function/\sc.isCoroutine=false/\sc.isGenerator=false/\N.Nodup/\N.take P.length=P/\(∀x∈P,sc.names.lookup x=some .local\/sc.names.lookup x=some .cell)/\∀y∈sc.names,y.2≠.free):FnScope N P sc:=⟨h.1,h.2.1,h.2.2.1,h.2.2.2.1,h.2.2.2.2.1,h.2.2.2.2.2.1,h.2.2.2.2.2.2⟩
theorem bindL_out {kindOf:Str->Option NameKind}{x:Str}:∀{binds:List (Str×Value)} {m:Str->Option Value},(∀v,(x,v)∉binds)->bindL kindOf binds m x=m x
 | [],_,_=>rfl
 | (n,v)::r,m,h=>by
  unfold bindL
  rw[bindL_out fun w hw=>h w (List.mem_cons_of_mem _ hw)]
  split
  ·have:x≠n:=by rintro rfl;exact h v List.mem_cons_self
   simp[this]
  ·rfl
theorem bindC_out {kindOf:Str->Option NameKind}{x:Str}:∀{binds:List (Str×Value)} {m:Str->Option Value},(∀v,(x,v)∉binds)->bindC kindOf binds m x=m x
 | [],_,_=>rfl
 | (n,v)::r,m,h=>by
  unfold bindC
  rw[bindC_out fun w hw=>h w (List.mem_cons_of_mem _ hw)]
  split
  ·rfl
  ·have:x≠n:=by rintro rfl;exact h v List.mem_cons_self
   simp[this]
theorem bindL_get {kindOf:Str->Option NameKind}{x:Str}{v:Value}:∀{P:List Str} {vs:List Value} {i:Nat} {m:Str->Option Value},P.Nodup->P[i]?=some x->vs[i]?=some v->kindOf x=some .local→
  bindL kindOf (P.zip vs) m x=some v
 | [],_,_,_,_,h,_,_=>by simp at h
 |_::_,[],_,_,_,_,h,_=>by simp at h
 |p::P,w::vs,0,m,nd,h1,h2,hk=>by
  simp at h1 h2;subst h1;subst h2
  show bindL kindOf ((p,w)::P.zip vs) m p=_
  unfold bindL
  rw[bindL_out fun v hv=>(List.nodup_cons.mp nd).1 (List.of_mem_zip hv).1,if_pos hk]
  simp
 |p::P,w::vs,i+1,m,nd,h1,h2,hk=>by
  show bindL kindOf ((p,w)::P.zip vs) m x=_
  unfold bindL
  exact bindL_get (i:=i) (List.nodup_cons.mp nd).2 (by simpa using h1) (by simpa using h2) hk
theorem bindC_get {kindOf:Str->Option NameKind}{x:Str}{v:Value}:∀{P:List Str} {vs:List Value} {i:Nat} {m:Str->Option Value},P.Nodup->P[i]?=some x->vs[i]?=some v->kindOf x≠some .local→
  bindC kindOf (P.zip vs) m x=some v
 | [],_,_,_,_,h,_,_=>by simp at h
 |_::_,[],_,_,_,_,h,_=>by simp at h
 |p::P,w::vs,0,m,nd,h1,h2,hk=>by
  simp at h1 h2;subst h1;subst h2
  show bindC kindOf ((p,w)::P.zip vs) m p=_
  unfold bindC
  rw[bindC_out fun v hv=>(List.nodup_cons.mp nd).1 (List.of_mem_zip hv).1,if_neg hk]
  simp
 |p::P,w::vs,i+1,m,nd,h1,h2,hk=>by
  show bindC kindOf ((p,w)::P.zip vs) m x=_
  unfold bindC
  exact bindC_get (i:=i) (List.nodup_cons.mp nd).2 (by simpa using h1) (by simpa using h2) hk
def start (N:List Str)(vs:List V):St:=vs.map some++List.replicate (N.length-vs.length) none
def cxOf (CX:CXT)(P:Program)(w:World)(K:W.Frag)(mg:Str->Option Value)(base:Heap)(N:List Str)(qual:Str)(scope:Scope)(f:Addr)(cd:Value)(A:Around)(outer:List Env)(s:Shared)(H:Hp)(E:XK):Cx where
 prog:=P
 w:=w
 K:=K
 mg:=mg
 base:=base
 A:=A.deeper (envOfC qual scope s.heap.objs.size f cd)
 N:=N
 s₀:=s
 H₀:=H
 env:=envOfC qual scope s.heap.objs.size f cd
 outer:=outer
 stack:=envOfC qual scope s.heap.objs.size f cd::outer
 ex:=[]
 calm:=true
 fn:=fun _=>true
 pn:=[]
 xe:=fun e s'=>wpAny (model P w) (A.deeper (envOfC qual scope s.heap.objs.size f cd)) (leaving (envOfC qual scope s.heap.objs.size f cd) e) (fun _ s''=>CX outer H s E e s'') (fun e' s''=>CX outer H s E e' s'') s'
theorem cell_has {sc:Scope}{n:Nat}{x:Str}(h:sc.names.lookup x=some .cell):∃c,(cellsFrom n sc.names []).lookup x=some c:=by
 have q:=W.cellsFrom_some sc.names n [] (.inl h)
 exact Option.isSome_iff_exists.mp q
theorem inv_start {CX:CXT}{P:Program}{w:World}{K:W.Frag}{mg:Str->Option Value}{base:Heap}{N ps:List Str}{qual:Str}{scope:Scope}{f:Addr}{cd:Value}{A:Around}{outer:List Env}{s s1:Shared}{H:Hp}{E:XK}{us:List Value}{vs:List V}
  (S:FnScope N ps scope) (hd:A.handled=none) (e0:Env0 P w K mg base A outer s H) (hl:vs.length=ps.length) (r:Vals vs us)
  (x:InCallC s s.heap.objs.size (bindL (envOfC qual scope s.heap.objs.size f cd).kindOf (ps.zip us) fun _=>none) (cellsFrom (s.heap.objs.size+1) scope.names []) (bindC (envOfC qual scope s.heap.objs.size f cd).kindOf (ps.zip us) fun _=>none) s1):
  Inv (cxOf CX P w K mg base N qual scope f cd A outer s H E) [] (start N vs) H s1:=by
 have hpl:ps.length<=N.length:=by have:=congrArg List.length S.pre;rw[List.length_take] at this;omega
 obtain⟨h1,tk,rfl,hk⟩:=x.done
 have noA:∀b:Addr,b∉(cxOf CX P w K mg base N qual scope f cd A outer s H E).ex:=fun b z=>absurd (show b∈([]:List Addr) from z) (by simp)
 refine⟨⟨e0.mod,S.kind,rfl,rfl,Nat.le_refl _,fun y z c h1 h2=>?_,fun y hy=>?_,fun y c _ h=>?_,fun _=>hd,Around.frames_deeper e0.frames,.inr ⟨rfl,rfl⟩,fun b z=>absurd z (noA b),e0.bs,e0.bsz,fun b _ _=>noA b,fun b z=>absurd z (noA b),e0.funs,e0.frf⟩,
  rfl,e0.bare,Un.kept hk,⟨_,x.toInCall.ns,fun i y v h1 h2 h3=>?_⟩,fun y c h=>⟨_,x.cell y c h⟩,e0.hok.fresh (Nat.le_refl _),fun y c h=>?_,fun p hp=>absurd (show p∈([]:List (Addr×Obj)) from hp) (by simp),e0.hok.kept hk,?_⟩
 ·exact name_of_addr x.apart (PySem.mem_of_lookup h1) (PySem.mem_of_lookup h2)
 ·have hy:scope.names.lookup y=some .cell\/scope.names.lookup y=some .free:=hy
  rcases hy with hy|hy
  ·exact cell_has hy
  ·exact absurd rfl (S.nofree _ (PySem.mem_of_lookup hy))
 ·exact Nat.le_of_lt (x.above y c (PySem.mem_of_lookup h))
 ·have hi:i<vs.length:=by
   unfold start at h2
   by_cases hi:i<vs.length
   ·exact hi
   ·rw[List.getElem?_append_right (by simpa using hi)] at h2
    rw[List.getElem?_replicate] at h2
    split at h2<;>cases h2
  have ha:vs[i]?=some v:=by
   unfold start at h2
   rw[List.getElem?_append_left (by simpa using hi),List.getElem?_map] at h2
   cases e:vs[i]? with
   |none=>rw[e] at h2;cases h2
   |some a=>rw[e] at h2;cases h2;rfl
  obtain⟨u,hu,rv⟩:=r.get ha
  have hp:ps[i]?=some y:=by
   rw[<- S.pre,List.getElem?_take_of_lt (by omega)];exact h1
  have ndP:ps.Nodup:=by rw[<- S.pre];exact S.nd.sublist (List.take_sublist _ _)
  refine⟨u,rv,?_⟩
  rcases S.par y (List.mem_of_getElem? hp) with k|k
  ·exact .inl ⟨k,bindL_get ndP hp hu k⟩
  ·obtain⟨c,e⟩:=cell_has (n:=s.heap.objs.size+1) k
   refine .inr ⟨.inl k,c,e,?_⟩
   have q:=x.cell y c e
   rw[bindC_get ndP hp hu (by show scope.names.lookup y≠_;rw[k];decide)] at q
   exact q
 ·exact e0.hok.fresh (Nat.le_of_lt (x.above y c (PySem.mem_of_lookup h)))
 ·unfold start
  show _=N.length
  rw[List.length_append,List.length_map,List.length_replicate]
  omega
theorem fn_of {CX:CXT}{P:Program}{w:World}{K:W.Frag}{mg:Str->Option Value}{base:Heap}{k:Nat}{f:Addr}{name qual:Str}{params:Arguments}{body:List Stmt}{scope:Scope}{dV kV doc pm cdv ct oc:Value}{an od:Option Addr}
  {osl:Array (Option Value)} {N ps:List Str} {sp:Sp} (lk:K.lookup f=some ⟨oc,od,.func (W.fnOf name qual params body scope dV kV doc pm an cdv ct),osl⟩) (hcd:W.codeIn K cdv qual=true) (S:FnScope N ps scope)
  (len:∀vs H Q E,sp vs H Q E->vs.length=ps.length)
  (hbody:∀(A:Around) (outer:List Env) (s:Shared) (H:Hp) (vs:List V) (Q:VK) (E:XK),Room k (A.deeper (envOfC qual scope s.heap.objs.size f cdv))->sp vs H Q E→
   ∃t,PSs (cxOf CX P w K mg base N qual scope f cdv A outer s H E) body t/\t { nx:=fun _ H'=>Q .non H',rt:=Q } (start N vs) H):
  FnOk P w K mg base CX (k+1) f (W.fnOf name qual params body scope dV kV doc pm an cdv ct) ps sp:=by
 refine⟨len,fun A outer s H args us vs Q E hr e0 hb r hsp=>?_⟩
 have hl:=len _ _ _ _ hsp
 have KX:K.In s.heap:=e0.mod.kin.keeps fun b o e=>(e0.bs b o e).1
 have lim:s.heap.NoLimit:=e0.mod.nolimit.keeps fun b o e=>(e0.bs b o e).1
 have hkind:∀y∈ps.zip us,scope.names.lookup y.1=some .local\/(scope.names.lookup y.1=some .cell/\((cellsFrom (s.heap.objs.size+1) scope.names []).lookup y.1).isSome=true):=fun⟨n,v⟩ hy=>by
  rcases S.par n (List.of_mem_zip hy).1 with q|q
  ·exact .inl q
  ·exact .inr ⟨q,W.cellsFrom_some _ _ _ (.inl q)⟩
 refine codeAny_call_function hr.depth (KX _ _ lk) rfl S.co S.gen rfl (W.codeRec_of KX hcd) (hb _ _ _ _ ?_)
 refine wpAny_newFunctionEnv_cells S.kind hkind fun env he s1 x=>?_
 subst he
 refine⟨lim.keeps x.toInCall.keep,codeAny_func ?_⟩
 obtain⟨t,ht,hq⟩:=hbody A outer s H vs Q E (hr.deeper _) hsp
 have I:Inv (cxOf CX P w K mg base N qual scope f cdv A outer s H E) [] (start N vs) H s1:=inv_start S hr.hd e0 hl r x
 refine wpAny_mono (ht [] s1 (start N vs) H _ I hq) (fun fl s' hs=>?_) fun e s' hs=>hs
 have fin:∀{σ':St} {H':Hp} {v:V} {u:Value},Inv (cxOf CX P w K mg base N qual scope f cdv A outer s H E) [] σ' H' s'->RelV v u->Q v H'->CE outer P w H s Q u s':=
  fun {σ' H' v u} J rv q=>⟨v,H',J.os,J.bare,J.base,J.hok,rv,q⟩
 cases fl with
 |ret u=>
  obtain⟨v,σ',H',J,rv,q⟩:=hs
  exact fin J rv q
 |next=>
  obtain⟨σ',H',J,q⟩:=hs
  exact fin (v:=V.non) (u:=Value.none) J rfl q
 |brk=>
  obtain⟨_,_,_,q⟩:=hs
  exact False.elim q
 |cont=>
  obtain⟨_,_,_,q⟩:=hs
  exact False.elim q
end L2
namespace L2
open PySem PySem.Spec PyProof.Rows
section
variable {X:Cx} {x:Str} {p pos:Pos} {e:Expr} {es:List Expr} {t:TA} {id T:String} {r:List V->Hp->VK->Prop}
def tCB (r:List V->Hp->VK->Prop)(t:TA):TE:=fun σ H Q=>t σ H fun vs H1=>r vs H1 Q
theorem pe_callB (hc:CallR X (.builtin id) r)(hg:Gl X x)(hm:X.mg x=none)(hv:bootBuiltins x=some (.builtin id))(ha:PA X (e::es) t)(hn:x≠"__name__":=by decide)(hdb:(x==("__debug__":Str))=false:=by decide)
  (he:starEach (e::es) X.env=(false,eval e X.env)::starEach es X.env:=by rfl) (hpl:(backTo pos (starEach es X.env)).any (·.1)=false:=by rfl):PE X (.Call (.Name x p) (e::es) [] pos) (tCB r t):=by
 intro pins s σ H Q I h
 refine wpAny_Call_Name_kw (ld_blt I hg hm hv ?_ hn hdb)
 exact PyProof.Rows.callWith_builtin1 (thn (ha pos pins s σ H _ I h) fun us s1 ⟨vs,H1,I1,r1,q1⟩=>hc pins s1 σ H1 vs us Q I1 r1 q1) he hpl
theorem pe_callTy (hc:CallR X (.type T) r)(hg:Gl X x)(hm:X.mg x=none)(hv:bootBuiltins x=some (.type T))(ha:PA X (e::es) t)(hn:x≠"__name__":=by decide)(hdb:(x==("__debug__":Str))=false:=by decide)
  (he:starEach (e::es) X.env=(false,eval e X.env)::starEach es X.env:=by rfl) (hpl:(backTo pos (starEach es X.env)).any (·.1)=false:=by rfl):PE X (.Call (.Name x p) (e::es) [] pos) (tCB r t):=by
 intro pins s σ H Q I h
 refine wpAny_Call_Name_kw (ld_blt I hg hm hv ?_ hn hdb)
 exact PyProof.Rows.callWith_type1 (thn (ha pos pins s σ H _ I h) fun us s1 ⟨vs,H1,I1,r1,q1⟩=>hc pins s1 σ H1 vs us Q I1 r1 q1) he hpl
end
end L2
namespace HT
open PySem PyProof.Rows
section
variable {prog:Program} {w:World} {A:Around} {E:Value->Shared->Prop} {s:Shared}
theorem cat_tup {t b:Addr}{vs ws:List Value}{Q:Value->Shared->Prop}(ht:IsTup s.heap t vs.toArray)(hb:IsTup s.heap b ws.toArray)(hv:vs≠[])
  (h1:ws=[]->Q (.ref t) s) (h2:ws≠[]->Q (.ref s.heap.objs.size) { s with heap:=s.heap.push { cls:=.type "tuple",data:=.seq (vs++ws).toArray } })
  (hsz:vs.length+ws.length<=sizeLine):wpAny (model prog w) A (binaryOp .Add (.ref t) (.ref b)) Q E s:=by
 obtain⟨⟨cls,dd,data,sl⟩,ho,hc,n,hd⟩:=id ht
 obtain⟨⟨cls2,dd2,data2,sl2⟩,ho2,hc2,n2,hd2⟩:=id hb
 simp only at hc hd hc2 hd2
 subst hc hd hc2 hd2
 have e:vs.toArray++ws.toArray=(vs++ws).toArray:=by simp
 by_cases hw:ws=[]
 ·exact concat_meets ⟨_,ho,rfl⟩ ⟨_,ho2,rfl⟩ noFill_tuple_add seq_tuple_add PySem.F.slot_tuple_add PySem.F.entry_tuple_add (PySem.F.args_tuple_add_2 _ _)
   (tuple_addW1 t b vs.toArray ws.toArray n n2 dd dd2 sl sl2 (by simpa using hv) (by simp[hw])) ⟨ho,ho2,h1 hw⟩
 ·refine concat_meets ⟨_,ho,rfl⟩ ⟨_,ho2,rfl⟩ noFill_tuple_add seq_tuple_add PySem.F.slot_tuple_add PySem.F.entry_tuple_add (PySem.F.args_tuple_add_2 _ _)
   (tuple_addW2 t b vs.toArray ws.toArray n n2 dd dd2 sl sl2 (by simpa using hv) (by simpa using hw) (by rw[List.size_toArray,List.size_toArray];exact hsz)) ⟨ho,ho2,?_⟩
  rw[e]
  exact h2 hw
def sIx (n d:Nat):Option Int->Nat
 |none=>d
 |some v=>if v<0 then(v+(n:Int)).toNat else min v.toNat n
theorem sIx_none (n d:Nat):sIx n d none=d:=rfl
theorem sIx_nat (n d k:Nat):sIx n d (some (k:Int))=min k n:=by
 show(if (k:Int)<0 then((k:Int)+(n:Int)).toNat else min (k:Int).toNat n)=min k n
 rw[if_neg (by omega),Int.toNat_natCast]
theorem sIx_le (n d:Nat)(hd:d<=n)(o:Option Int):sIx n d o<=n:=by
 cases o with
 |none=>exact hd
 |some v=>
  show(if v<0 then(v+(n:Int)).toNat else min v.toNat n)<=n
  by_cases hv:v<0
  ·rw[if_pos hv];omega
  ·rw[if_neg hv];exact Nat.min_le_right _ _
theorem clip_eq (v:Int)(n d:Nat):(if v<0 then max (v+(n:Int)) 0 else min v (n:Int))=((sIx n d (some v):Nat):Int):=by
 show(if v<0 then max (v+(n:Int)) 0 else min v (n:Int))=(((if v<0 then(v+(n:Int)).toNat else min v.toNat n):Nat):Int)
 by_cases hv:v<0
 ·simp only[if_pos hv];omega
 ·simp only[if_neg hv];omega
theorem adjust_gen (lo hi:Option Int)(n:Nat):Builtin.Slice.sliceAdjust lo hi 1 (n:Int)=(((sIx n 0 lo:Nat):Int),((sIx n n hi:Nat):Int)):=by
 have h1:¬((1:Int)<0):=by omega
 unfold Builtin.Slice.sliceAdjust
 simp only[h1,if_false]
 refine Prod.ext ?_ ?_
 ·cases lo with
  |none=>rfl
  |some v=>exact clip_eq v n 0
 ·cases hi with
  |none=>rfl
  |some v=>exact clip_eq v n n
theorem places_gen (i j:Nat):Builtin.Slice.slicePlaces (i:Int) (j:Int) 1=j-i:=by
 unfold Builtin.Slice.slicePlaces
 have h1:(1:Int) > 0:=by omega
 simp only[h1,if_true,Int.ediv_one]
 split<;>omega
theorem slicePart_ {v:Value}{o:Option Int}{Q:Option Int->Shared->Prop}(p:IsPart v o)(h:Q o s):wpAny (model prog w) A (Builtin.Slice.slicePartIndex v) Q E s:=by
 cases p with
 |none=>exact slicePart_none h
 |int i t=>exact slicePart_int h
theorem sliceApplied_gen {sl:Addr}{vl vu:Value}{lo hi:Option Int}{n:Nat}{Q:Int×Int×Nat->Shared->Prop}(hs:s.heap.IsSliceOf sl vl vu .none)(pl:IsPart vl lo)(pu:IsPart vu hi)
  (h:Q (((sIx n 0 lo:Nat):Int),1,sIx n n hi-sIx n 0 lo) s):wpAny (model prog w) A (Builtin.Slice.sliceApplied (.ref sl) (pure (n:Int))) Q E s:=by
 obtain⟨os,hos,hcs,hds⟩:=id hs
 unfold Builtin.Slice.sliceApplied Builtin.Slice.sliceFields
 refine wpAny_bind (wpAny_bind (wpAny_field hos hds (x:=vl) rfl (wpAny_bind (wpAny_field hos hds (x:=vu) rfl (wpAny_bind (wpAny_field hos hds (x:=.none) rfl (wpAny_pure ?_)))))))
 refine wpAny_bind (slicePart_none ?_)
 show wpAny _ _ (if ((1:Int)==0)=true then _ else _) _ _ s
 rw[if_neg (by decide)]
 refine wpAny_bind (slicePart_ pl (wpAny_bind (slicePart_ pu (wpAny_bind (wpAny_pure ?_)))))
 show wpAny _ _ (match Builtin.Slice.sliceAdjust lo hi 1 (n:Int) with|(lo,hi)=>pure (lo,(1:Int),Builtin.Slice.slicePlaces lo hi 1)) _ _ s
 rw[adjust_gen lo hi n]
 show wpAny _ _ (pure (((sIx n 0 lo:Nat):Int),(1:Int),Builtin.Slice.slicePlaces ((sIx n 0 lo:Nat):Int) ((sIx n n hi:Nat):Int) 1)) _ _ s
 rw[places_gen]
 exact wpAny_pure h
theorem pick_gen (xs:Array Value)(i k:Nat):((List.range k).filterMap fun(m:Nat)=>xs[((i:Int)+(m:Int)*1).toNat]?).toArray=((xs.toList.drop i).take k).toArray:=by
 have e:(fun(m:Nat)=>xs[((i:Int)+(m:Int)*1).toNat]?)=fun m=>xs[i+m]?:=by
  funext m
  have:((i:Int)+(m:Int)*1).toNat=i+m:=by omega
  rw[this]
 rw[e]
 have:=pick_run xs i k
 rw[List.filterMap_map] at this
 have e2:((fun x=>xs[x]?) ∘ fun x=>i+x)=fun m=>xs[i+m]?:=rfl
 rw[e2] at this
 rw[this]
theorem getItem_tuple_cut {t sl:Addr}{items:Array Value}{vl vu:Value}{lo hi:Option Int}{Q:Value->Shared->Prop}(ht:IsTup s.heap t items)(hs:s.heap.IsSliceOf sl vl vu .none)(pl:IsPart vl lo)(pu:IsPart vu hi)
  (hw:¬(sIx items.size 0 lo=0/\sIx items.size items.size hi=items.size))
  (h:Q (.ref s.heap.objs.size) { s with heap:=s.heap.push { cls:=.type "tuple",data:=.seq ((items.toList.drop (sIx items.size 0 lo)).take (sIx items.size items.size hi-sIx items.size 0 lo)).toArray } })
  (hsz:items.size<=sizeLine):wpAny (model prog w) A (getItem (.ref t) (.ref sl)) Q E s:=by
 have htake:sizeOk (.seq ((items.toList.drop (sIx items.size 0 lo)).take (sIx items.size items.size hi-sIx items.size 0 lo)).toArray):=by
  show((items.toList.drop (sIx items.size 0 lo)).take (sIx items.size items.size hi-sIx items.size 0 lo)).toArray.size<=sizeLine
  rw[List.size_toArray,List.length_take,List.length_drop,Array.length_toList]
  omega
 have hj:sIx items.size items.size hi<=items.size:=sIx_le _ _ (Nat.le_refl _) hi
 obtain⟨os,hos,hcs,hds⟩:=id hs
 have hTs:s.TypeIs (.ref sl) "slice":=⟨os,hos,hcs⟩
 unfold getItem
 try with_reducible refine wpAny_holding ?_
 first|refine wpAny_bind (wpAny_pure ?_)|skip
 refine wpAny_bind (wpAny_sequenceKey ht.typeIs (by decide) ?_)
 refine wpAny_bind (wpAny_callSpecial?_slot (name:=Str.ofString "__getitem__") ht.typeIs PyProof.Rows.slot_tuple_getitem
  (wpAny_call_entry PyProof.Rows.slot_tuple_getitem ht.typeIs entry_tuple_getitem ?_ (args_tuple_getitem _ _)))
 show wpAny _ _ (Builtin.Tuple.tupleItemsOf (.ref t) >>= _) _ _ s
 refine wpAny_bind (tupleItemsOf_ ht ?_)
 refine wpAny_bind (wpAny_typeOf hTs ?_)
 rw[if_pos (by decide)]
 refine wpAny_bind (sliceApplied_gen hs pl pu ?_)
 have hno:¬((((sIx items.size 0 lo:Nat):Int)==0&&(1:Int)==1&&(sIx items.size items.size hi-sIx items.size 0 lo)==items.size)=true):=by
  intro q
  rw[Bool.and_eq_true,Bool.and_eq_true] at q
  have q1:((sIx items.size 0 lo:Nat):Int)=0:=eq_of_beq q.1.1
  have q2:sIx items.size items.size hi-sIx items.size 0 lo=items.size:=eq_of_beq q.2
  exact hw ⟨by omega,by omega⟩
 show wpAny _ _ (if (((sIx items.size 0 lo:Nat):Int)==0&&(1:Int)==1&&(sIx items.size items.size hi-sIx items.size 0 lo)==items.size)=true then _ else _) _ _ s
 rw[if_neg hno,pick_gen]
 first
  |exact wpAny_bind (m:=Builtin.Tuple.tupleExact _) (wpAny_newObj_type (wpAny_pure ⟨_,rfl,wpAny_pure h⟩) htake)
  |exact wpAny_bind (m:=Builtin.Tuple.tupleExact _) (wpAny_newObj_type (wpAny_bind (wpAny_pure (wpAny_pure ⟨_,rfl,wpAny_pure h⟩))) htake)
  |exact wpAny_bind (wpAny_bind (m:=Builtin.Tuple.tupleExact _) (wpAny_newObj_type (wpAny_pure (wpAny_pure ⟨_,rfl,wpAny_pure h⟩)) htake))
  |exact wpAny_bind (wpAny_bind (m:=Builtin.Tuple.tupleExact _) (wpAny_newObj_type (wpAny_pure ⟨_,rfl,wpAny_pure h⟩) htake))
end
end HT
namespace L2
open PySem PySem.Spec PyProof.Rows
abbrev TO:=St->Hp->(Option Int->Hp->Prop)->Prop
def PO (X:Cx)(e:Option Expr)(t:TO):Prop:=
 ∀(pins:List (Addr×Obj)) (s:Shared) (σ:St) (H:Hp) (Q:Option Int->Hp->Prop),Inv X pins σ H s->t σ H Q→
  wpAny (model X.prog X.w) X.A (evalPart e X.env) (fun u s'=>∃o H',Inv X pins σ H' s'/\IsPart u o/\Q o H') X.xe s
def tNoPart:TO:=fun _ H Q=>Q none H
def tPart (t:TE):TO:=fun σ H Q=>t σ H fun x H1=>∃i,x=.int i/\Q (some i) H1
section
variable {X:Cx} {e:Expr} {te:TE} {lo hi:Option Expr} {tl th:TO} {pos p2:Pos}
theorem po_none:PO X none tNoPart:=by
 intro pins s σ H Q I h
 rw[evalPart_none]
 exact wpAny_pure ⟨none,H,I,.none,h⟩
theorem po_some (h:PE X e te):PO X (some e) (tPart te):=by
 intro pins s σ H Q I hw
 rw[evalPart_some]
 refine thn (h pins s σ H _ I hw) fun u s1 hq9=>?_
 obtain⟨x,H1,I1,r1,q1⟩:=hq9
 obtain⟨i,rfl,q⟩:=q1
 obtain⟨t,rfl⟩:=r1
 exact⟨some i,H1,I1,.int i t,q⟩
def SlR (X:Cx)(r:V->Option Int->Option Int->Hp->VK->Prop):Prop:=
 ∀(pins:List (Addr×Obj)) (s:Shared) (σ:St) (H:Hp) (x:V) (v vl vu:Value) (lo hi:Option Int) (sl:Addr) (Q:VK),Inv X pins σ H s->RelV x v->s.heap.IsSliceOf sl vl vu .none->IsPart vl lo->IsPart vu hi->r x lo hi H Q→
  ∃T id,typeLookup (.type T) "__getitem__"=pure (some (.builtin id))/\s.TypeIs v T/\wpAny (model X.prog X.w) X.A (getItem v (.ref sl)) (EP X pins σ Q) X.xe s
def tSl (r:V->Option Int->Option Int->Hp->VK->Prop)(te:TE)(tl th:TO):TE:=fun σ H Q=>te σ H fun x H1=>tl σ H1 fun l H2=>th σ H2 fun u H3=>r x l u H3 Q
theorem pe_slice {r:V->Option Int->Option Int->Hp->VK->Prop}(hr:SlR X r)(he:PE X e te)(hl:PO X lo tl)(hu:PO X hi th):PE X (.Subscript e (.Slice lo hi none p2) pos) (tSl r te tl th):=by
 intro pins s σ H Q I h
 refine Subscript_ (thn (he pins s σ H _ I h) fun v s1 ⟨x,H1,I1,r1,q1⟩=>?_)
 refine wpAny_Slice (thn (hl pins s1 σ H1 _ I1 q1) fun vl s2 ⟨l,H2,I2,pl,q2⟩=>thn (hu pins s2 σ H2 _ I2 q2) fun vu s3 ⟨u,H3,I3,pu,q3⟩=>?_)
 rw[evalPart_none]
 refine wpAny_pure ?_
 have I4:Inv X pins σ H3 { s3 with heap:=s3.heap.push { cls:=.type "slice",data:=.fields #[vl,vu,.none] } }:=I3.kept (t':=s3.toks) fun b ob q=>Heap.get?_push_of_some _ q
 obtain⟨T,id,hT,ht,hg⟩:=hr pins { s3 with heap:=s3.heap.push { cls:=.type "slice",data:=.fields #[vl,vu,.none] } } σ H3 x v vl vu l u s3.heap.objs.size Q I4 r1 (Heap.IsSliceOf.new ..) pl pu q3
 show wpAny (model X.prog X.w) X.A (subscriptTail e (.Slice lo hi none p2) v (.ref s3.heap.objs.size)) (EP X pins σ Q) X.xe { s3 with heap:=s3.heap.push { cls:=.type "slice",data:=.fields #[vl,vu,.none] } }
 exact tail_any (ops:=[.ref s3.heap.objs.size,v]) ht hT hg (by with_unfolding_all rfl)
def cutV (xs:List V)(lo hi:Option Int):List V:=(xs.drop (HT.sIx xs.length 0 lo)).take (HT.sIx xs.length xs.length hi-HT.sIx xs.length 0 lo)
theorem cutV_length (xs:List V)(lo hi:Option Int):(cutV xs lo hi).length<=xs.length:=by
 unfold cutV
 rw[List.length_take,List.length_drop]
 omega
def rSlT (K:W.Frag):V->Option Int->Option Int->Hp->VK->Prop:=fun x lo hi H Q=>∃a xs,x=.ref a/\SqT K H a xs∧
 ¬(HT.sIx xs.length 0 lo=0/\HT.sIx xs.length xs.length hi=xs.length)/\∀p,H p=none->Q (.ref p) (upd H p (.tup (cutV xs lo hi)))
theorem sl_tup:SlR X (rSlT X.K):=by
 intro pins s σ H x v vl vu lo hi sl Q I rx hs pl pu h
 obtain⟨a,xs,rfl,hx,hw,q⟩:=h
 cases rx
 obtain⟨its,r,ht,hz⟩:=I.tuple hx
 have hlen:its.toArray.size=xs.length:=by rw[List.size_toArray];exact r.length.symm
 refine⟨"tuple",_,PyProof.Rows.slot_tuple_getitem.lookup,ht.typeIs,?_⟩
 refine HT.getItem_tuple_cut ht hs pl pu (by rw[hlen];exact hw) ?_ (by rw[hlen];exact hz)
 rw[hlen]
 refine⟨.ref s.heap.objs.size,_,I.laid (t':=s.toks) (o:=.tup (cutV xs lo hi)) (fun b ob q=>Heap.get?_push_of_some _ q) (Nat.le_refl _) ?_,rfl,q _ (I.hok.fresh (Nat.le_refl _))⟩
 exact⟨Nat.le_trans (cutV_length xs lo hi) hz,_,(r.drop (HT.sIx xs.length 0 lo)).take (HT.sIx xs.length xs.length hi-HT.sIx xs.length 0 lo),IsTup.new _ _⟩
def rCatT (K:W.Frag):R2:=fun x y H Q=>∃a b xs ys,x=.ref a/\y=.ref b/\SqT K H a xs/\SqT K H b ys/\xs≠[]/\xs.length+ys.length<=sizeLine∧
 (ys=[]->Q (.ref a) H)/\(ys≠[]->∀p,H p=none->Q (.ref p) (upd H p (.tup (xs++ys))))
theorem Vals.nil_iff {xs:List V}{us:List Value}(r:Vals xs us):us=[]↔xs=[]:=by
 cases r with
 |nil=>simp
 |cons _ _=>simp
theorem op_catT:OpR X (binaryOp .Add) (rCatT X.K):=by
 intro pins s σ H x y v u Q I rx ry h
 obtain⟨a,b,xs,ys,rfl,rfl,ha,hb,hx,hz,q1,q2⟩:=h
 cases rx
 cases ry
 obtain⟨its,r1,p1,_⟩:=I.tuple ha
 obtain⟨its2,r2,p2,_⟩:=I.tuple hb
 refine HT.cat_tup p1 p2 (fun z=>hx (r1.nil_iff.mp z)) (fun z=>⟨.ref a,H,I,rfl,q1 (r2.nil_iff.mp z)⟩) (fun z=>?_) (by rw[<- r1.length,<- r2.length];exact hz)
 refine⟨.ref s.heap.objs.size,_,I.laid (t':=s.toks) (o:=.tup (xs++ys)) (fun b ob q=>Heap.get?_push_of_some _ q) (Nat.le_refl _) ?_,rfl,q2 (fun w=>z (r2.nil_iff.mpr w)) _ (I.hok.fresh (Nat.le_refl _))⟩
 exact⟨by rw[List.length_append];exact hz,_,r1.append r2,IsTup.new _ _⟩
end
end L2
namespace L2
open PySem PySem.Spec PyProof.Rows
def ixN (n:Nat)(i:Int):Option Nat:=if 0<=i then(if i<n then some i.toNat else none) else if -(n:Int)<=i then some (i+n).toNat else none
def atI {α:Type}(xs:List α)(i:Int):Option α:=(ixN xs.length i).bind fun j=>xs[j]?
theorem ixN_seq {n:Nat}{i:Int}{j:Nat}(h:ixN n i=some j):seqIndex? i n=some j/\j<n/\-(n:Int)<=i/\i<n:=by
 unfold ixN at h
 by_cases h0:0<=i
 ·rw[if_pos h0] at h
  by_cases h1:i<n
  ·rw[if_pos h1] at h
   have e:i.toNat=j:=Option.some.inj h
   exact⟨by rw[seqIndex_of h0 h1,e],by omega,by omega,h1⟩
  ·rw[if_neg h1] at h;cases h
 ·rw[if_neg h0] at h
  by_cases h1:-(n:Int)<=i
  ·rw[if_pos h1] at h
   have e:(i+n).toNat=j:=Option.some.inj h
   exact⟨by rw[seqIndex_neg (by omega) h1,e],by omega,h1,by omega⟩
  ·rw[if_neg h1] at h;cases h
theorem atI_get {α:Type}{xs:List α}{i:Int}{v:α}(h:atI xs i=some v):∃j,seqIndex? i xs.length=some j/\xs[j]?=some v/\j<xs.length/\-(xs.length:Int)<=i/\i<xs.length:=by
 unfold atI at h
 cases e:ixN xs.length i with
 |none=>rw[e] at h;cases h
 |some j=>
  rw[e] at h
  obtain⟨h1,h2,h3,h4⟩:=ixN_seq e
  exact⟨j,h1,h,h2,h3,h4⟩
theorem atI_nat {α:Type}{xs:List α}{j:Nat}{v:α}(h:xs[j]?=some v):atI xs (j:Int)=some v:=by
 have hj:j<xs.length:=(List.getElem?_eq_some_iff.mp h).1
 have e:ixN xs.length (j:Int)=some j:=by
  unfold ixN
  rw[if_pos (by omega),if_pos (by omega)];simp
 unfold atI;rw[e];exact h
def PlainIx (b:Expr):Prop:=∀o i,subscripted b false o i=operate [o,i] (getItem o i)
def IxR (X:Cx)(r:R2):Prop:=
 ∀(value slice:Expr) (pins:List (Addr×Obj)) (s:Shared) (σ:St) (H:Hp) (x y:V) (v u:Value) (Q:VK),Inv X pins σ H s->RelV x v->RelV y u->r x y H Q→
  subscripted slice false v u=operate [v,u] (getItem v u)->wpAny (model X.prog X.w) X.A (subscriptTail value slice v u) (EP X pins σ Q) X.xe s
def MtR (X:Cx)(id:String)(r:V->List V->Hp->VK->Prop):Prop:=
 ∀(pins:List (Addr×Obj)) (s:Shared) (σ:St) (H:Hp) (x:V) (xs:List V) (v:Value) (us:List Value) (Q:VK),Inv X pins σ H s->RelV x v->Vals xs us->r x xs H Q→
  wpAny (model X.prog X.w) X.A (call (.builtin id) (v::us)) (EP X pins σ Q) X.xe s
section
variable {X:Cx} {a b:Expr} {ta tb:TE} {pos:Pos}
theorem pe_ix {r:R2}(hr:IxR X r)(ha:PE X a ta)(hb:PE X b tb)(hs:PlainIx b):PE X (.Subscript a b pos) (tOp r ta tb):=by
 intro pins s σ H Q I h
 exact Subscript_ (binT ha hb I h fun v u s2 x y H2 I2 rx ry q=>hr a b pins s2 σ H2 x y v u Q I2 rx ry q (hs _ _))
def rIxL (K:W.Frag):R2:=fun x y H Q=>∃p xs i v,x=.ref p/\y=.int i/\SqL K H p xs/\atI xs i=some v/\Q v H
def rIxT (K:W.Frag):R2:=fun x y H Q=>∃p xs i v,x=.ref p/\y=.int i/\SqT K H p xs/\atI xs i=some v/\Q v H
def rIxS:R2:=fun x y H Q=>∃z i c,x=.str z/\y=.int i/\z.length<=sizeLine/\atI z.cps.toList i=some c/\Q (.str ⟨#[c]⟩) H
theorem ix_list:IxR X (rIxL X.K):=by
 intro value slice pins s σ H x y v u Q I rx ry h hs
 obtain⟨p,xs,i,z,rfl,rfl,hq,he,q⟩:=h
 cases rx
 obtain⟨t,rfl⟩:=ry
 obtain⟨its,r,pl,hz⟩:=I.list hq
 obtain⟨j,h1,h2,h3,h4,h5⟩:=atI_get he
 obtain⟨w,ew,rw'⟩:=r.get h2
 have hl:=r.length
 have hn:=line63
 have fin:EP X pins σ Q w s:=⟨z,H,I,rw',q⟩
 by_cases h0:0<=i
 ·have hj:i.toNat=j:=by
   rw[seqIndex_of h0 h5] at h1
   exact Option.some.inj h1
  exact item_listR pl.isList h0 (by omega) (by rw[hj];simpa using ew) fin hs
 ·have hj:(i+(its.toArray.size:Int)).toNat=j:=by
   rw[seqIndex_neg (by omega) h4] at h1
   rw[List.size_toArray,<- hl]
   exact Option.some.inj h1
  exact subscriptTail_builtinR (x:=w) pl.isList.typeIs slot_list_getitem.lookup
   (wpAny_getItem_list_neg (Q:=fun r s'=>r=w/\EP X pins σ Q r s') pl.isList (by omega) (by rw[List.size_toArray]<;>omega) (by omega) (by rw[hj];simpa using ew) ⟨rfl,fin⟩) hs
theorem ix_tup:IxR X (rIxT X.K):=by
 intro value slice pins s σ H x y v u Q I rx ry h hs
 obtain⟨p,xs,i,z,rfl,rfl,hq,he,q⟩:=h
 cases rx
 obtain⟨t,rfl⟩:=ry
 obtain⟨its,r,pl,hz⟩:=I.tuple hq
 obtain⟨j,h1,h2,h3,h4,h5⟩:=atI_get he
 obtain⟨w,ew,rw'⟩:=r.get h2
 have hl:=r.length
 have hn:=line63
 have fin:EP X pins σ Q w s:=⟨z,H,I,rw',q⟩
 exact subscriptTail_builtinR (x:=w) pl.typeIs slot_tuple_getitem.lookup
  (getItem_tuple (j:=j) (Q:=fun r s'=>r=w/\EP X pins σ Q r s') pl (by omega) (by omega) (by rw[List.size_toArray,<- hl];exact h1) (by simpa using ew) ⟨rfl,fin⟩) hs
theorem ix_str:IxR X rIxS:=by
 intro value slice pins s σ H x y v u Q I rx ry h hs
 obtain⟨z,i,c,rfl,rfl,hz,he,q⟩:=h
 obtain⟨t,rfl⟩:=rx
 obtain⟨t',rfl⟩:=ry
 obtain⟨j,h1,h2,h3,h4,h5⟩:=atI_get he
 have hl:z.cps.toList.length=z.length:=by simp[Str.length]
 rw[hl] at h1 h4 h5
 have hn:=line63
 exact tail_any (typeIs_str s z t) slot_str_getitem.lookup (getItem_str (c:=c) (by
  have e1:decide (i < -(2 ^ 63:Int))=false:=decide_eq_false (by omega)
  have e2:decide (i≥2 ^ 63)=false:=decide_eq_false (by omega)
  rw[e1,e2,Bool.or_false]) (by rw[h1];simpa using h2) ⟨.str ⟨#[c]⟩,H,I.tok _,⟨_,rfl⟩,q⟩) hs
theorem slice_bounds (lo hi:Option Int)(n:Nat):(sliceBounds lo hi none n).1=((HT.sIx n 0 lo:Nat):Int)/\(sliceBounds lo hi none n).2.1=((HT.sIx n n hi:Nat):Int)/\(sliceBounds lo hi none n).2.2=1:=by
 refine⟨?_,?_,rfl⟩
 ·cases lo with
  |none=>simp[sliceBounds,HT.sIx]
  |some i=>
   simp only[sliceBounds,HT.sIx,Option.getD_none,show(1:Int) > 0 by decide,if_true]
   by_cases h:i<0
   ·simp only[h,if_true]<;>omega
   ·simp only[h,if_false]<;>omega
 ·cases hi with
  |none=>simp[sliceBounds,HT.sIx]
  |some i=>
   simp only[sliceBounds,HT.sIx,Option.getD_none,show(1:Int) > 0 by decide,if_true]
   by_cases h:i<0
   ·simp only[h,if_true]<;>omega
   ·simp only[h,if_false]<;>omega
theorem slicePick_cut (its:List Value)(lo hi:Option Int):slicePick its.toArray lo hi none=((its.drop (HT.sIx its.length 0 lo)).take (HT.sIx its.length its.length hi-HT.sIx its.length 0 lo)).toArray:=by
 obtain⟨h1,h2,h3⟩:=slice_bounds lo hi its.toArray.size
 unfold slicePick
 rw[h1,h2,h3]
 simp only[sliceRange_one,pick_run,List.size_toArray]<;>rfl
def rSlL (K:W.Frag):V->Option Int->Option Int->Hp->VK->Prop:=fun x lo hi H Q=>∃a xs,x=.ref a/\SqL K H a xs/\∀p,H p=none->Q (.ref p) (upd H p (.lst (cutV xs lo hi)))
theorem sl_list:SlR X (rSlL X.K):=by
 intro pins s σ H x v vl vu lo hi sl Q I rx hs pl pu h
 obtain⟨a,xs,rfl,hx,q⟩:=h
 cases rx
 obtain⟨its,r,ht,hz⟩:=I.list hx
 have hlen:=r.length
 refine⟨"list",_,slot_list_getitem.lookup,ht.isList.typeIs,?_⟩
 refine wpAny_getItem_list_slice ht.isList hs pl pu .none (by simp) ?_ (by rw[List.size_toArray]<;>omega)
 rw[slicePick_cut,<- hlen]
 refine⟨.ref s.heap.objs.size,_,I.laid (t':=s.toks) (o:=.lst (cutV xs lo hi)) (fun b ob q=>Heap.get?_push_of_some _ q) (Nat.le_refl _) ?_,rfl,q _ (I.hok.fresh (Nat.le_refl _))⟩
 exact⟨Nat.le_trans (cutV_length xs lo hi) hz,_,0,(r.drop (HT.sIx xs.length 0 lo)).take (HT.sIx xs.length xs.length hi-HT.sIx xs.length 0 lo),Heap.get?_push_size _ rfl⟩
def flatV:V->Bool
 |.non=>true
 |.bl _=>true
 |.int _=>true
 |.str _=>true
 |_=>false
def eqV:V->V->Bool
 |.non,.non=>true
 |.bl a,.bl b=>a==b
 |.bl a,.int b=>(if a then 1 else 0)==b
 |.int a,.bl b=>a==(if b then 1 else 0)
 |.int a,.int b=>a==b
 |.str a,.str b=>a==b
 |_,_=>false
theorem eqAt_V {A:Around}{s:Shared}{y x:V}{u v:Value}(ry:RelV y u)(rx:RelV x v)(fy:flatV y=true)(fx:flatV x=true):SeqAt.EqAt A s u v (eqV y x):=by
 cases y with
 |non=>
  cases ry
  cases x with
  |non=>cases rx;exact SeqAt.EqAt.same _
  |bl b=>cases rx;exact SeqAt.EqAt.none_bool b
  |int b=>obtain⟨t,rfl⟩:=rx;exact SeqAt.EqAt.none_int b t
  |str b=>obtain⟨t,rfl⟩:=rx;exact SeqAt.EqAt.none_str b t
  |_=>exact absurd (show false=true from fx) Bool.false_ne_true
 |bl a=>
  cases ry
  cases x with
  |non=>cases rx;exact SeqAt.EqAt.bool_none a
  |bl b=>cases rx;exact SeqAt.EqAt.bool_bool a b
  |int b=>obtain⟨t,rfl⟩:=rx;exact SeqAt.EqAt.bool_int a b t
  |str b=>obtain⟨t,rfl⟩:=rx;exact SeqAt.EqAt.bool_str a b t
  |_=>exact absurd (show false=true from fx) Bool.false_ne_true
 |int a=>
  obtain⟨t',rfl⟩:=ry
  cases x with
  |non=>cases rx;exact SeqAt.EqAt.int_none a t'
  |bl b=>cases rx;exact SeqAt.EqAt.int_bool a t' b
  |int b=>obtain⟨t,rfl⟩:=rx;exact SeqAt.EqAt.int_int a t' b t
  |str b=>obtain⟨t,rfl⟩:=rx;exact SeqAt.EqAt.int_str a t' b t
  |_=>exact absurd (show false=true from fx) Bool.false_ne_true
 |str a=>
  obtain⟨t',rfl⟩:=ry
  cases x with
  |non=>cases rx;exact SeqAt.EqAt.str_none a t'
  |bl b=>cases rx;exact SeqAt.EqAt.str_bool a t' b
  |int b=>obtain⟨t,rfl⟩:=rx;exact SeqAt.EqAt.str_int a t' b t
  |str b=>obtain⟨t,rfl⟩:=rx;exact SeqAt.EqAt.str_str a t' b t
  |_=>exact absurd (show false=true from fx) Bool.false_ne_true
 |_=>exact absurd (show false=true from fy) Bool.false_ne_true
theorem op_notIn_str:OpR X (compareOp .NotIn) (fun x y H Q=>∃i j,x=.str i/\y=.str j/\Q (.bl (!(!(Builtin.Str.occurrences j i 0 j.length 1).isEmpty))) H):=by
 intro pins s σ H x y v u Q I rx ry h
 obtain⟨i,j,rfl,rfl,q⟩:=h
 obtain⟨t,rfl⟩:=rx
 obtain⟨t',rfl⟩:=ry
 exact notIn_str ⟨.bl _,H,I,rfl,q⟩
theorem call_len_seq:CallR X (.builtin "len") (fun xs H Q=>∃p ys,xs=[.ref p]/\(SqL X.K H p ys\/SqT X.K H p ys)/\Q (.int ys.length) H):=by
 intro pins s σ H xs us Q I r h
 obtain⟨p,ys,rfl,hq,q⟩:=h
 obtain⟨u,rfl,rx⟩:=vals1 r
 cases rx
 have hn:=line63
 rcases hq with hq|hq
 ·obtain⟨its,r',pl,hz⟩:=I.list hq
  have hlen:=r'.length
  exact Calls.call_len_list pl.isList (by simp only[List.size_toArray]<;>omega) ⟨.int ys.length,H,I.tok _,⟨s.toks+1,by rw[List.size_toArray,hlen]⟩,q⟩
 ·obtain⟨its,r',pl,hz⟩:=I.tuple hq
  have hlen:=r'.length
  exact len_tuple pl (by simp only[List.size_toArray]<;>omega) ⟨.int ys.length,H,I.tok _,⟨s.toks+1,by rw[List.size_toArray,hlen]⟩,q⟩
theorem call_len_str:CallR X (.builtin "len") (fun xs H Q=>∃z,xs=[.str z]/\z.length<=sizeLine/\Q (.int z.length) H):=by
 intro pins s σ H xs us Q I r h
 obtain⟨z,rfl,hz,q⟩:=h
 obtain⟨u,rfl,t,rfl⟩:=vals1 r
 have hn:=line63
 exact len_str (by omega) ⟨.int z.length,H,I.tok _,⟨_,rfl⟩,q⟩
def tyV (K:W.Frag)(T:String)(x:V)(H:Hp):Prop:=match x with
 |.str _=>T="str"
 |.int _=>T="int"
 |.ref p=>(T="list"/\∃xs,SqL K H p xs)\/(T="tuple"/\∃o,K.lookup p=some o/\o.cls=.type "tuple"/\o.dict=none)∨
   (T="dict"/\((∃kvs,H p=some (.dK kvs))\/∃kvs,H p=some (.dT kvs)))\/(T="set"/\∃S n,H p=some (.set S n))
 |_=>False
theorem tyV_is {pins:List (Addr×Obj)}{σ:St}{H:Hp}{s:Shared}{T:String}{x:V}{v:Value}(I:Inv X pins σ H s)(r:RelV x v)(ty:tyV X.K T x H):
  s.TypeIs v T/\∀a,v=.ref a->∃ob,s.heap.get? a=some ob/\ob.dict=none:=by
 cases x with
 |str z=>
  obtain⟨t,rfl⟩:=r
  cases(show T="str" from ty)
  exact⟨typeIs_str s z t,fun _ e=>nomatch e⟩
 |int i=>
  obtain⟨t,rfl⟩:=r
  cases(show T="int" from ty)
  exact⟨typeIs_int s i t,fun _ e=>nomatch e⟩
 |ref p=>
  cases r
  rcases ty with⟨rfl,xs,hq⟩|⟨rfl,o,hk,hc,hd⟩|⟨rfl,hk⟩|⟨rfl,S,n,hk⟩
  ·obtain⟨its,_,pl,_⟩:=I.list hq
   refine⟨pl.isList.typeIs,fun a e=>?_⟩
   cases e
   obtain⟨o,n,e,c,hd,_⟩:=pl
   exact⟨o,e,hd⟩
  ·refine⟨⟨o,I.kIn p o hk,hc⟩,fun a e=>?_⟩
   cases e
   exact⟨o,I.kIn _ o hk,hd⟩
  ·have z:∃o,s.heap.get? p=some o/\o.ExactDict:=by
    rcases hk with⟨kvs,hk⟩|⟨kvs,hk⟩
    ·obtain⟨_,_,_,_,o,_,_,e,ex,_⟩:=I.hok p _ hk
     exact⟨o,e,ex⟩
    ·obtain⟨_,_,_,_,o,_,_,e,ex,_⟩:=I.hok p _ hk
     exact⟨o,e,ex⟩
   obtain⟨o,e,ex⟩:=z
   refine⟨⟨o,e,ex.1⟩,fun a e2=>?_⟩
   cases e2
   exact⟨o,e,ex.2.1⟩
  ·obtain⟨o,_,_,_,e,ex,_⟩:=I.hok p _ hk
   refine⟨⟨o,e,ex.1⟩,fun a e2=>?_⟩
   cases e2
   exact⟨o,e,ex.2.1⟩
 |_=>exact False.elim ty
def tBM (K:W.Frag)(T:String)(r:V->List V->Hp->VK->Prop)(to:TE)(t:TA):TE:=fun σ H Q=>to σ H fun x H1=>tyV K T x H1/\t σ H1 fun xs H2=>r x xs H2 Q
variable {o e:Expr} {es:List Expr} {to:TE} {t:TA} {name:Str} {apos cpos:Pos} {T id:String} {r:V->List V->Hp->VK->Prop}
theorem pe_bm (pa:PlainAttrs T)(slot:Slot T name id)(hty:typeOf (.builtin id)=pure (.type "method_descriptor"))(hm:MtR X id r)(ho:PE X o to)(ha:PA X (e::es) t)
  (hbase:attributeBase o name X.env (eval o X.env)=eval o X.env:=by rfl)
  (hfew:((backTo cpos (starEach (e::es) X.env)).all (fun x=>!x.1)&&(backToKw cpos (keywordEach [] X.env)).all (fun x=>x.1.isSome)
   &&decide ((e::es).length+([]:List Keyword).length+(if ([]:List Keyword).isEmpty then 0 else 1)<30))=true:=by rfl)
  (hline:(apos.endLine==cpos.line)=true:=by rfl) (hs:starEach (e::es) X.env=(false,eval e X.env)::starEach es X.env:=by rfl) (hplain:(backTo cpos (starEach es X.env)).any (·.1)=false:=by rfl):
  PE X (.Call (.Attribute o name apos) (e::es) [] cpos) (tBM X.K T r to t):=by
 intro pins s σ H Q I h
 refine wpAny_Call_method_late hbase hfew hline rfl (thn (ho pins s σ H _ I h) fun v s1 ⟨x,H1,I1,r1,ty,q1⟩=>?_)
 obtain⟨h1,h2⟩:=tyV_is I1 r1 ty
 refine⟨T,id,pa,slot,hty,h1,h2,?_⟩
 have hA:=ha cpos pins s1 σ H1 _ I1 q1
 rw[hs] at hA ⊢
 refine Calls.callWith_builtin (by show(false||(backTo cpos (starEach es X.env)).any (·.1))=false;rw[hplain]<;>rfl) (Calls.evalArgs_plain ?_)
 exact thn hA fun us s2 ⟨vs,H2,I2,r2,q2⟩=>hm pins s2 σ H2 x vs v us Q I2 r1 r2 q2
end
end L2
namespace L2
open PySem PySem.Spec PyProof.Rows
def MtM (X:Cx)(id:String)(r:V->List V->Hp->VK->Prop):Prop:=
 ∀(pins:List (Addr×Obj)) (s:Shared) (σ:St) (H:Hp) (x:V) (xs:List V) (v:Value) (us:List Value) (Q:VK),Inv X pins σ H s->RelV x v->Vals xs us->r x xs H Q→
  wpAny (model X.prog X.w) X.A (call (.builtin id) (v::us)) (EP X pins σ Q) X.xe s
theorem Vals.one:∀{x:V} {us:List Value},Vals [x] us->∃u,us=[u]/\RelV x u
 |_,_,.cons r .nil=>⟨_,rfl,r⟩
theorem Vals.two:∀{x y:V} {us:List Value},Vals [x,y] us->∃u v,us=[u,v]/\RelV x u/\RelV y v
 |_,_,_,.cons r (.cons q .nil)=>⟨_,_,rfl,r,q⟩
theorem Vals.eraseIdx:∀{xs:List V} {us:List Value} (i:Nat),Vals xs us->Vals (xs.eraseIdx i) (us.eraseIdx i)
 |_,_,_,.nil=>.nil
 |_,_,0,.cons _ t=>t
 |_,_,i+1,.cons r t=>.cons r (Vals.eraseIdx i t)
theorem Vals.rep {xs:List V}{us:List Value}(h:Vals xs us):∀k:Nat,Vals (List.replicate k xs).flatten (List.replicate k us).flatten
 |0=>.nil
 |k+1=>by
  rw[List.replicate_succ,List.replicate_succ,List.flatten_cons,List.flatten_cons]
  exact Vals.append h (Vals.rep h k)
theorem len_erase {α:Type}:∀(l:List α) (i:Nat),(l.eraseIdx i).length<=l.length
 | [],_=>Nat.le_refl _
 |_::_,0=>Nat.le_succ _
 |_::r,i+1=>Nat.succ_le_succ (len_erase r i)
theorem foldl_rep (its:List Value):∀(k:Nat) (acc:List Value),
  List.foldl (fun x1 x2=>x1++x2) acc.toArray (List.replicate k its.toArray)=(acc++(List.replicate k its).flatten).toArray
 |0,acc=>by simp
 |k+1,acc=>by
  have e:acc.toArray++its.toArray=(acc++its).toArray:=by simp
  have e2:(acc++its)++(List.replicate k its).flatten=acc++(List.replicate (k+1) its).flatten:=by
   rw[List.replicate_succ,List.flatten_cons,List.append_assoc]
  rw[<- e2,<- foldl_rep its k (acc++its),<- e,List.replicate_succ,List.foldl_cons]
section
variable {X:Cx} {pins:List (Addr×Obj)} {σ:St} {H:Hp} {s:Shared} {l b:Addr} {xs ys zs:List V}
theorem Inv.lset {its its':List Value}{n:Nat}{f:Array Value->Array Value}{t':Nat}(I:Inv X pins σ H s)(hH:H l=some (.lst xs))
  (e:s.heap.get? l=some { cls:=.type "list",data:=.seq its.toArray n }) (hf:f its.toArray=its'.toArray) (hv:Vals ys its') (hz:ys.length<=sizeLine):
  Inv X pins σ (upd H l (.lst ys)) { s with heap:=s.heap.update l (Obj.mapSeq f),toks:=t' }:=by
 have q:=PySem.IsL.update e f
 rw[hf] at q
 refine I.write (x:=l) (e:=l) (by rw[hH];exact trivial) (.inl rfl) (fun b' u hb hu=>(Heap.get?_update_other s.heap (Obj.mapSeq f) (Ne.symm hb)).trans hu) ⟨_,q⟩ ?_
 exact⟨hz,its',_,hv,q⟩
theorem Inv.lnew {its:List Value}{t':Nat}(I:Inv X pins σ H s)(hv:Vals ys its)(hz:ys.length<=sizeLine):
  Inv X pins σ (upd H s.heap.objs.size (.lst ys)) { s with heap:=s.heap.push { cls:=.type "list",data:=.seq its.toArray },toks:=t' }:=
 I.laid (fun _ _ q=>Heap.get?_push_of_some _ q) (Nat.le_refl _) ⟨hz,its,0,hv,Heap.get?_push_size _ rfl⟩
theorem Inv.fresh (I:Inv X pins σ H s):H s.heap.objs.size=none:=I.hok.fresh (Nat.le_refl _)
theorem Inv.lstM (I:Inv X pins σ H s)(hH:H l=some (.lst xs)):xs.length<=sizeLine/\∃(its:List Value) (n:Nat),Vals xs its/\xs.length=its.length/\s.heap.get? l=some { cls:=.type "list",data:=.seq its.toArray n }:=by
 obtain⟨z,its,n,r,e⟩:=I.hok l _ hH
 exact⟨z,its,n,r,r.length,e⟩
theorem notLongL {n:Nat}(h:n<=sizeLine):Builtin.List.listTooLong n=false:=by
 unfold Builtin.List.listTooLong
 exact decide_eq_false (by omega)
end
section
variable {X:Cx}
def rAppend:V->List V->Hp->VK->Prop:=fun x vs H Q=>∃l xs y,x=.ref l/\vs=[y]/\H l=some (.lst xs)/\xs.length<sizeLine/\Q .non (upd H l (.lst (xs++[y])))
theorem mt_append:MtM X "list.append" rAppend:=by
 intro pins s σ H x vs v us Q I rx rv h
 obtain⟨l,xs,y,rfl,rfl,hH,hz,q⟩:=h
 cases rx
 obtain⟨u,rfl,ru⟩:=rv.one
 obtain⟨z,its,n,r,hl,e⟩:=I.lstM hH
 refine call_meets F.slot_list_append ⟨_,e,rfl⟩ F.entry_list_append (F.args_list_append_2 _ _) (PySem.list_append l its.toArray n u (by rw[List.size_toArray];omega)) ⟨e,?_⟩
 refine⟨.non,_,I.lset (its':=its++[u]) hH e (by simp) (r.append (.cons ru .nil)) ?_,rfl,q⟩
 rw[List.length_append,List.length_singleton]
 omega
def rPopAt:V->List V->Hp->VK->Prop:=fun x vs H Q=>∃l xs i k y,x=.ref l/\vs=[.int i]/\H l=some (.lst xs)/\-(2 ^ 63)<=i/\i<2 ^ 63/\seqIndex? i xs.length=some k/\xs[k]?=some y/\Q y (upd H l (.lst (xs.eraseIdx k)))
theorem mt_popAt:MtM X "list.pop" rPopAt:=by
 intro pins s σ H x vs v us Q I rx rv h
 obtain⟨l,xs,i,k,y,rfl,rfl,hH,h1,h2,hk,hy,q⟩:=h
 cases rx
 obtain⟨u,rfl,ru⟩:=rv.one
 obtain⟨t,rfl⟩:=ru
 obtain⟨z,its,n,r,hl,e⟩:=I.lstM hH
 obtain⟨w,hw,rw'⟩:=r.get hy
 refine call_meets F.slot_list_pop ⟨_,e,rfl⟩ F.entry_list_pop (F.args_list_pop_2 _ _)
  (MeetsSeq.list_pop_at l its.toArray n i t k w (fitsIndex_both h1 h2) (by rw[List.size_toArray,<- hl];exact hk) (by rw[<- Array.getElem?_toList];exact hw) (by rw[List.size_toArray];omega)) ⟨e,?_⟩
 refine⟨y,_,I.lset (its':=its.eraseIdx k) hH e ?_ (r.eraseIdx k) ?_,rw',q⟩
 ·show its.toArray.eraseIdxIfInBounds k=(its.eraseIdx k).toArray
  rw[List.eraseIdxIfInBounds_toArray]
 ·have:=len_erase xs k
  omega
def rRep:R2:=fun x y H Q=>∃l k xs,x=.ref l/\y=.int k/\H l=some (.lst xs)/\-(2 ^ 63)<=k/\k<2 ^ 63/\xs.length*k.toNat<=sizeLine∧
 ∀p,H p=none->Q (.ref p) (upd H p (.lst (List.replicate k.toNat xs).flatten))
theorem len_rep {α:Type}(xs:List α)(k:Nat):(List.replicate k xs).flatten.length=k*xs.length:=by
 induction k with
 |zero=>simp
 |succ k ih=>rw[List.replicate_succ,List.flatten_cons,List.length_append,ih,Nat.succ_mul,Nat.add_comm]
theorem op_rep:OpR X (binaryOp .Mult) rRep:=by
 intro pins s σ H x y v u Q I rx ry h
 obtain⟨l,k,xs,rfl,rfl,hH,h1,h2,hz,q⟩:=h
 cases rx
 obtain⟨t,rfl⟩:=ry
 obtain⟨z,its,n,r,hl,e⟩:=I.lstM hH
 have hlen:its.toArray.size*k.toNat<=sizeLine:=by rw[List.size_toArray,<- hl];exact hz
 have hcap:¬its.toArray.size*k.toNat > (2 ^ 63-1) / 8:=by
  have:(sizeLine:Nat)<=(2 ^ 63-1) / 8:=by decide
  omega
 have hfit:¬(!Builtin.List.listFitsIndex k)=true:=by
  rw[fitsIndex_both h1 h2]
  exact Bool.false_ne_true
 have hlong:¬Builtin.List.listTooLong (its.toArray.size*k.toNat)=true:=by
  rw[notLongL hlen]
  exact Bool.false_ne_true
 have hnew:List.foldl (fun x1 x2=>x1++x2) #[] (List.replicate (if its.toArray.isEmpty=true then 0 else k.toNat) its.toArray)=(List.replicate k.toNat its).flatten.toArray:=by
  have f0:∀m:Nat,List.foldl (fun x1 x2=>x1++x2) #[] (List.replicate m its.toArray)=(List.replicate m its).flatten.toArray:=fun m=>by
   have:=foldl_rep its m []
   rw[List.nil_append] at this
   exact this
  rw[f0]
  cases its with
  |nil=>simp
  |cons a r'=>rw[if_neg (by simp)]
 refine wpAny_binaryOp_repeat_ref (T:="list") (U:="int") (by decide) ⟨_,e,rfl⟩ (fun s'=>typeIs_int s' k t) noFill_list_mul F.fills_int_mul F.slot_int_rmul repeat_list F.slot_int_index.lookup
  (call_meets F.slot_int_rmul (typeIs_int s k t) F.entry_int_rmul (F.args_int_rmul_2 _ _) (int___rmul___int_list k t l its.toArray n)
   ⟨e,rfl,⟨_,e,rfl⟩,call_meets F.slot_list_mul ⟨_,e,rfl⟩ F.entry_list_mul (F.args_list_mul_2 _ _) (AutoListH.list___mul___list_int_3 l its.toArray n k t hfit hcap hlong) ⟨e,?_⟩⟩)
 rw[hnew]
 exact⟨.ref _,_,I.lnew (t':=s.toks) (r.rep k.toNat) (by rw[len_rep,Nat.mul_comm];exact hz),rfl,q _ I.fresh⟩
end
end L2
namespace Att
open PySem PySem.W PySem.Calls PyProof.Rows
theorem ints_of_wellAll {P:Params}{h:Heap}:∀(ns:List Int) (vs:List Value),WellAll P h vs (ns.map WData.int)->IntsAre vs ns:=by
 intro ns
 induction ns with
 |nil=>
  intro vs w
  rw[List.map_nil] at w
  cases w
  exact .nil
 |cons n ns ih=>
  intro vs w
  rw[List.map_cons] at w
  cases w with
  |cons a b=>
   cases a
   exact .cons _ _ (ih _ b)
theorem script_of {l:OpenLaw}{n:Nat}(hn:l.most=some n){P:Params}{h:Heap}{args:List WData}{vals:List Value}
  (hpre:l.row.toRowW.claim.pre args=true) (hwl:WellAll P h vals args):
  ∃a vs ns,vals=[Value.ref a]/\args=[WData.list (ns.map WData.int)]/\h.get? a=some { cls:=.type "list",data:=.seq vs.toArray }/\IntsAre vs ns/\ns.length<=n:=by
 have hsh:WShape.hasAll [] args [.list .int]=true:=(pre_splitW hpre).1
 have hc:l.pre.holds [] { args:=args }=true:=(pre_splitW hpre).2
 obtain⟨d,r,rfl,h1,h2⟩:=hasAllW_cons hsh
 obtain rfl:=hasAllW_nil h2
 obtain⟨xs,rfl,h3⟩:=hasW_list h1
 obtain⟨ns,rfl⟩:=items_int h3
 have hlen:ns.length<=n:=by
  unfold OpenLaw.pre at hc
  have h4:(WTm.not (.lt (.lit (.int (n:Int))) (.len (.arg 0)))).holds [] { args:=[.list (ns.map .int)] }=true:=by
   have h4:=(holds_andW hc).1
   rw[hn] at h4
   exact h4
  have h5:=condW_of h4 (w_not (w_lt w_lit (w_len_list (w_arg rfl))))
  rw[List.length_map] at h5
  refine Nat.le_of_not_lt fun q=>?_
  have q':(n:Int)<((ns.length:Nat):Int):=by omega
  first
   | (rw[decide_eq_true q'] at h5;exact absurd h5 (by decide))
   | (simp at h5;omega)
 cases hwl with
 |cons w1 w2=>
  cases w2
  cases w1 with
  |list ho hall=>exact⟨_,_,ns,rfl,rfl,ho,ints_of_wellAll ns _ hall,hlen⟩
theorem post_true (l:OpenLaw)(args:List WData):l.row.toRowW.claim.post args (.bool true) args=true:=
 postW_of (r:=l.row.toRowW) (X:=(true==true))
  (show WShape.has [] (.bool true) .bool=true by first|rfl|decide|simp[WShape.has,WShape.arms,WShape.armsAll])
  (show(WTm.eq .res (.lit (.bool true))).value [] { args:=args,res:=some (.bool true),after:=args }=some (.bool (true==true)) from w_eq_bool (w_res rfl) w_lit) rfl
theorem attach_call {l:OpenLaw}{n:Nat}{q:Program}{loose:List Str}{XP:(Str->Option Value)->Heap->Prop}{YP:World->Heap->Prop}{d:DefRec}
  (hn:l.most=some n) (hdf:d.params.defaults=[])
  (call:∀(w:World) (s₀ s₁:Shared) (mg mb:Str->Option Value) (fa:Addr) (o:Obj) (pm cd doc:Value) (a:Addr) (vs:List Value) (ns:List Int),
   Ground q loose [] XP w s₀ mg mb s₁.heap->YP w s₁.heap→
   s₁.heap.get? fa=some o->o.data=.func (docDef d.name d.params d.body d.scope pm cd doc)->s₁.heap.CodeRec cd d.name->mg d.name=some (.ref fa)→
   s₁.heap.get? a=some { cls:=.type "list",data:=.seq vs.toArray }->IntsAre vs ns->ns.length<=n->s₁.gens=#[]→
   codeAny (model l.prog w) callerA (.call (.ref fa) ⟨[.ref a],[]⟩) (fun r s'=>r=.ok (.ret (.bool true))/\OldK s₁.heap s'.heap/\s'.os=s₁.os/\AllBare s'.gens) s₁):
  WalkO q loose XP YP l.row.toRowW d [] (fun f vs=>PySem.call f vs):=by
 intro w s₀ s₁ mg mb G Y fa o pm cd doc dV kV ho hd hcd hD hmg hg args vals as hpre hlay hrd hwl hlo
 obtain rfl:dV=.none:=Dflts.none hD hdf
 obtain rfl:kV=.none:=Dflts.noKw hD
 obtain⟨a,vs,ns,rfl,rfl,hobj,hints,hlen⟩:=script_of hn hpre hwl
 refine enter_call (codeAny_mono (call w s₀ s₁ mg mb fa o pm cd doc a vs ns G Y ho (fd_plain hd) hcd hmg hobj hints hlen hg) fun r s' hq=>?_)
 obtain⟨rfl,h2,h3,h4⟩:=hq
 exact⟨.inl ⟨.bool true,.bool true,[],rfl,fun _=>rfl,.bool true,post_true l _,fun _=>⟨List.Pairwise.nil,fun _ hm=>(nomatch hm)⟩⟩,h2,h3,h4⟩
end Att
namespace L2
open PySem PySem.Spec PyProof.Rows
theorem vals_ints:∀{vs:List Value} {ns:List Int},IntsAre vs ns->Vals (ns.map V.int) vs
 |_,_,.nil=>.nil
 |_,_,.cons n t h=>.cons ⟨t,rfl⟩ (vals_ints h)
def Only (H:Hp):Prop:=∀b,H b=none\/∃o xs,H b=some (.frz o (.lst xs))
theorem law_call {P:Program}{w:World}{K:W.Frag}{mg mb:Str->Option Value}{CX:CXT}{k:Nat}{fa a:Addr}{fd:FuncData}{x:Str}{sp:Sp}{s₁:Shared}{vs:List Value}{ns:List Int}
  (KX:K.In s₁.heap) (hns:s₁.heap.Ns mainGlobals mg) (hb:s₁.heap.Ns builtinsNs mb) (hbb:∀x:Str,x≠"__name__"->mb x=bootBuiltins x) (hlim:s₁.heap.NoLimit) (hg:s₁.gens=#[])
  (ha:s₁.heap.get? a=some { cls:=.type "list",data:=.seq vs.toArray }) (hi:IntsAre vs ns) (hl:ns.length<=sizeLine) (hr:Room k callerA)
  (F:∀base:Heap,K.In base->base.Ns mainGlobals mg->FnOk P w K mg base CX k fa fd [x] sp) (hbind:∀(s:Shared) (u:Value),BindsTo s fd ⟨[u],[]⟩ [(x,u)])
  (hsp:∀H:Hp,Only H->SqL K H a (ns.map V.int)->sp [.ref a] H (fun v _=>v=.bl true) fun _ _ _=>False)
  (hCX:∀H e s',CX [] H s₁ (fun _ _ _=>False) e s'->False):
  codeAny (model P w) callerA (.call (.ref fa) ⟨[.ref a],[]⟩) (fun r s'=>r=.ok (.ret (.bool true))/\OldK s₁.heap s'.heap/\s'.os=s₁.os/\AllBare s'.gens) s₁:=by
 have rv:=vals_ints hi
 have lenV:=hi.length
 have core:∀H:Hp,Only H->SqL K H a (ns.map V.int)->HOk P w H s₁.heap->(∀b,H b≠none->b=a)->(H a≠none->K.lookup a=none)→
   codeAny (model P w) callerA (.call (.ref fa) ⟨[.ref a],[]⟩) (fun r s'=>r=.ok (.ret (.bool true))/\OldK s₁.heap s'.heap/\s'.os=s₁.os/\AllBare s'.gens) s₁:=by
  intro H hO hS hok hA hK
  have base_of:∀{b:Addr} {o:Obj},s₁.heap.get? b=some o->H b=none->(hidT s₁.heap H).get? b=some o:=fun e n=>hidT_get e n
  have noA:∀{b:Addr} {o:Obj} {es:Array DictEntry} {ep:Nat},s₁.heap.get? b=some o->o.data=.dict es ep->H b=none:=fun {b o es ep} e d=>by
   cases q:H b with
   |none=>rfl
   |some u=>
    have e':b=a:=hA b (by rw[q];simp)
    subst e'
    rw[ha] at e;cases e
    have d':Data.seq vs.toArray _=Data.dict es ep:=d
    cases d'
  have nsK:∀{b:Addr} {m:Str->Option Value},s₁.heap.Ns b m->(hidT s₁.heap H).Ns b m:=fun {b m} ⟨o,es,ep,e,d,r⟩=>⟨o,es,ep,base_of e (noA e d),d,r⟩
  have hKb:K.In (hidT s₁.heap H):=fun b o e=>base_of (KX b o e) (by
   cases q:H b with
   |none=>rfl
   |some u=>
    have e':b=a:=hA b (by rw[q];simp)
    subst e'
    rw[hK (by rw[q];simp)] at e;cases e)
  have hM:Mod K mg (hidT s₁.heap H):=⟨hKb,nsK hns,⟨mb,nsK hb,hbb⟩,let ⟨mc,h1,h2⟩:=hlim;⟨mc,nsK h1,h2⟩⟩
  have e0:Env0 P w K mg (hidT s₁.heap H) callerA [] s₁ H:=⟨rfl,hM,fun b o e=>of_hidT e,Nat.le_of_eq (hidT_size _ _),trivial,fun b hb=>absurd (show b∈([]:List Addr) from hb) (by simp),hok,.of_eq hg⟩
  refine codeAny_mono ((F _ hKb (nsK hns)).run callerA [] s₁ H ⟨[.ref a],[]⟩ [.ref a] [.ref a] _ _ hr e0 (hbind s₁ (.ref a)) (.cons rfl .nil) (hsp H hO hS)) fun r s' h=>?_
  cases r with
  |error e=>exact(hCX H e s' h).elim
  |ok fl=>
   cases fl with
   |next=>exact False.elim h
   |brk=>exact False.elim h
   |cont=>exact False.elim h
   |ret u=>
    obtain⟨v,H',os,bare,un,hok',r',q⟩:=h
    have q':v=.bl true:=q
    subst q'
    obtain rfl:u=Value.bool true:=r'
    refine⟨rfl,OldK.of_keep fun b o e=>?_,os,bare⟩
    cases q:H b with
    |none=>exact un.keep b o e q (by intro z;exact absurd (show b∈([]:List Addr) from z) (by simp)) (by simp)
    |some u=>
     rcases hO b with z|⟨ob,xs,z⟩
     ·rw[q] at z;cases z
     ·have z2:=un.frzs b ob _ z
      obtain⟨e1,_⟩:=hok b _ z
      obtain⟨e2,_⟩:=hok' b _ z2
      rw[e] at e1;cases e1
      exact e2
 cases hk:K.lookup a with
 |some o=>
  have e:=KX a o hk
  rw[ha] at e
  cases e
  refine core (fun _=>none) (fun _=>.inl rfl) (.inr ⟨_,vs.toArray,_,hk,rfl,rfl,rfl,by rw[List.size_toArray,lenV];exact hl,by simpa using rv⟩) (fun b u z=>by have z':(none:Option HO)=some u:=z;cases z') (fun b z=>absurd rfl z) fun z=>absurd rfl z
 |none=>
  refine core (fun b=>if b=a then some (.frz { cls:=.type "list",data:=.seq vs.toArray } (.lst (ns.map V.int))) else none) (fun b=>?_) (.inl (.inr ⟨{ cls:=.type "list",data:=.seq vs.toArray },if_pos rfl⟩)) (fun b u z=>?_) (fun b z=>?_) fun _=>hk
  ·by_cases hb:b=a
   ·exact .inr ⟨_,_,if_pos hb⟩
   ·exact .inl (if_neg hb)
  ·by_cases hb:b=a
   ·have z':=(if_pos hb).symm.trans z
    cases z'
    subst hb
    exact⟨ha,by rw[List.length_map];exact hl,vs,_,rv,ha⟩
   ·have z':=(if_neg hb).symm.trans z
    cases z'
  ·by_cases hb:b=a
   ·exact hb
   ·exact absurd (if_neg hb) z
end L2
namespace L2
open PySem PySem.Spec PyProof.Rows
theorem walk_of {l:W.OpenLaw}{n k:Nat}{q:Program}{loose:List Str}{XP:(Str->Option Value)->Heap->Prop}{YP:World->Heap->Prop}{d:DefRec}{K:Params->W.Frag}{CX:World->CXT}{sp:World->Sp}{x:Str}
  (hn:l.most=some n) (hn2:n<=sizeLine) (hdf:d.params.defaults=[]) (hr:Room k callerA)
  (hY:∀(w:World) (h:Heap),YP w h->(K w.params).In h)
  (F:∀(w:World) (mg:Str->Option Value) (fa:Addr) (h:Heap),(K w.params).In h->h.Ns mainGlobals mg->mg d.name=some (.ref fa)→
   ∃fd:FuncData,(∀(s:Shared) (u:Value),BindsTo s fd ⟨[u],[]⟩ [(x,u)])∧
    ∀base:Heap,(K w.params).In base->base.Ns mainGlobals mg->FnOk l.prog w (K w.params) mg base (CX w) k fa fd [x] (sp w))
  (hsp:∀(w:World) (H:Hp) (a:Addr) (ns:List Int),ns.length<=n->Only H->SqL (K w.params) H a (ns.map V.int)->sp w [.ref a] H (fun v _=>v=.bl true) fun _ _ _=>False)
  (hCX:∀(w:World) (H:Hp) (s:Shared) (e:Value) (s':Shared),CX w [] H s (fun _ _ _=>False) e s'->False):
  W.WalkO q loose XP YP l.row.toRowW d [] (fun f vs=>PySem.call f vs):=by
 refine Att.attach_call hn hdf fun w s₀ s₁ mg mb fa o pm cd doc a vs ns G Y ho hd hcd hmg hobj hints hlen hg=>?_
 have KX:=hY w _ Y
 obtain⟨fd,hb,hF⟩:=F w mg fa _ KX G.T.g hmg
 exact law_call KX G.T.g G.T.b G.T.builtins G.T.nolimit hg hobj hints (Nat.le_trans hlen hn2) hr hF hb (fun H hO hS=>hsp w H a ns hlen hO hS) fun H e s'=>hCX w H s₁ e s'
end L2
namespace L2
open PySem PySem.Spec PyProof.Rows
abbrev CX0:CXT:=fun _ _ _ _ _ _=>False
abbrev E0:XK:=fun _ _ _=>False
theorem pass0 {X:Cx}:Passes CX0 X E0:=fun _ _ _ _ _ _ _ h=>h.elim
structure Fun (K:W.Frag)(x qual:Str)(st:Stmt)(f:Addr)(fd:FuncData):Prop where
 ex:∃(oc:Value) (od:Option Addr) (kV doc pm:Value) (an:Option Addr) (cdv ct:Value) (osl:Array (Option Value)),
  fd=W.fnOf x qual (defArgs st) (defBody st) (defScope st) .none kV doc pm an cdv ct/\K.lookup f=some ⟨oc,od,.func fd,osl⟩/\W.codeIn K cdv qual=true
 kp:W.keepIn K (.ref f)=true
section
variable {P:Program} {w:World} {K:W.Frag} {mg:Str->Option Value} {base:Heap}
theorem Fun.ok {x qual:Str}{st:Stmt}{f:Addr}{fd:FuncData}{N ps:List Str}{k:Nat}{sp:Sp}(F:Fun K x qual st f fd)(S:FnScope N ps (defScope st))(len:∀vs H Q E,sp vs H Q E->vs.length=ps.length)
  (hbody:∀(cdv:Value) (A:Around) (outer:List Env) (s:Shared) (H:Hp) (vs:List V) (Q:VK) (E:XK),Room k (A.deeper (envOfC qual (defScope st) s.heap.objs.size f cdv))->sp vs H Q E→
   ∃t,PSs (cxOf CX0 P w K mg base N qual (defScope st) f cdv A outer s H E).nox (defBody st) t/\t { nx:=fun _ H'=>Q .non H',rt:=Q } (start N vs) H):FnOk P w K mg base CX0 (k+1) f fd ps sp:=by
 obtain⟨oc,od,kV,doc,pm,an,cdv,ct,osl,rfl,lk,hcd⟩:=F.ex
 refine fn_of lk hcd S len fun A outer s H vs Q E hr hsp=>?_
 obtain⟨t,h,q⟩:=hbody cdv A outer s H vs Q E hr hsp
 exact⟨t,h.nox,q⟩
theorem Fun.binds {x qual:Str}{st:Stmt}{f:Addr}{fd:FuncData}{ps:List Str}(F:Fun K x qual st f fd)
  (h:∀(kV doc pm:Value) (an:Option Addr) (cdv ct:Value) (us:List Value),us.length=ps.length->bindArgs (W.fnOf x qual (defArgs st) (defBody st) (defScope st) .none kV doc pm an cdv ct) ⟨us,[]⟩=pure (ps.zip us)):Binds K fd ps []:=by
 obtain⟨oc,od,kV,doc,pm,an,cdv,ct,osl,rfl,lk,hcd⟩:=F.ex
 exact .all (h kV doc pm an cdv ct)
theorem fun_mk {x qual:Str}{st:Stmt}{f:Addr}{oc:Value}{od an:Option Addr}{osl:Array (Option Value)}{kV doc pm cdv ct:Value}(l:K.lookup f=some ⟨oc,od,.func (W.fnOf x qual (defArgs st) (defBody st) (defScope st) .none kV doc pm an cdv ct),osl⟩)
  (c:W.codeIn K cdv qual=true) (k:W.keepIn K (.ref f)=true):Fun K x qual st f (W.fnOf x qual (defArgs st) (defBody st) (defScope st) .none kV doc pm an cdv ct):=⟨⟨oc,od,kV,doc,pm,an,cdv,ct,osl,rfl,l,c⟩,k⟩
end
theorem small1000 {n:Nat}(h:n<=1000):n<sizeLine:=Nat.lt_of_le_of_lt h (by decide)
section
variable {X:Cx}
theorem pv (i:Nat){x:Str}{pos:Pos}(hN:X.N[i]?=some x:=by rfl)(hv:Vis X.env.scope x:=by first|exact Or.inl rfl|exact Or.inr (Or.inl rfl)|exact Or.inr (Or.inr rfl))(hd:(x==("__debug__":Str))=false:=by decide)
  (hcd:(x==("__classdict__":Str))=false:=by decide):PE X (.Name x pos) (tVar i):=pe_var hN hv hd hcd
end
theorem iteF {A B:Prop}(h:B):if false=true then A else B:=by
 rw[if_neg Bool.false_ne_true]
 exact h
theorem iteT {A B:Prop}(h:A):if true=true then A else B:=by
 rw[if_pos rfl]
 exact h
theorem ite2 {c A B:Prop}[Decidable c](h1:c->A)(h2:¬c->B):if c then A else B:=by
 by_cases h:c
 ·rw[if_pos h]
  exact h1 h
 ·rw[if_neg h]
  exact h2 h
def Same (H H':Hp):Prop:=∀b o,H b=some o->H' b=some o
theorem Same.refl (H:Hp):Same H H:=fun _ _ h=>h
theorem Same.trans {H H1 H2:Hp}(a:Same H H1)(b:Same H1 H2):Same H H2:=fun c o h=>b c o (a c o h)
theorem Same.free {H H':Hp}(e:Same H H'){l:Addr}(h:H' l=Option.none):H l=Option.none:=by
 cases q:H l with
 |none=>rfl
 |some o=>
  rw[e l o q] at h
  cases h
theorem Same.seq {K:W.Frag}{H H':Hp}{a:Addr}{xs:List V}(e:Same H H')(h:SqL K H a xs):SqL K H' a xs:=by
 rcases h with(h|⟨o,h⟩)|h
 ·exact .inl (.inl (e _ _ h))
 ·exact .inl (.inr ⟨o,e _ _ h⟩)
 ·exact .inr h
end L2
set_option maxHeartbeats 4000000
namespace L2
open PySem PySem.Spec PyProof.Rows
section
variable {κ:Type} [DecidableEq κ]
def valV (kvs:List (κ×V))(k:κ):Option V:=(kvs.find? fun kv=>decide (kv.1=k)).map (·.2)
def putK (kvs:List (κ×V))(k:κ)(v:V):List (κ×V):=
 if (kvs.any fun kv=>decide (kv.1=k))=true then kvs.map (fun kv=>if kv.1=k then(kv.1,v) else kv) else kvs++[(k,v)]
theorem valV_pos {p:κ×V}{r:List (κ×V)}{k:κ}(e:p.1=k):valV (p::r) k=some p.2:=by simp[valV,List.find?_cons,e]
theorem valV_neg {p:κ×V}{r:List (κ×V)}{k:κ}(e:¬p.1=k):valV (p::r) k=valV r k:=by simp[valV,List.find?_cons,e]
theorem length_putK (kvs:List (κ×V))(k:κ)(v:V):(putK kvs k v).length<=kvs.length+1:=by
 unfold putK
 split
 ·rw[List.length_map];omega
 ·rw[List.length_append,List.length_cons,List.length_nil];omega
theorem RelO.isSome_eq {o:Option V}{u:Option Value}(r:RelO o u):o.isSome=u.isSome:=by
 cases o with
 |none=>cases u with
  |none=>rfl
  |some _=>exact(show False from r).elim
 |some _=>cases u with
  |none=>exact(show False from r).elim
  |some _=>rfl
theorem KV.val {kvs:List (κ×V)}{vs:List (κ×Value)}(r:KV kvs vs)(k:κ):RelO (valV kvs k) (valueAt vs k):=by
 unfold KV at r
 induction r with
 |nil=>exact True.intro
 |@cons p q ps qs h t ih=>
  obtain⟨h1,h2⟩:=h
  by_cases e:p.1=k
  ·have e':q.1=k:=h1.symm.trans e
   have b:valueAt (q::qs) k=some q.2:=by simp[valueAt,List.find?_cons,e']
   rw[valV_pos e,b];exact h2
  ·have e':¬q.1=k:=fun z=>e (h1.trans z)
   have b:valueAt (q::qs) k=valueAt qs k:=by simp[valueAt,List.find?_cons,e']
   rw[valV_neg e,b];exact ih
theorem KV.any {kvs:List (κ×V)}{vs:List (κ×Value)}(r:KV kvs vs)(k:κ):(kvs.any fun kv=>decide (kv.1=k))=vs.any fun kv=>decide (kv.1=k):=by
 unfold KV at r
 induction r with
 |nil=>rfl
 |cons h t ih=>rw[List.any_cons,List.any_cons,ih,h.1]
theorem KV.repl {kvs:List (κ×V)}{vs:List (κ×Value)}(r:KV kvs vs)(k:κ){y:V}{u:Value}(ry:RelV y u):
  KV (kvs.map fun kv=>if kv.1=k then(kv.1,y) else kv) (vs.map fun kv=>if kv.1=k then(kv.1,u) else kv):=by
 unfold KV at r ⊢
 induction r with
 |nil=>exact .nil
 |@cons p q ps qs h t ih=>
  rw[List.map_cons,List.map_cons]
  refine .cons ?_ ih
  obtain⟨h1,h2⟩:=h
  by_cases e:p.1=k
  ·rw[if_pos e,if_pos (h1.symm.trans e)];exact⟨h1,ry⟩
  ·rw[if_neg e,if_neg (fun z=>e (h1.trans z))];exact⟨h1,h2⟩
theorem KV.put {kvs:List (κ×V)}{vs:List (κ×Value)}(r:KV kvs vs)(k:κ){y:V}{u:Value}(ry:RelV y u):KV (putK kvs k y) (stored vs k u):=by
 unfold putK stored
 rw[r.any k]
 by_cases e:(vs.any fun kv=>decide (kv.1=k))=true
 ·rw[if_pos e,if_pos e];exact r.repl k ry
 ·rw[if_neg e,if_neg e];exact Paired.snoc r ⟨rfl,ry⟩
end
theorem kV_is {P:Program}{w:World}{k:Key}{u:Value}(r:RelV (kV k) u):(mixKind P w).is k u=true:=by
 cases k with
 |inl i=>obtain⟨t,e⟩:=(show ∃t,u=Value.int i t from r);subst e;exact mixKind_int P w i t
 |inr x=>obtain⟨t,e⟩:=(show ∃t,u=Value.str x t from r);subst e;exact mixKind_str P w x t
theorem items_are {P:Program}{w:World}:∀{ks:List Key} {us:List Value},Vals (ks.map kV) us->ItemsAre (mixKind P w) ks us
 | [],_,r=>by rw[List.map_nil] at r;cases r;exact .nil
 |k::ks,_,r=>by
  rw[List.map_cons] at r
  cases r with
  |cons h t=>exact .cons (kV_is h) (items_are t)
abbrev KT (H:Hp):List (List Key×V)->List (List Key×Addr×Value)->Prop:=Paired fun p q=>p.1=q.1/\H q.2.1=some (.tup (p.1.map kV))/\RelV p.2 q.2.2
theorem KT.val {H:Hp}{kvs:List (List Key×V)}{xs:List (List Key×Addr×Value)}(r:KT H kvs xs)(k:List Key):RelO (valV kvs k) ((atKey xs k).map (·.2)):=by
 induction r with
 |nil=>exact True.intro
 |@cons p q ps qs h t ih=>
  obtain⟨h1,_,h2⟩:=h
  by_cases e:p.1=k
  ·have e':q.1=k:=h1.symm.trans e
   have b:atKey (q::qs) k=some q.2:=by simp[atKey,List.find?_cons,e']
   rw[valV_pos e,b];exact h2
  ·have e':¬q.1=k:=fun z=>e (h1.trans z)
   have b:atKey (q::qs) k=atKey qs k:=by simp[atKey,List.find?_cons,e']
   rw[valV_neg e,b];exact ih
section
variable {P:Program} {w:World} {H:Hp} {h:Heap} {a:Addr}
theorem rd_of {u:HO}(ok:HOk P w H h)(e:Rd H a u):ObjOk P w H h a u:=e.ok ok
theorem dk_rd {kvs:List (Key×V)}(ok:HOk P w H h)(e:Rd H a (.dK kvs)):kvs.length<=sizeLine/\(a==sysModules)=false/\∃vs,KV kvs vs/\h.DictOf (mixKind P w) a vs:=
 show ObjOk P w H h a (.dK kvs) from rd_of ok e
theorem dk_of {kvs:List (Key×V)}(ok:HOk P w H h)(e:H a=some (.dK kvs)):kvs.length<=sizeLine/\(a==sysModules)=false/\∃vs,KV kvs vs/\h.DictOf (mixKind P w) a vs:=dk_rd ok (.inl e)
theorem key_of {ks:List Key}(ok:HOk P w H h)(e:H a=some (.tup (ks.map kV))):(tupleKind (mixKind P w)).is h ks a:=by
 obtain⟨_,its,r,o,h1,h2,n,h3⟩:=(show ObjOk P w H h a (.tup (ks.map kV)) from ok a _ e)
 exact⟨o,its.toArray,n,h1,h2,h3,by simpa using items_are r⟩
theorem dt_rd {kvs:List (List Key×V)}(ok:HOk P w H h)(e:Rd H a (.dT kvs)):kvs.length<=sizeLine/\(a==sysModules)=false∧
  ∃xs,KT H kvs xs/\h.DictOfH (tupleKind (mixKind P w)) a xs:=by
 obtain⟨z,y,xs,r,o,es,ep,h1,h2,h3,h4,h5⟩:=(show ObjOk P w H h a (.dT kvs) from rd_of ok e)
 refine⟨z,y,xs,r,o,es,ep,h1,h2,h3,h4,fun x hx=>?_,h5⟩
 have all:∀{l:List (List Key×V)} {m:List (List Key×Addr×Value)},KT H l m->∀x∈m,(tupleKind (mixKind P w)).is h x.1 x.2.1:=by
  intro l m q
  induction q with
  |nil=>intro x hx;exact nomatch hx
  |@cons p q ps qs hq t ih=>
   intro x hx
   rcases List.mem_cons.mp hx with e|hx
   ·subst e
    exact key_of ok (by rw[<- hq.1];exact hq.2.1)
   ·exact ih x hx
 exact all r x hx
end
def DGet (H:Hp)(a:Addr)(y:V)(r:Option V):Prop:=
 (∃kvs k,Rd H a (.dK kvs)/\y=kV k/\r=valV kvs k)\/∃kvs k b,Rd H a (.dT kvs)/\y=.ref b/\H b=some (.tup (k.map kV))/\r=valV kvs k
theorem DGet.k {H:Hp}{a:Addr}{kvs:List (Key×V)}{k:Key}(e:H a=some (.dK kvs)):DGet H a (kV k) (valV kvs k):=.inl ⟨kvs,k,.inl e,rfl,rfl⟩
section
variable {X:Cx} {pins:List (Addr×Obj)} {σ:St} {H:Hp} {s:Shared} {a:Addr} {y v:V} {u r:Value} {o:Option V} {A:Around} {E:Value->Shared->Prop}
theorem Inv.big (I:Inv X pins σ H s):sysModules<s.heap.objs.size:=by
 have h:mainGlobals<s.heap.objs.size:=(I.mod.glob.keeps I.bk).lt
 exact Nat.lt_trans (by decide) h
theorem d_getItem {Q:Value->Shared->Prop}(hu:A.units+1<cLine)(I:Inv X pins σ H s)(g:DGet H a y (some v))(ry:RelV y u)(h:∀w' s',Inv X pins σ H s'->RelV v w'->Q w' s'):
  wpAny (model X.prog X.w) A (getItem (.ref a) u) Q E s:=by
 rcases g with⟨kvs,k,e,ey,l⟩|⟨kvs,k,b,e,ey,eb,l⟩
 ·subst ey
  obtain⟨z,hd,vs,rel,dd⟩:=dk_rd I.hok e
  obtain⟨w',hw,rw'⟩:=RelO.some_of (v:=v) (o:=valueAt vs k) (by rw[l];exact rel.val k)
  exact wpAny_getItem_of (kV_is ry) dd.mapOf hw (h w' _ (I.tok _) rw')
 ·subst ey
  cases(show u=Value.ref b from ry)
  obtain⟨z,hd,xs,rel,dd⟩:=dt_rd I.hok e
  obtain⟨w',hw,rw'⟩:=RelO.some_of (v:=v) (o:=(atKey xs k).map (·.2)) (by rw[l];exact rel.val k)
  obtain⟨p,hp,hp2⟩:=Option.map_eq_some_iff.mp hw
  refine wpAny_getItem_heap (tupleKind_room_in1 hu) (key_of I.hok eb) dd hp ?_
  rw[hp2]
  exact h w' _ (I.tok _) rw'
theorem d_write {h':Heap}{t':Nat}{ob:HO}(I:Inv X pins σ H s)(mu:Mut (H a))(hs:Heap.SameBut a s.heap h')(he:∃q,h'.get? a=some q)(new:ObjOk X.prog X.w (upd H a ob) h' a ob):
  Inv X pins σ (upd H a ob) { s with heap:=h',toks:=t' }:=
 I.write (x:=a) (e:=a) mu (.inl rfl) (fun b q hb z=>(hs.2 b hb).trans z) he new
theorem dk_new {P:Program}{w:World}{H':Hp}{h':Heap}{kvs:List (Key×V)}{vs:List (Key×Value)}(z:kvs.length<=sizeLine)(hd:(a==sysModules)=false)(rel:KV kvs vs)(dd:h'.DictOf (mixKind P w) a vs):
  ObjOk P w H' h' a (.dK kvs):=⟨z,hd,vs,rel,dd⟩
end
def NoSl (i:Expr):Prop:=∀ov iv,subscripted i false ov iv=operate [ov,iv] (getItem ov iv)
theorem subD_of {prog:Program}{w:World}{A:Around}{E:Value->Shared->Prop}{s:Shared}{env:Env}{value slice:Expr}{pos:Pos}{T id:String}{Q:Value->Shared->Prop}
  (hl:typeLookup (.type T) "__getitem__"=pure (some (.builtin id))) (hs:NoSl slice)
  (h:wpAny (model prog w) A (eval value env) (fun o s₁=>wpAny (model prog w) A (eval slice env) (fun i s₂=>s₂.TypeIs o T/\wpAny (model prog w) A (getItem o i) Q E s₂) E s₁) E s):
  wpAny (model prog w) A (eval (.Subscript value slice pos) env) Q E s:=by
 refine Subscript_ (wpAny_mono h (fun o s₁ h₁=>wpAny_mono h₁ (fun i s₂ h₂=>?_) fun _ _ x=>x) fun _ _ x=>x)
 obtain⟨hT,h₂⟩:=h₂
 unfold subscriptTail
 refine wpAny_bind ?_
 rw[getitemInPython_of_ne hT.not_modules]
 refine wpAny_bind (wpAny_specialOf hT hl ?_)
 have fin:wpAny (model prog w) A (subscripted slice false o i) (fun r s₃=>wpAny (model prog w) A (letTemporaryGo value o r >>= fun _=>pure r) Q E s₃) E s₂:=by
  rw[hs o i]
  exact wpAny_operating (wpAny_mono h₂ (fun r s₃ h₃=>wpAny_bind (wpAny_letTemporaryGo (wpAny_pure h₃))) fun _ _ x=>x)
 first
  |exact wpAny_pure (wpAny_bind fin)
  |exact wpAny_bind (wpAny_pure (wpAny_bind fin))
  |exact wpAny_bind fin
theorem dict_typeIs {X:Cx}{pins:List (Addr×Obj)}{σ:St}{H:Hp}{s:Shared}{a:Addr}{y:V}{o:Option V}(I:Inv X pins σ H s)(g:DGet H a y o):s.TypeIs (.ref a) "dict":=by
 rcases g with⟨kvs,k,e,_,_⟩|⟨kvs,k,b,e,_,_,_⟩
 ·obtain⟨_,_,vs,_,dd⟩:=dk_rd I.hok e
  exact dd.typeIs
 ·obtain⟨_,_,xs,_,dd⟩:=dt_rd I.hok e
  exact dd.typeIs
def tDGet (td ty:TE):TE:=fun σ H Q=>td σ H fun x H1=>ty σ H1 fun y H2=>∃a v,x=.ref a/\DGet H2 a y (some v)/\Q v H2
section
variable {X:Cx} {o i e value:Expr} {pos pos' tpos:Pos} {td ty tv:TE}
theorem pe_dget (hu:X.A.units+1<cLine)(ho:PE X o td)(hi:PE X i ty)(hs:NoSl i):PE X (.Subscript o i pos) (tDGet td ty):=by
 intro pins s σ H Q I h
 refine subD_of PySem.F.slot_dict_getitem.lookup hs (thn (ho pins s σ H _ I h) fun u s1 ⟨x,H1,I1,rx,q1⟩=>thn (hi pins s1 σ H1 _ I1 q1) fun iv s2 ⟨y,H2,I2,ry,a,v,ex,g,q2⟩=>?_)
 subst ex
 obtain rfl:u=Value.ref a:=rx
 exact⟨dict_typeIs I2 g,d_getItem hu I2 g ry fun w' s3 I3 rw'=>⟨v,H2,I3,rw',q2⟩⟩
end
theorem dk_empty {P:Program}{w:World}{H:Hp}(h:Heap)(hb:sysModules<h.objs.size):ObjOk P w H (h.push { cls:=.type "dict",data:=.dict #[] }) h.objs.size (.dK []):=
 ⟨Nat.zero_le _,beq_eq_false_iff_ne.mpr (Ne.symm (Nat.ne_of_lt hb)),[],.nil,Heap.DictOf.new h⟩
def tPairs:List (TE×TE)->St->Hp->(List (V×V)->Hp->Prop)->Prop
 | [],_,H,Q=>Q [] H
 | (tk,tv)::r,σ,H,Q=>tk σ H fun x H1=>tv σ H1 fun y H2=>tPairs r σ H2 fun ps H3=>Q ((x,y)::ps) H3
abbrev VV:List (V×V)->List (Value×Value)->Prop:=Paired fun p q=>RelV p.1 q.1/\RelV p.2 q.2
def PPs (X:Cx)(pos:Pos)(keys:List (Option Expr))(values:List Expr)(trs:List (TE×TE)):Prop:=
 ∀(pins:List (Addr×Obj)) (s:Shared) (σ:St) (H:Hp) (Q:List (V×V)->Hp->Prop),Inv X pins σ H s->tPairs trs σ H Q→
  wpAny (model X.prog X.w) X.A (evalPairs (pairTrees keys values X.env pos)) (fun vs s'=>∃ps H',Inv X pins σ H' s'/\VV ps vs/\Q ps H') X.xe s
theorem pps_nil {X:Cx}{pos:Pos}:PPs X pos [] [] []:=fun pins s σ H Q I h=>pairTrees_nil_walk ⟨[],H,I,.nil,h⟩
theorem pps_cons {X:Cx}{pos:Pos}{k v:Expr}{ks:List (Option Expr)}{vs:List Expr}{tk tv:TE}{trs:List (TE×TE)}(hk:PE X k tk)(hv:PE X v tv)(hr:PPs X pos ks vs trs):
  PPs X pos (some k::ks) (v::vs) ((tk,tv)::trs):=fun pins s σ H Q I h=>
 pairTrees_cons_walk (thn (hk pins s σ H _ I h) fun u s1 ⟨x,H1,I1,rx,q1⟩=>thn (hv pins s1 σ H1 _ I1 q1) fun w2 s2 ⟨y,H2,I2,ry,q2⟩=>
  thn (hr pins s2 σ H2 _ I2 q2) fun ws s3 ⟨ps,H3,I3,rel,q3⟩=>⟨(x,y)::ps,H3,I3,.cons ⟨rx,ry⟩ rel,q3⟩)
def mergeK (kvs more:List (Key×V)):List (Key×V):=more.foldl (fun acc kv=>putK acc kv.1 kv.2) kvs
theorem KV.merge:∀{more:List (Key×V)} {rs:List (Key×Value)} {kvs:List (Key×V)} {vs:List (Key×Value)},KV more rs->KV kvs vs->KV (mergeK kvs more) (merged vs rs):=by
 intro more rs kvs vs r
 unfold KV at r
 induction r generalizing kvs vs with
 |nil=>intro q;exact q
 |@cons p q ps qs h t ih=>
  intro r0
  have e:KV (putK kvs p.1 p.2) (stored vs q.1 q.2):=by
   have:=r0.put p.1 h.2
   rw[<- h.1];exact this
  exact ih e
theorem length_mergeK:∀(more kvs:List (Key×V)),(mergeK kvs more).length<=kvs.length+more.length
 | [],kvs=>by show kvs.length<=kvs.length+0;omega
 |p::r,kvs=>by
  have h1:=length_mergeK r (putK kvs p.1 p.2)
  have h2:=length_putK kvs p.1 p.2
  show(mergeK (putK kvs p.1 p.2) r).length<=_
  rw[List.length_cons];omega
theorem carries_of {P:Program}{w:World}:∀{kvs:List (Key×V)} {ws:List (Value×Value)},VV (kvs.map fun kv=>(kV kv.1,kv.2)) ws->∃rs,Carries (mixKind P w) ws rs/\KV kvs rs
 | [],_,r=>by rw[List.map_nil] at r;cases r;exact⟨[],True.intro,.nil⟩
 |p::kvs,_,r=>by
  rw[List.map_cons] at r
  cases r with
  |@cons a b as bs h t=>
   obtain⟨rs,c,q⟩:=carries_of (P:=P) (w:=w) t
   obtain⟨b1,b2⟩:=b
   exact⟨(p.1,b2)::rs,⟨kV_is h.1,rfl,c⟩,.cons ⟨rfl,h.2⟩ q⟩
def tDisp (trs:List (TE×TE)):TE:=fun σ H Q=>∀p,H p=none->tPairs trs σ (upd H p (.dK [])) fun ps H2=>H2 p=some (.dK [])/\∃kvs:List (Key×V),ps=kvs.map (fun kv=>(kV kv.1,kv.2))/\kvs.length<=15/\Q (.ref p) (upd H2 p (.dK (mergeK [] kvs)))
theorem pe_disp {X:Cx}{pos:Pos}{keys:List (Option Expr)}{values:List Expr}{trs:List (TE×TE)}(h:PPs X pos keys values trs)(hall:keys.all (·.isSome)=true)(hl:keys.length=values.length)(h0:keys≠[])
  (h15:keys.length<=15):PE X (.Dict keys values pos) (tDisp trs):=by
 intro pins s σ H Q I q
 have hn:=I.hok.fresh (Nat.le_refl s.heap.objs.size)
 have I1:=I.laid (a:=s.heap.objs.size) (o:=.dK []) (h':=s.heap.push { cls:=.type "dict",data:=.dict #[] }) (t':=s.toks) (fun _ _ q=>Heap.get?_push_of_some _ q) (Nat.le_refl _) (dk_empty s.heap I.big)
 refine wpAny_Dict_walk (knd:=mixKind X.prog X.w) hall hl h0 h15 (thn (h pins _ σ _ _ I1 (q _ hn)) fun ws s2 ⟨ps,H2,I2,rel,e,kvs,ep,lk,q2⟩=>?_)
 subst ep
 obtain⟨rs,c,rk⟩:=carries_of (P:=X.prog) (w:=X.w) rel
 obtain⟨z,hd,vs0,r0,dd⟩:=dk_of I2.hok e
 cases r0
 refine⟨rs,c,dd,fun h' dd' hs=>⟨.ref s.heap.objs.size,_,?_,rfl,q2⟩⟩
 have hz:(mergeK [] kvs).length<=sizeLine:=by
  have h1:=length_mergeK kvs []
  rw[List.length_nil] at h1
  rw[sizeLine_eq];omega
 have he:∃q,h'.get? s.heap.objs.size=some q:=let ⟨q,_,_,hq,_⟩:=dd';⟨q,hq⟩
 exact d_write I2 (by rw[e];exact True.intro) hs he (dk_new hz hd (rk.merge .nil) dd')
end L2
namespace L2
open PySem PySem.Spec PyProof.Rows
def KEnt (P:Params):List DictEntry->List (Str×V)->Prop
 | [],[]=>True
 |e::es,kv::kvs=>(e.hash=PyData.keyHash P kv.1/\(∃t,e.key=.str kv.1 t)/\RelV kv.2 e.val)/\KEnt P es kvs
 |_,_=>False
def KD (w:World)(K:W.Frag)(a:Addr)(kvs:List (Str×V)):Prop:=
 ∃es ep,K.lookup a=some { cls:=.type "dict",data:=.dict es ep }/\(a==sysModules)=false/\KEnt w.params es.toList kvs/\(kvs.map (·.1)).Nodup
theorem KEnt.pairs {P:Program}{w:World}:∀{es:List DictEntry} {kvs:List (Str×V)},KEnt w.params es kvs->∃vs:List (Str×Value),KV kvs vs/\Pairs (strKind P w) es vs/\vs.map (·.1)=kvs.map (·.1)/\∀e∈es,∃k,(strKind P w).is k e.key=true/\e.hash=(strKind P w).hash k
 | [],[],_=>⟨[],.nil,.nil,rfl,fun e he=>by simp at he⟩
 |e::es,kv::kvs,⟨⟨h1,⟨t,h2⟩,h3⟩,h4⟩=>by
  obtain⟨vs,a,b,c,d⟩:=KEnt.pairs (P:=P) (w:=w) h4
  have hk:(strKind P w).is kv.1 e.key=true:=by rw[h2];exact strKind_is P w kv.1 t
  refine⟨(kv.1,e.val)::vs,.cons ⟨rfl,h3⟩ a,.cons hk rfl b,by rw[List.map_cons,List.map_cons,c],fun x hx=>?_⟩
  rcases List.mem_cons.mp hx with rfl|hx
  ·exact⟨kv.1,hk,h1⟩
  ·exact d x hx
 | [],_::_,h=>h.elim
 |_::_,[],h=>h.elim
section
variable {X:Cx} {pins:List (Addr×Obj)} {σ:St} {H:Hp} {s:Shared} {a:Addr} {kvs:List (Str×V)}
theorem KD.dict (I:Inv X pins σ H s)(h:KD X.w X.K a kvs):(a==sysModules)=false/\∃vs:List (Str×Value),KV kvs vs/\s.heap.DictOf (strKind X.prog X.w) a vs:=by
 obtain⟨es,ep,hk,hs,he,hn⟩:=h
 obtain⟨vs,a1,a2,a3,a4⟩:=he.pairs (P:=X.prog)
 exact⟨hs,vs,a1,_,es,ep,I.kIn _ _ hk,⟨rfl,rfl,rfl⟩,rfl,fun e he=>a4 e (Array.mem_toList_iff.mpr he),a2,by rw[a3];exact hn⟩
end
def tKGet (w:World)(K:W.Frag)(td ty:TE):TE:=fun σ H Q=>td σ H fun x H1=>ty σ H1 fun y H2=>∃a kvs k v,x=.ref a/\y=.str k/\KD w K a kvs/\valV kvs k=some v/\Q v H2
def tKNotIn (w:World)(K:W.Frag)(ty td:TE):TE:=fun σ H Q=>ty σ H fun y H1=>td σ H1 fun x H2=>∃a kvs k,x=.ref a/\y=.str k/\KD w K a kvs/\Q (.bl (!(valV kvs k).isSome)) H2
section
variable {X:Cx} {o i:Expr} {pos:Pos} {td ty:TE}
theorem pe_kget (ho:PE X o td)(hi:PE X i ty)(hs:NoSl i):PE X (.Subscript o i pos) (tKGet X.w X.K td ty):=by
 intro pins s σ H Q I h
 refine subD_of PySem.F.slot_dict_getitem.lookup hs (thn (ho pins s σ H _ I h) fun u s1 ⟨x,H1,I1,rx,q1⟩=>thn (hi pins s1 σ H1 _ I1 q1) fun iv s2 ⟨y,H2,I2,ry,a,kvs,k,v,ex,ey,d,l,q2⟩=>?_)
 subst ex ey
 obtain rfl:u=Value.ref a:=rx
 obtain⟨t,rfl⟩:=ry
 obtain⟨_,vs,rel,dd⟩:=d.dict I2
 obtain⟨w',hw,rw'⟩:=RelO.some_of (v:=v) (o:=valueAt vs k) (by rw[<- l];exact rel.val k)
 exact⟨dd.typeIs,wpAny_getItem_of (strKind_is X.prog X.w k t) dd.mapOf hw ⟨v,H2,I2.tok _,rw',q2⟩⟩
theorem pc_knotin (hi:PE X i ty)(ho:PE X o td):PC X .NotIn i o (tKNotIn X.w X.K ty td):=by
 intro pins s σ H Q I h
 refine thn (hi pins s σ H _ I h) fun iv s1 ⟨y,H1,I1,ry,q1⟩=>thn (ho pins s1 σ H1 _ I1 q1) fun u s2 hq9=>?_
 obtain⟨x,H2,I2,rx,a,kvs,k,ex,ey,d,q2⟩:=hq9
 subst ex ey
 obtain rfl:u=Value.ref a:=rx
 obtain⟨t,rfl⟩:=ry
 obtain⟨hd,vs,rel,dd⟩:=d.dict I2
 refine wpAny_notIn_of (strKind_is X.prog X.w k t) hd dd.mapOf ?_
 rw[<- (rel.val k).isSome_eq]
 exact⟨.bl (!(valV kvs k).isSome),H2,I2.tok _,rfl,q2⟩
end
end L2
namespace L2
open PySem PySem.Spec PyProof.Rows
section
variable {prog:Program} {w:World} {A:Around} {R:Result->Shared->Prop} {s:Shared}
theorem comp_loop {elt target iter:Expr}{ifs:List Expr}{scope:Scope}{pos:Pos}{it acc:Value}{env:Env}(I:Nat->Shared->Prop)
  (turn:∀n s,I n s->wpAny (model prog w) A (pyNext it) (fun r s1=>match r with
   |none=>R (.ok .next) s1
   |some v=>wpAny (model prog w) A (letOwnedTupleGo target it v) (fun _ s1'=>wpAny (model prog w) A (assign target env v) (fun _ s2=>
     wpAny (model prog w) A (forIn ifs true fun c r=>if r=true then do let ok ← isTrue c env (eval c env);pure (ForInStep.yield ok) else pure (ForInStep.yield r)) (fun ok s3=>
      if ok=true then wpAny (model prog w) A (eval elt env) (fun x s4=>
       wpAny (model prog w) A (call (.builtin "list.append") [acc,x]) (fun _ s5=>∃m,m<n/\I m s5) (fun _ _=>False) s4) (fun _ _=>False) s3
      else ∃m,m<n/\I m s3) (fun _ _=>False) s2) (fun _ _=>False) s1') (fun _ _=>False) s1) (fun _ _=>False) s)
  (n:Nat) (h:I n s):
  codeAny (model prog w) A (.compLoop (.ListComp elt [⟨target,iter,ifs,0⟩] scope pos) 0 it acc env) R s:=by
 refine codeAny_loop rfl I (fun n s hI=>?_) n h
 show wpAny _ A ((compTurn (.ListComp elt [⟨target,iter,ifs,0⟩] scope pos) 0 it acc env).onRaise (fun x=>do noteFrame x env;theTreesLotGoes x)) _ _ s
 refine wpAny_noted ?_
 rw[compTurn_list]
 refine wpAny_bind (wpAny_standAt (wpAny_bind (wpAny_mono (turn n s hI) (fun r s1 h1=>?_) fun _ _ f=>f.elim)))
 cases r with
 |none=>exact wpAny_pure h1
 |some v=>
  refine wpAny_bind (wpAny_mono h1 (fun _ s1' h1'=>?_) fun _ _ f=>f.elim)
  refine wpAny_bind (wpAny_mono h1' (fun _ s2 h2=>wpAny_bind (wpAny_mono h2 (fun ok s3 h3=>?_) fun _ _ f=>f.elim)) fun _ _ f=>f.elim)
  cases ok with
  |false=>exact wpAny_pure ⟨rfl,h3⟩
  |true=>
   exact wpAny_bind (wpAny_bind (wpAny_mono h3 (fun x s4 h4=>wpAny_bind (wpAny_mono h4 (fun _ s5 h5=>wpAny_pure (wpAny_pure ⟨rfl,h5⟩)) fun _ _ f=>f.elim)) fun _ _ f=>f.elim))
end
def clOf (env:Env):List (Str×NameKind)->List (Str×Addr)->List (Str×Addr)
 | [],cs=>cs
 | (n,k)::r,cs=>clOf env r (if (k==NameKind.free)=true then(match env.cells.lookup n with|some a=>(n,a)::cs|none=>cs) else cs)
theorem closure_loop {env:Env}{f:Str×NameKind->List (Str×Addr)->Sem (ForInStep (List (Str×Addr)))}
  (hf:∀n k cs,f (n,k) cs=if (k==NameKind.free)=true then(do let a ← cellOf env n;pure (.yield ((n,a)::cs))) else pure (.yield cs)):
  ∀(l:List (Str×NameKind)) (cs:List (Str×Addr)),(∀y∈l,y.2=.free->∃c,env.cells.lookup y.1=some c)->forIn l cs f=pure (clOf env l cs)
 | [],cs,_=>by rw[List.forIn_nil];rfl
 | (n,k)::r,cs,h=>by
  have hr:∀y∈r,y.2=.free->∃c,env.cells.lookup y.1=some c:=fun y hy=>h y (List.mem_cons_of_mem _ hy)
  rw[List.forIn_cons,hf]
  unfold clOf
  by_cases hk:(k==NameKind.free)=true
  ·obtain⟨c,hc⟩:=h (n,k) List.mem_cons_self (by simpa using hk)
   have hc':env.cells.lookup n=some c:=hc
   rw[if_pos hk,if_pos hk]
   simp only[cellOf,hc',pure_bind]
   exact closure_loop hf r _ hr
  ·rw[if_neg hk,if_neg hk,pure_bind]
   exact closure_loop hf r _ hr
theorem closure_eq {env:Env}{scope:Scope}(h:∀y∈scope.names,y.2=.free->∃c,env.cells.lookup y.1=some c):closureFor scope env=pure (clOf env scope.names []):=by
 simp only[closureFor]
 rw[closure_loop (env:=env) (fun n k cs=>by cases hk:k==NameKind.free<;>simp[hk]) scope.names [] h]
 rfl
theorem clOf_mem {env:Env}{x:Str}{c:Addr}:∀{l:List (Str×NameKind)} {cs:List (Str×Addr)},(∀z d,cs.lookup z=some d->env.cells.lookup z=some d)->(clOf env l cs).lookup x=some c->env.cells.lookup x=some c
 | [],_,hc,h=>hc _ _ h
 | (n,k)::r,cs,hc,h=>by
  unfold clOf at h
  refine clOf_mem (l:=r) ?_ h
  intro z d hz
  split at hz
  ·split at hz
   ·rename_i a ha
    rw[List.lookup_cons] at hz
    split at hz
    ·rename_i e
     have e':z=n:=by simpa using e
     subst e'
     rw[ha]
     exact hz
    ·exact hc z d hz
   ·exact hc z d hz
  ·exact hc z d hz
theorem clOf_get {env:Env}{x:Str}{c:Addr}(e:env.cells.lookup x=some c):∀{l:List (Str×NameKind)} {cs:List (Str×Addr)},(∀z d,cs.lookup z=some d->env.cells.lookup z=some d)→
  ((x,NameKind.free)∈l\/∃d,cs.lookup x=some d)->(clOf env l cs).lookup x=some c
 | [],cs,hc,h=>by
  rcases h with h|⟨d,h⟩
  ·simp at h
  ·have:=hc x d h
   rw[e] at this
   cases this
   exact h
 | (n,k)::r,cs,hc,h=>by
  unfold clOf
  have hc2:∀z d,(if (k==NameKind.free)=true then(match env.cells.lookup n with|some a=>(n,a)::cs|none=>cs) else cs).lookup z=some d->env.cells.lookup z=some d:=by
   intro z d hz
   split at hz
   ·split at hz
    ·rename_i a ha
     rw[List.lookup_cons] at hz
     split at hz
     ·rename_i e
      have e':z=n:=by simpa using e
      subst e'
      rw[ha]
      exact hz
     ·exact hc z d hz
    ·exact hc z d hz
   ·exact hc z d hz
  refine clOf_get e (l:=r) hc2 ?_
  have keep:∀d,cs.lookup x=some d->∃d,(if (k==NameKind.free)=true then(match env.cells.lookup n with|some a=>(n,a)::cs|none=>cs) else cs).lookup x=some d:=by
   intro d hd
   split
   ·split
    ·rename_i a ha
     rw[List.lookup_cons]
     split
     ·exact⟨_,rfl⟩
     ·exact⟨d,hd⟩
    ·exact⟨d,hd⟩
   ·exact⟨d,hd⟩
  rcases h with h|⟨d,h⟩
  ·rcases List.mem_cons.mp h with h|h
   ·have e1:x=n:=congrArg Prod.fst h
    have e2:k=NameKind.free:=(congrArg Prod.snd h).symm
    subst e1 e2
    refine .inr ⟨c,?_⟩
    rw[if_pos (by decide),e]
    simp[List.lookup_cons]
   ·exact .inl h
  ·exact .inr (keep d h)
theorem relabel_free {env:Env}:∀{names:List (Str×NameKind)} {x:Str} {k:NameKind},
  (names.map fun(n,k)=>if (k==NameKind.free&&env.scope.kind==.function&&env.kindOf n==some .cell) then(n,NameKind.cell) else(n,k)).lookup x=some k->(k=.cell\/k=.free)->(∀y∈names,y.2≠.cell)->names.lookup x=some .free
 | [],_,_,h,_,_=>by simp at h
 | (n,k0)::r,x,k,h,hk,hn=>by
  have ih:=@relabel_free env r x k
  have h':List.lookup x ((if (k0==NameKind.free&&env.scope.kind==.function&&env.kindOf n==some .cell)=true then(n,NameKind.cell) else(n,k0))::(r.map fun(n,k)=>if (k==NameKind.free&&env.scope.kind==.function&&env.kindOf n==some .cell) then(n,NameKind.cell) else(n,k)))=some k:=h
  cases hx:x==n with
  |true=>
   have go:List.lookup x ((n,k0)::r)=some k0:=by simp[List.lookup_cons,hx]
   rw[go]
   by_cases hc:(k0==NameKind.free&&env.scope.kind==.function&&env.kindOf n==some .cell)=true
   ·have:k0=NameKind.free:=by
     simp only[Bool.and_eq_true] at hc
     simpa using hc.1.1
    rw[this]
   ·rw[if_neg hc] at h'
    simp only[List.lookup_cons,hx] at h'
    cases h'
    rcases hk with hk|hk
    ·exact absurd hk (hn _ List.mem_cons_self)
    ·rw[hk]
  |false=>
   have go:List.lookup x ((n,k0)::r)=List.lookup x r:=by simp[List.lookup_cons,hx]
   rw[go]
   refine ih ?_ hk (fun y hy=>hn y (List.mem_cons_of_mem _ hy))
   by_cases hc:(k0==NameKind.free&&env.scope.kind==.function&&env.kindOf n==some .cell)=true
   ·rw[if_pos hc] at h'
    simp only[List.lookup_cons,hx] at h'
    exact h'
   ·rw[if_neg hc] at h'
    simp only[List.lookup_cons,hx] at h'
    exact h'
theorem relabel_of_free {env:Env}:∀{names:List (Str×NameKind)} {x:Str},names.lookup x=some .free→
  (names.map fun(n,k)=>if (k==NameKind.free&&env.scope.kind==.function&&env.kindOf n==some .cell) then(n,NameKind.cell) else(n,k)).lookup x=some .cell∨
  (names.map fun(n,k)=>if (k==NameKind.free&&env.scope.kind==.function&&env.kindOf n==some .cell) then(n,NameKind.cell) else(n,k)).lookup x=some .free
 | [],_,h=>by simp at h
 | (n,k0)::r,x,h=>by
  have ih:=@relabel_of_free env r x
  show List.lookup x ((if (k0==NameKind.free&&env.scope.kind==.function&&env.kindOf n==some .cell)=true then(n,NameKind.cell) else(n,k0))::_)=_\/List.lookup x ((if (k0==NameKind.free&&env.scope.kind==.function&&env.kindOf n==some .cell)=true then(n,NameKind.cell) else(n,k0))::_)=_
  cases hx:x==n with
  |true=>
   simp only[List.lookup_cons,hx] at h
   by_cases hc:(k0==NameKind.free&&env.scope.kind==.function&&env.kindOf n==some .cell)=true
   ·rw[if_pos hc]
    left
    simp only[List.lookup_cons,hx]
   ·rw[if_neg hc]
    right
    simp only[List.lookup_cons,hx]
    exact h
  |false=>
   simp only[List.lookup_cons,hx] at h
   by_cases hc:(k0==NameKind.free&&env.scope.kind==.function&&env.kindOf n==some .cell)=true
   ·rw[if_pos hc]
    simp only[List.lookup_cons,hx]
    exact ih h
   ·rw[if_neg hc]
    simp only[List.lookup_cons,hx]
    exact ih h
def blk (X:Cx)(N:List Str)(scope:Scope)(C:Addr)(s:Shared)(H:Hp)(ex:List Addr):Cx where
 prog:=X.prog
 w:=X.w
 K:=X.K
 mg:=X.mg
 base:=X.base
 A:=X.A
 N:=N
 s₀:=s
 H₀:=H
 env:=compEnvC scope (clOf X.env scope.names []) C X.env
 outer:=X.stack
 stack:=X.stack
 ex:=ex
 fn:=fun _=>false
 calm:=X.calm
 pn:=[]
 xe:=fun _ _=>False
structure BlkScope (sc:Scope)(N own cn:List Str)(ci:List Nat)(scope:Scope):Prop where
 kind:scope.kind=.function
 nocell:∀y∈scope.names,y.2≠.cell
 names:∀y∈scope.names,y.2=.local->scope.names.lookup y.1=some .local
 free:∀y∈scope.names,y.2=.free->sc.names.lookup y.1=some .cell\/sc.names.lookup y.1=some .free
 cap:(cn.map fun x=>(some x:Option Str))=ci.map fun i=>N[i]?
 capk:∀x∈cn,scope.names.lookup x=some .free
 nd:(own++cn).Nodup
theorem BlkScope.of {sc:Scope}{N own cn:List Str}{ci:List Nat}{scope:Scope}(h:scope.kind=.function/\(∀y∈scope.names,y.2≠.cell)/\(∀y∈scope.names,y.2=.local->scope.names.lookup y.1=some .local)/\(∀y∈scope.names,y.2=.free->sc.names.lookup y.1=some .cell\/sc.names.lookup y.1=some .free)/\(cn.map fun x=>(some x:Option Str))=(ci.map fun i=>N[i]?)/\(∀x∈cn,scope.names.lookup x=some .free)/\(own++cn).Nodup):BlkScope sc N own cn ci scope:=⟨h.1,h.2.1,h.2.2.1,h.2.2.2.1,h.2.2.2.2.1,h.2.2.2.2.2.1,h.2.2.2.2.2.2⟩
def blkS (own:List Str)(ci:List Nat)(σ:St):St:=own.map (fun _=>none)++ci.map fun i=>(σ[i]?).join
section
variable {X:Cx} {pins:List (Addr×Obj)} {σ:St} {H H2:Hp} {s s2:Shared} {sc:Scope} {N own cn:List Str} {ci:List Nat} {scope:Scope} {fp:List Addr}
theorem blk_cells (S:BlkScope sc N own cn ci scope)(hsc:X.env.scope=sc)(I:Inv X pins σ H s):∀y∈scope.names,y.2=.free->∃c,X.env.cells.lookup y.1=some c:=fun y hy hf=>by
 refine I.ok.has y.1 ?_
 have:=S.free y hy hf
 rw[<- hsc] at this
 exact this
theorem blk_inv (S:BlkScope sc N own cn ci scope)(hsc:X.env.scope=sc)(hN:X.N=N)(I:Inv X pins σ H s)(hfp:∀b∈fp,FpOk X pins H b)(hlt:∀b∈fp,b<s.heap.objs.size){h1:Heap}{tk:Nat}{m:Str->Option Value}
  (hns:h1.Ns s.heap.objs.size m) (keep:∀b o,s.heap.get? b=some o->h1.get? b=some o):
  Inv (blk X (own++cn) scope s.heap.objs.size s H fp) [] (blkS own ci σ) H { s with heap:=h1,toks:=tk }:=by
 have ccl:∀x c,(clOf X.env scope.names []).lookup x=some c->X.env.cells.lookup x=some c:=fun x c e=>clOf_mem (fun z d h=>by simp at h) e
 have cnl:cn.length=ci.length:=by have:=congrArg List.length S.cap;simpa using this
 refine⟨⟨I.ok.mod,?_,I.ok.glob,I.ok.blt,Nat.le_refl _,fun x y c e1 e2=>I.ok.inj x y c (ccl x c e1) (ccl y c e2),fun x hx=>?_,fun x c hf _=>?_,I.ok.hd,I.ok.frames,.inl rfl,fun b hb=>⟨Nat.ne_of_lt (hlt b hb),fun x c e=>(hfp b hb).2.2.2.2.1 x c (ccl x c e)⟩,I.bs,Nat.le_trans I.ok.bsz I.sz,fun b o e hb=>?_,fun b hb hb2=>?_,I.stack,I.stkFree⟩,
  rfl,I.bare,Un.kept keep,⟨m,hns,fun i x v e1 e2 e3=>?_⟩,fun x c e=>?_,I.hok.fresh (Nat.le_refl _),fun x c e=>I.freeC x c (ccl x c e),fun p hp=>absurd (show p∈([]:List (Addr×Obj)) from hp) (by simp),I.hok.kept keep,?_⟩
 ·exact S.kind
 ·have hx':(relabel scope X.env).names.lookup x=some .cell\/(relabel scope X.env).names.lookup x=some .free:=hx
  have hfree:scope.names.lookup x=some .free:=by
   rcases hx' with q|q
   ·exact relabel_free q (.inl rfl) S.nocell
   ·exact relabel_free q (.inr rfl) S.nocell
  have hm:=PySem.mem_of_lookup hfree
  obtain⟨c,hc⟩:=blk_cells S hsc I _ hm rfl
  exact⟨c,clOf_get hc (fun z d h=>by simp at h) (.inl hm)⟩
 ·exact absurd hf (by show ¬(false=true);decide)
 ·rcases(hfp b hb).2.2.2.1 with z|z
  ·exact I.ok.noex b o e z
  ·exact absurd (Nat.lt_of_lt_of_le (Heap.lt_size (I.ok.bs b o e).1) z) (Nat.lt_irrefl _)
 ·rcases List.mem_cons.mp (I.stkSub b hb2) with z|z
  ·exact(hfp b hb).2.1 z
  ·exact(hfp b hb).2.2.1 z
 ·have e1':(own++cn)[i]?=some x:=e1
  unfold blkS at e2
  by_cases hi:i<own.length
  ·rw[List.getElem?_append_left (by simpa using hi),List.getElem?_map] at e2
   cases q:own[i]? with
   |none=>rw[q] at e2;cases e2
   |some z=>rw[q] at e2;cases e2
  ·rw[List.getElem?_append_right (by simpa using hi)] at e2
   rw[List.getElem?_append_right (by omega)] at e1'
   rw[List.length_map,List.getElem?_map] at e2
   cases q:ci[i-own.length]? with
   |none=>rw[q] at e2;cases e2
   |some j=>
    rw[q] at e2
    have e2':(σ[j]?).join=some v:=Option.some.inj e2
    have e3':σ[j]?=some (some v):=by
     cases z:σ[j]? with
     |none=>rw[z] at e2';cases e2'
     |some o=>rw[z] at e2';exact congrArg some e2'
    have hNj:X.N[j]?=some x:=by
     have c1:=congrArg (fun l=>l[i-own.length]?) S.cap
     simp only[List.getElem?_map,e1',q,Option.map_some] at c1
     rw[hN]
     exact(Option.some.inj c1).symm
    have hfree:=S.capk x (List.mem_of_getElem? e1')
    have hm:=PySem.mem_of_lookup hfree
    have hk:=S.free _ hm rfl
    rw[<- hsc] at hk
    have hvis:Vis X.env.scope x:=.inr hk
    obtain⟨m0,_,hl⟩:=I.loc
    obtain⟨u,r,l⟩:=hl j x v hNj e3' hvis
    refine⟨u,r,.inr ⟨relabel_of_free hfree,?_⟩⟩
    rcases l with⟨l,_⟩|⟨_,c,ec,z⟩
    ·have l':X.env.scope.names.lookup x=some .local:=l
     rcases hk with hk|hk<;>(rw[hk] at l';cases l')
    ·refine⟨c,clOf_get ec (fun z d h=>by simp at h) (.inl hm),?_⟩
     obtain⟨o,ho,hd⟩:=z
     exact⟨o,keep c o ho,hd⟩
 ·obtain⟨v,o,ho,hd⟩:=I.cell x c (ccl x c e)
  exact⟨v,o,keep c o ho,hd⟩
 ·show(blkS own ci σ).length=(own++cn).length
  unfold blkS
  rw[List.length_append,List.length_append,List.length_map,List.length_map,cnl]
end
def PTs (X:Cx)(ifs:List Expr)(t:TT):Prop:=
 ∀(pins:List (Addr×Obj)) (s:Shared) (σ:St) (H:Hp) (Q:Bool->Hp->Prop),Inv X pins σ H s->t σ H Q→
  wpAny (model X.prog X.w) X.A (forIn ifs true fun c r=>if r=true then do let ok ← isTrue c X.env (eval c X.env);pure (ForInStep.yield ok) else pure (ForInStep.yield r)) (TP X pins σ Q) X.xe s
def tTrue:TT:=fun _ H Q=>Q true H
theorem pts_nil {X:Cx}:PTs X [] tTrue:=fun _ _ _ H _ I h=>wpAny_tests_nil ⟨H,I,h⟩
theorem pts_one {X:Cx}{c:Expr}{t:TT}(h:PT X c t):PTs X [c] t:=fun pins s σ H Q I q=>wpAny_tests_one (h pins s σ H Q I q)
def LcW (J:It)(g:TG)(tt:TT)(te:TE)(D:Addr)(Q:Hp->Prop)(W:Nat->Nat->St->Hp->Prop):Prop:=∀i m σ H,W i m σ H→
 (J.stop i H/\Q H)\/(J.go i H/\∀x H1,J.yld i H x H1->g x σ H1 fun σ2 H2=>tt σ2 H2 fun ok H3=>if ok=true then te σ2 H3 fun y H4=>∃ys,H4 D=some (.lst ys)/\ys.length<sizeLine∧
  ∃m',m'<m/\W (i+1) m' σ2 (upd H4 D (.lst (ys++[y]))) else ∃m',m'<m/\W (i+1) m' σ2 H3)
def tLC (own:List Str)(ci:List Nat)(wi:TI)(g:TG)(tt:TT)(te:TE):TE:=fun σ H Q=>wi σ H fun J H1=>∀D,H1 D=none→
 ∃W:Nat->Nat->St->Hp->Prop,(∃m,W 0 m (blkS own ci σ) (upd H1 D (.lst [])))/\LcW J g tt te D (Q (.ref D)) W
section
variable {X:Cx} {pins:List (Addr×Obj)} {σ:St} {H H2:Hp} {s s2:Shared} {sc:Scope} {N own cn:List Str} {ci:List Nat} {scope:Scope} {fp:List Addr}
 {elt tg iter:Expr} {ifs:List Expr} {pos:Pos} {g:TG} {tt:TT} {te:TE} {wi:TI}
theorem lc_block {it:Addr}{tn:Nat->Heap->Prop}{J:It}{Q:VK}{E:Value->Shared->Prop}{RR:Value->Addr->Result->Shared->Prop}(S:BlkScope sc N own cn ci scope)(hsc:X.env.scope=sc)(hN:X.N=N)(hc:X.calm=true)
  (I2:Inv X pins σ H2 s2) (T:Turn X.prog X.w X.K tg J fp it tn) (st2:tn 0 s2.heap) (f2:∀b∈fp,FpOk X pins H2 b)
  (hg:∀C s H,PG (blk X (own++cn) scope C s H fp) tg g) (ht:∀C s H,PTs (blk X (own++cn) scope C s H fp) ifs tt) (he:∀C s H,PE (blk X (own++cn) scope C s H fp) elt te)
  (q:∀D,H2 D=none->∃W:Nat->Nat->St->Hp->Prop,(∃m,W 0 m (blkS own ci σ) (upd H2 D (.lst [])))/\LcW J g tt te D (Q (.ref D)) W)
  (hRR:∀D C H' s',Inv X pins σ H' s'->Q (.ref D) H'->(∃m,s'.heap.Ns C m)->FpOk X pins H' C->RR (.ref D) C (.ok .next) s'):
  wpAny (model X.prog X.w) X.A (newList []) (fun acc s3=>wpAny (model X.prog X.w) X.A (newFunctionEnv scope X.env.globals (clOf X.env scope.names []) [] X.env.qual none .none (some X.env)) (fun cenv s4=>
   codeAny (model X.prog X.w) X.A (.compStart (.ListComp elt [⟨tg,iter,ifs,0⟩] scope pos) 0 (.ref it) acc { cenv with scope:=relabel scope X.env }) (RR acc cenv.locals) s4) E s3) E s2:=by
 refine wpAny_newObj_type (wpAny_newFunctionEnv S.nocell (by intro y hy;simp at hy) (fun h1 hns1 hsb1=>?_) S.kind)
 dsimp only at hns1 hsb1 ⊢
 have I3:Inv X pins σ (upd H2 s2.heap.objs.size (.lst [])) { s2 with heap:=s2.heap.push { cls:=.type "list",data:=.seq ([]:List Value).toArray },toks:=s2.toks }:=I2.lnew (its:=[]) (t':=s2.toks) .nil (Nat.zero_le _)
 have hD:H2 s2.heap.objs.size=none:=I2.hok.fresh (Nat.le_refl _)
 have fpe:∀b∈fp,b<s2.heap.objs.size:=fun b hb=>by
  obtain⟨o,e,_⟩:=T.obj _ _ st2 b hb
  exact Heap.lt_size e
 have f3:∀b∈fp,FpOk X pins (upd H2 s2.heap.objs.size (.lst [])) b:=fun b hb=>⟨by rw[upd_ne (Nat.ne_of_lt (fpe b hb))];exact(f2 b hb).1,(f2 b hb).2⟩
 obtain⟨W,⟨m0,w0⟩,turn⟩:=q s2.heap.objs.size hD
 generalize hs3:({ s2 with heap:=s2.heap.push { cls:=.type "list",data:=.seq ([]:List Value).toArray },toks:=s2.toks }:Shared)=s3 at I3
 have e3:s3.heap=s2.heap.push { cls:=.type "list",data:=.seq ([]:List Value).toArray }:=by rw[<- hs3]
 have hsz3:s3.heap.objs.size=s2.heap.objs.size+1:=by rw[e3,Heap.size_push]
 have keep3:∀b o,s2.heap.get? b=some o->s3.heap.get? b=some o:=fun b o e=>by rw[e3];exact Heap.get?_push_of_some _ e
 have keep:∀b o,s3.heap.get? b=some o->h1.get? b=some o:=fun b o e=>by
  refine hsb1.extBut b o ?_ (Heap.get?_push_of_some _ (by rw[<- e3];exact e))
  have:=Heap.lt_size e
  rw[e3] at this
  exact Nat.ne_of_lt this
 have hns:h1.Ns s3.heap.objs.size (fun x=>([]:List (Str×Value)).reverse.lookup x):=by rw[e3];exact hns1
 have I4:=blk_inv (fp:=fp) (tk:=s2.toks+([]:List (Str×Value)).length) S hsc hN I3 f3 (fun b hb=>by rw[hsz3];exact Nat.lt_succ_of_lt (fpe b hb)) hns keep
 have st4:tn 0 h1:=T.keep _ _ _ st2 fun b hb o e=>keep b o (keep3 b o e)
 have hC:(s2.heap.push { cls:=.type "list",data:=.seq ([]:List Value).toArray }).objs.size=s3.heap.objs.size:=by rw[e3]
 have stat:∀{H':Hp},(∀b∈fp,H' b=none)->∀b∈fp,FpOk (blk X (own++cn) scope s3.heap.objs.size s3 (upd H2 s2.heap.objs.size (.lst [])) fp) [] H' b:=fun hn b hb=>
  ⟨hn b hb,Nat.ne_of_lt (by rw[hsz3];exact Nat.lt_succ_of_lt (fpe b hb)),fun z=>I4.ok.exfs b hb z,.inl hb,(I4.ok.exf b hb).2,fun p hp=>absurd (show p∈([]:List (Addr×Obj)) from hp) (by simp)⟩
 have loop:∀s4:Shared,s4={ s3 with heap:=h1,toks:=s2.toks+([]:List (Str×Value)).length }→
   codeAny (model X.prog X.w) X.A (.compLoop (.ListComp elt [⟨tg,iter,ifs,0⟩] scope pos) 0 (.ref it) (.ref s2.heap.objs.size) (compEnvC scope (clOf X.env scope.names []) s3.heap.objs.size X.env)) (RR (.ref s2.heap.objs.size) s3.heap.objs.size) s4:=by
  rintro s4 rfl
  refine comp_loop (fun n s'=>∃i σ' H',Inv (blk X (own++cn) scope s3.heap.objs.size s3 (upd H2 s2.heap.objs.size (.lst [])) fp) [] σ' H' s'/\tn i s'.heap/\(∀b∈fp,H' b=none)/\W i n σ' H') ?_ m0
   ⟨0,_,_,I4,st4,fun b hb=>(f3 b hb).1,w0⟩
  rintro n s5 ⟨i,σ5,H5,I5,st5,fr5,w5⟩
  rcases turn i n σ5 H5 w5 with⟨stop,qn⟩|⟨go,step⟩
  ·refine thn (T.done (blk X (own++cn) scope s3.heap.objs.size s3 (upd H2 s2.heap.objs.size (.lst [])) fp) rfl rfl rfl hc i [] s5 σ5 H5 (fun _ _=>False) I5 (stat fr5) st5 stop) fun r s6 hq9=>?_
   obtain⟨hr,I6⟩:=hq9
   subst hr
   refine hRR _ _ H5 s6 (I3.call' I6.os I6.base I6.hok I6.bare fun b hb=>⟨(f3 b hb).2.2.2.1,(f3 b hb).2.1,(f3 b hb).2.2.2.2.1,(f3 b hb).2.2.2.2.2⟩) qn (let ⟨m,hn,_⟩:=I6.loc;⟨m,hn⟩) (I3.fpOk (Nat.le_refl _) I6.free)
  ·refine thn (T.item (blk X (own++cn) scope s3.heap.objs.size s3 (upd H2 s2.heap.objs.size (.lst [])) fp) rfl rfl rfl hc i [] s5 σ5 H5 (fun _ _=>False) I5 (stat fr5) st5 go) fun r s6 hq9=>?_
   obtain⟨u,hr,h6⟩:=hq9
   subst hr
   refine thn h6 fun _ s7 hq9=>?_
   obtain⟨x,H7,I7,r7,y7,st7,fr7⟩:=hq9
   have I7':=I7.pinned (stat fr7) (T.obj _ _ st7)
   refine thn (hg _ _ _ _ s7 σ5 H7 x u _ I7' r7 (step x H7 y7)) fun _ s8 hq9=>?_
   obtain⟨σ8,H8,I8,q8⟩:=hq9
   refine thn (ht _ _ _ _ s8 σ8 H8 _ I8 q8) fun ok s9 hq9=>?_
   obtain⟨H9,I9,q9⟩:=hq9
   have again:∀{H':Hp} {s':Shared} {m':Nat},Inv (blk X (own++cn) scope s3.heap.objs.size s3 (upd H2 s2.heap.objs.size (.lst [])) fp) ([]++pinsAt fp s7.heap) σ8 H' s'->W (i+1) m' σ8 H'→
     ∃i σ' H',Inv (blk X (own++cn) scope s3.heap.objs.size s3 (upd H2 s2.heap.objs.size (.lst [])) fp) [] σ' H' s'/\tn i s'.heap/\(∀b∈fp,H' b=none)/\W i m' σ' H':=fun {H' s' m'} I' w'=>by
    refine⟨i+1,σ8,H',I'.unpinned,T.keep _ _ _ st7 fun b hb o e=>(I'.pin (b,o) (List.mem_append_right _ (List.mem_append_right _ (mem_pinsAt hb e)))).1,fun b hb=>?_,w'⟩
    obtain⟨o,e,_⟩:=T.obj _ _ st7 b hb
    exact(I'.pin (b,o) (List.mem_append_right _ (List.mem_append_right _ (mem_pinsAt hb e)))).2.1
   cases ok with
   |false=>
    obtain⟨m',hm,w'⟩:=q9
    exact⟨m',hm,again I9 w'⟩
   |true=>
    refine thn (he _ _ _ _ s9 σ8 H9 _ I9 q9) fun v s10 hq9=>?_
    obtain⟨y,H10,I10,r10,ys,hDl,hz,m',hm,w'⟩:=hq9
    refine thn (mt_append _ s10 σ8 H10 (.ref s2.heap.objs.size) [y] (.ref s2.heap.objs.size) [v] (fun _ H11=>H11=upd H10 s2.heap.objs.size (.lst (ys++[y]))) I10 rfl (.cons r10 .nil) ⟨_,ys,y,rfl,rfl,hDl,hz,rfl⟩) fun _ s11 hq9=>?_
    obtain⟨_,H11,I11,_,e11⟩:=hq9
    subst e11
    exact⟨m',hm,again I11 w'⟩
 have es:({ s2 with heap:=h1,toks:=s2.toks+([]:List (Str×Value)).length }:Shared)={ s3 with heap:=h1,toks:=s2.toks+([]:List (Str×Value)).length }:=by rw[<- hs3]
 rw[hC]
 exact codeAny_compStart_list (loop _ es) (T.self _ 0 _ _ _ st4 (loop _ es))
theorem pe_lc (S:BlkScope sc N own cn ci scope)(hsc:X.env.scope=sc)(hN:X.N=N)(hc:X.calm=true)(hi:PI X tg iter wi)
  (hg:∀fp C s H,PG (blk X (own++cn) scope C s H fp) tg g) (ht:∀fp C s H,PTs (blk X (own++cn) scope C s H fp) ifs tt) (he:∀fp C s H,PE (blk X (own++cn) scope C s H fp) elt te)
  (hs:∀x,foldedSetIterable iter X.env x=pure x:=by intro _;rfl):PE X (.ListComp elt [⟨tg,iter,ifs,0⟩] scope pos) (tLC own ci wi g tt te):=by
 intro pins s σ H Q I h
 rw[eval_ListComp]
 refine wpAny_comprehension_free (use:=none) rfl hs (closure_eq (blk_cells S hsc I)) S.kind S.names (thn (hi pins s σ H _ I h) fun xv s1 h1=>thn h1 fun itv s2 h2=>?_)
 obtain⟨it,fp,tn,J,H2,e,I2,T,st2,f2,q⟩:=h2
 subst e
 refine lc_block (RR:=fun acc C=>compPost (model X.prog X.w) X.A X.xe none (EP X pins σ Q) acc C) S hsc hN hc I2 T st2 f2 (hg fp) (ht fp) (he fp) q ?_
 intro D C H' s' I' q' ⟨m,hn⟩ fC
 exact⟨m,hn,fun h' hs'=>⟨.ref D,H',I'.turned (t':=s'.toks) (fun b o hb e=>(hs'.2 b hb).trans e) fC.1 (Ne.symm (Ne.symm fC.2.1)) fC.2.2.2.1 fC.2.2.2.2.1 fC.2.2.2.2.2,rfl,q'⟩⟩
end
theorem lc_range {lo:Int}{n:Nat}{caps:St}{tt:TT}{te:TE}{D:Addr}{Q:Hp->Prop}{H1:Hp}(Pv:Nat->List V->Hp->Prop)(hz:n<=sizeLine)(h0:Pv 0 [] (upd H1 D (.lst [])))(hl:∀i ys H,Pv i ys H->ys.length<=i)
  (hs:∀i ys H (N:VK) (M:Hp->Prop),i<n->Pv i ys H->(∀y H4,H4 D=some (.lst ys)->Pv (i+1) (ys++[y]) (upd H4 D (.lst (ys++[y])))->N y H4)->(∀H3,Pv (i+1) ys H3->M H3)→
   tt (some (.int (lo+i))::caps) H fun ok H3=>if ok=true then te (some (.int (lo+i))::caps) H3 N else M H3)
  (hd:∀ys H,Pv n ys H->Q H):∃W:Nat->Nat->St->Hp->Prop,(∃m,W 0 m (none::caps) (upd H1 D (.lst [])))/\LcW (Itr lo n) (gName 0) tt te D Q W:=by
 refine⟨fun i m σ H=>m=n-i/\i<=n/\(∃v,σ=v::caps)/\∃ys,Pv i ys H,⟨n,by simp,Nat.zero_le _,⟨none,rfl⟩,[],h0⟩,?_⟩
 rintro i m σ H ⟨rfl,hi,⟨v,rfl⟩,ys,p⟩
 have hy:=hl i ys H p
 by_cases hlt:i<n
 ·refine .inr ⟨hlt,fun x H1 y=>?_⟩
  obtain⟨e,y⟩:=y
  subst e y
  refine hs i ys _ _ _ hlt p (fun y H4 a c=>⟨ys,a,by omega,n-(i+1),by omega,rfl,hlt,⟨_,rfl⟩,_,c⟩) (fun H3 c=>⟨n-(i+1),by omega,rfl,hlt,⟨_,rfl⟩,ys,c⟩)
 ·have e:i=n:=by omega
  subst e
  exact .inl ⟨Nat.le_refl _,hd ys H p⟩
theorem lc_list {K:W.Frag}{a:Addr}{xs:List V}{caps:St}{tt:TT}{te:TE}{D:Addr}{Q:Hp->Prop}{H1:Hp}(Pv:Nat->List V->Hp->Prop)(hz:xs.length<=sizeLine)(h0:Pv 0 [] (upd H1 D (.lst [])))(hl:∀i ys H,Pv i ys H->ys.length<=i)(hq:∀i ys H,Pv i ys H->SqL K H a xs)
  (hs:∀i ys H (x:V) (N:VK) (M:Hp->Prop),xs[i]?=some x->Pv i ys H->(∀y H4,H4 D=some (.lst ys)->Pv (i+1) (ys++[y]) (upd H4 D (.lst (ys++[y])))->N y H4)->(∀H3,Pv (i+1) ys H3->M H3)→
   tt (some x::caps) H fun ok H3=>if ok=true then te (some x::caps) H3 N else M H3)
  (hd:∀ys H,Pv xs.length ys H->Q H):∃W:Nat->Nat->St->Hp->Prop,(∃m,W 0 m (none::caps) (upd H1 D (.lst [])))/\LcW (Itl K a) (gName 0) tt te D Q W:=by
 refine⟨fun i m σ H=>m=xs.length-i/\i<=xs.length/\(∃v,σ=v::caps)/\∃ys,Pv i ys H,⟨xs.length,by simp,Nat.zero_le _,⟨none,rfl⟩,[],h0⟩,?_⟩
 rintro i m σ H ⟨rfl,hi,⟨v,rfl⟩,ys,p⟩
 have hy:=hl i ys H p
 by_cases hlt:i<xs.length
 ·refine .inr ⟨⟨xs,xs[i],hq i ys H p,by simp[hlt]⟩,fun x H1 y=>?_⟩
  obtain⟨e,y⟩:=y
  subst e
  have hx:=y xs (hq i ys _ p)
  refine hs i ys _ x _ _ hx p (fun y H4 a c=>⟨ys,a,by omega,xs.length-(i+1),by omega,rfl,hlt,⟨_,rfl⟩,_,c⟩) (fun H3 c=>⟨xs.length-(i+1),by omega,rfl,hlt,⟨_,rfl⟩,ys,c⟩)
 ·have e:i=xs.length:=by omega
  subst e
  exact .inl ⟨⟨xs,hq _ ys H p,Nat.le_refl _⟩,hd ys H p⟩
end L2
namespace L2
open PySem PySem.Spec PyProof.Rows
section
variable {X:Cx}
theorem call_isinst:CallR X (.builtin "isinstance") (fun xs H Q=>∃x n t b,xs=[x,.ty n]/\TyOf X.K H x t/\W.kitOne X.K t (.type n)=some b/\Q (.bl b) H):=by
 intro pins s σ H xs us Q I r h
 obtain⟨x,n,t,b,rfl,ty,e,q⟩:=h
 obtain⟨u,v,rfl,rx,ry⟩:=r.two
 cases(show v=Value.type n from ry)
 exact isinst_ok I rx ty e fun tk=>⟨.bl b,H,I.tok tk,rfl,q⟩
def eqsV:List V->List V->Bool
 | [],[]=>true
 |x::xs,y::ys=>eqV x y&&eqsV xs ys
 |_,_=>false
theorem eqsV_range:∀(xs ys:List V),xs.length=ys.length->((List.range xs.length).all fun i=>eqV (xs.getD i .non) (ys.getD i .non))=eqsV xs ys
 | [],[],_=>rfl
 |x::xs,y::ys,h=>by
  have h':xs.length=ys.length:=by simpa using h
  rw[List.length_cons,List.range_succ_eq_map,List.all_cons,List.all_map]
  have e:=eqsV_range xs ys h'
  show(eqV x y&&(List.range xs.length).all fun i=>eqV (xs.getD i .non) (ys.getD i .non))=(eqV x y&&eqsV xs ys)
  rw[e]
theorem eqsV_len:∀(xs ys:List V),xs.length≠ys.length->eqsV xs ys=false
 | [],[],h=>absurd rfl h
 | [],_::_,_=>rfl
 |_::_,[],_=>rfl
 |x::xs,y::ys,h=>by
  have e:=eqsV_len xs ys (by simpa using h)
  show(eqV x y&&eqsV xs ys)=false
  rw[e,Bool.and_false]
theorem items_eqAt {A:Around}{s:Shared}{xs ys:List V}{us ws:List Value}(rx:Vals xs us)(ry:Vals ys ws)(fx:xs.all flatV=true)(fy:ys.all flatV=true):
  ∀j (h1:j<us.toArray.size) (h2:j<ws.toArray.size),SeqAt.EqAt A.in1 s us.toArray[j] ws.toArray[j] (eqV (xs.getD j .non) (ys.getD j .non)):=by
 intro j h1 h2
 have l1:=rx.length
 have l2:=ry.length
 have h1':j<xs.length:=by rw[l1];simpa using h1
 have h2':j<ys.length:=by rw[l2];simpa using h2
 obtain⟨u,eu,ru⟩:=rx.get (i:=j) (x:=xs[j]) (by simp[h1'])
 obtain⟨v,ev,rv⟩:=ry.get (i:=j) (x:=ys[j]) (by simp[h2'])
 have e1:us.toArray[j]=u:=by
  have:=List.getElem?_eq_some_iff.mp eu
  obtain⟨_,q⟩:=this
  simpa using q
 have e2:ws.toArray[j]=v:=by
  have:=List.getElem?_eq_some_iff.mp ev
  obtain⟨_,q⟩:=this
  simpa using q
 have d1:xs.getD j .non=xs[j]:=by simp[List.getD,h1']
 have d2:ys.getD j .non=ys[j]:=by simp[List.getD,h2']
 rw[e1,e2,d1,d2]
 exact eqAt_V ru rv (List.all_eq_true.mp fx _ (List.getElem_mem h1')) (List.all_eq_true.mp fy _ (List.getElem_mem h2'))
def rEqL (K:W.Frag):R2:=fun x y H Q=>∃a b xs ys,x=.ref a/\y=.ref b/\SqL K H a xs/\SqL K H b ys/\xs.all flatV=true/\ys.all flatV=true/\Q (.bl (eqsV xs ys)) H
theorem op_eqL (hu:X.A.units<cLine):OpR X (compareOp .Eq) (rEqL X.K):=by
 intro pins s σ H x y v u Q I rx ry h
 obtain⟨a,b,xs,ys,rfl,rfl,ha,hb,fx,fy,q⟩:=h
 cases rx
 cases ry
 obtain⟨us,ru,pu,_⟩:=I.list ha
 obtain⟨ws,rw',pw,_⟩:=I.list hb
 have l1:=ru.length
 have l2:=rw'.length
 by_cases hl:xs.length=ys.length
 ·refine SeqAt.eq_listAt pu.isList pw.isList (by simp;omega) hu (items_eqAt ru rw' fx fy) ?_
  refine fin_bl I q ?_
  rw[List.size_toArray,<- l1]
  exact(eqsV_range xs ys hl).symm
 ·refine SeqAt.eq_list_lengthsAt pu.isList pw.isList (by simp;omega) hu ?_
  exact fin_bl I q (eqsV_len xs ys hl)
theorem Same.upd_free {H H':Hp}{a:Addr}{o:HO}(s:Same H H')(n:H a=none):Same H (upd H' a o):=fun b u e=>by
 rw[upd_ne (ne_of_none e n)]
 exact s b u e
def tCut (t:TS):TS:=fun D σ H=>∃M:St->Hp->Prop,t { D with nx:=M } σ H/\∀σ' H',M σ' H'->D.nx σ' H'
theorem ps_cut {st:Stmt}{t:TS}(h:PS X st t):PS X st (tCut t):=by
 intro pins s σ H D I ⟨M,h1,h2⟩
 refine thn (h pins s σ H _ I h1) fun f s' q=>?_
 cases f with
 |next=>
  obtain⟨σ',H',I',m⟩:=q
  exact⟨σ',H',I',h2 _ _ m⟩
 |brk=>exact q
 |cont=>exact q
 |ret u=>exact q
theorem small9 {n:Nat}(h:n<=100000):n<sizeLine:=Nat.lt_of_le_of_lt h (by decide)
end
end L2
namespace L2
open PySem PySem.Spec PyProof.Rows
mutual
inductive DAt (K:W.Frag) (H:Hp):V->PyData->Prop
 |non:DAt K H .non .none
 |bl (b:Bool):DAt K H (.bl b) (.bool b)
 |int (i:Int):DAt K H (.int i) (.int i)
 |str (x:Str):DAt K H (.str x) (.str x)
 |lst {a:Addr} {xs:List V} {ds:List PyData}:SqL K H a xs->DsAt K H xs ds->DAt K H (.ref a) (.list ds)
 |tup {a:Addr} {xs:List V} {ds:List PyData}:SqT K H a xs->DsAt K H xs ds->DAt K H (.ref a) (.tuple ds)
inductive DsAt (K:W.Frag) (H:Hp):List V->List PyData->Prop
 |nil:DsAt K H [] []
 |cons {x:V} {d:PyData} {xs:List V} {ds:List PyData}:DAt K H x d->DsAt K H xs ds->DsAt K H (x::xs) (d::ds)
end
section
variable {X:Cx} {pins:List (Addr×Obj)} {σ:St} {H:Hp} {s:Shared}
mutual
theorem DAt.reads (I:Inv X pins σ H s):∀{x:V} {d:PyData} {u:Value},DAt X.K H x d->RelV x u->∃as,Reads s.heap u d as
 |_,_,_,.non,r=>by
  cases r
  exact⟨_,.none⟩
 |_,_,_,.bl b,r=>by
  cases r
  exact⟨_,.bool b⟩
 |_,_,_,.int i,r=>by
  obtain⟨t,rfl⟩:=r
  exact⟨_,.int i t⟩
 |_,_,_,.str x,r=>by
  obtain⟨t,rfl⟩:=r
  exact⟨_,.str x t⟩
 |_,_,_,.lst hq ds,r=>by
  cases r
  obtain⟨its,rv,p,_⟩:=I.list hq
  obtain⟨as,ra⟩:=DsAt.reads I ds rv
  obtain⟨o,h1,h2,n,h3⟩:=p.isList
  exact⟨_,.list h1 h2 h3 (by simpa using ra)⟩
 |_,_,_,.tup hq ds,r=>by
  cases r
  obtain⟨its,rv,p,_⟩:=I.tuple hq
  obtain⟨as,ra⟩:=DsAt.reads I ds rv
  obtain⟨o,h1,h2,n,h3⟩:=p
  exact⟨_,.tuple h1 h2 h3 (by simpa using ra)⟩
theorem DsAt.reads (I:Inv X pins σ H s):∀{xs:List V} {ds:List PyData} {us:List Value},DsAt X.K H xs ds->Vals xs us->∃as,ReadsAll s.heap us ds as
 |_,_,_,.nil,r=>by
  cases r
  exact⟨_,.nil⟩
 |_,_,_,.cons d ds,r=>by
  cases r with
  |cons r rs=>
   obtain⟨as,ra⟩:=DAt.reads I d r
   obtain⟨bs,rb⟩:=DsAt.reads I ds rs
   exact⟨_,.cons ra rb⟩
end
def DOk (d:PyData):Prop:=d.canLay0=true/\d.depth<=40
def rEqD (K:PySem.W.Frag)(neg:Bool):R2:=fun x y H Q=>∃dx dy,DAt K H x dx/\DAt K H y dy/\DOk dx/\DOk dy/\Q (.bl (if neg then !PyData.eqv dx dy else PyData.eqv dx dy)) H
theorem op_eqD (hu:X.A.units+64<cLine):OpR X (compareOp .Eq) (rEqD X.K false):=by
 intro pins s σ H x y v u Q I rx ry h
 obtain⟨dx,dy,ax,ay,okx,oky,q⟩:=h
 obtain⟨as,r1⟩:=ax.reads I rx
 obtain⟨bs,r2⟩:=ay.reads I ry
 refine SeqAt.compareEq_reads r1 r2 okx.1 oky.1 ?_ (fin_bl I q rfl)
 have h1:=okx.2
 have h2:min dx.depth dy.depth<=dx.depth:=Nat.min_le_left _ _
 omega
theorem op_neD (hu:X.A.units+64<cLine):OpR X (compareOp .NotEq) (rEqD X.K true):=by
 intro pins s σ H x y v u Q I rx ry h
 obtain⟨dx,dy,ax,ay,okx,oky,q⟩:=h
 obtain⟨as,r1⟩:=ax.reads I rx
 obtain⟨bs,r2⟩:=ay.reads I ry
 refine SeqAt.compareNe_reads r1 r2 okx.1 oky.1 ?_ (fin_bl I q rfl)
 have h1:=okx.2
 have h2:min dx.depth dy.depth<=dx.depth:=Nat.min_le_left _ _
 omega
def rInD (K:PySem.W.Frag)(neg:Bool):R2:=fun x y H Q=>∃p xs dx ds,y=.ref p/\(SqL K H p xs\/SqT K H p xs)/\DsAt K H xs ds/\DAt K H x dx/\DOk dx/\PyData.canLayAll0 ds=true∧
 Q (.bl (if neg then !(ds.any fun d=>PyData.eqv d dx) else ds.any fun d=>PyData.eqv d dx)) H
theorem in_room {a b c:Nat}(hu:a+64<c)(h:b<=40)(k:Nat):a+1+min k b<c:=by
 have h2:min k b<=b:=Nat.min_le_right _ _
 omega
theorem op_inD (hu:X.A.units+64<cLine):OpR X (compareOp .In) (rInD X.K false):=by
 intro pins s σ H x y v u Q I rx ry h
 obtain⟨p,xs,dx,ds,rfl,hp,ad,ax,okx,okd,q⟩:=h
 obtain⟨bs,r2⟩:=ax.reads I rx
 rcases hp with hp|hp
 ·obtain⟨as,r1⟩:=(DAt.lst hp ad).reads I ry
  exact SeqAt.in_list_reads r1 r2 okd okx.1 (in_room hu okx.2 _) (fin_bl I q rfl)
 ·obtain⟨as,r1⟩:=(DAt.tup hp ad).reads I ry
  exact SeqAt.in_tuple_reads r1 r2 okd okx.1 (in_room hu okx.2 _) (fin_bl I q rfl)
def rCat0 (K:PySem.W.Frag):R2:=fun x y H Q=>∃a b ys,x=.ref a/\y=.ref b/\SqT K H a []/\SqT K H b ys/\Q (.ref b) H
theorem op_cat0:OpR X (binaryOp .Add) (rCat0 X.K):=by
 intro pins s σ H x y v u Q I rx ry h
 obtain⟨a,b,ys,rfl,rfl,ha,hb,q⟩:=h
 cases rx
 cases ry
 obtain⟨us,ru,pu,_⟩:=I.tuple ha
 obtain⟨ws,rw',pw,_⟩:=I.tuple hb
 cases ru
 obtain⟨⟨cls,dd,data,sl⟩,ho,hc,n,hd⟩:=id pu
 obtain⟨⟨cls2,dd2,data2,sl2⟩,ho2,hc2,n2,hd2⟩:=id pw
 simp only at hc hd hc2 hd2
 subst hc hd hc2 hd2
 have st:=tuple_addW0 a b ([]:List Value).toArray ws.toArray n n2 dd dd2 sl sl2 (by simp)
 exact concat_meets ⟨_,ho,rfl⟩ ⟨_,ho2,rfl⟩ noFill_tuple_add seq_tuple_add PySem.F.slot_tuple_add PySem.F.entry_tuple_add (PySem.F.args_tuple_add_2 _ _) st ⟨ho,ho2,⟨.ref b,H,I,rfl,q⟩⟩
def TSame (H H':Hp):Prop:=∀b xs,H b=some (.tup xs)->H' b=some (.tup xs)
end
end L2
namespace L2
open PySem PySem.Spec PyProof.Rows
section
variable {X:Cx}
def rCat1 (K:W.Frag):R2:=fun x y H Q=>∃a b xs ys,x=.ref a/\y=.ref b/\H a=some (.tup xs)/\SqT K H b ys/\xs≠[]/\xs.length+ys.length<=sizeLine/\∀p H',Same H H'->H' p=some (.tup (xs++ys))->Q (.ref p) H'
theorem op_cat1:OpR X (binaryOp .Add) (rCat1 X.K):=by
 intro pins s σ H x y v u Q I rx ry h
 obtain⟨a,b,xs,ys,rfl,rfl,ha,hb,hx,hz,q⟩:=h
 exact op_catT pins s σ H _ _ v u Q I rx ry ⟨a,b,xs,ys,rfl,rfl,SqT.of ha,hb,hx,hz,fun z=>q a H (Same.refl H) (by subst z;rw[List.append_nil];exact ha),fun _ p hp=>q p _ ((Same.refl H).upd_free hp) upd_same⟩
end
end L2
namespace L2
open PySem PySem.Spec PyProof.Rows
section
variable {X:Cx}
def tCutT (t:TT):TT:=fun σ H Q=>∃M:Bool->Hp->Prop,t σ H M/\∀b H',M b H'->Q b H'
theorem pt_cut {e:Expr}{t:TT}(h:PT X e t):PT X e (tCutT t):=by
 intro pins s σ H Q I ⟨M,h1,h2⟩
 exact thn (h pins s σ H M I h1) fun b s' ⟨H',I',m⟩=>⟨H',I',h2 b H' m⟩
def rCatA (K:W.Frag):R2:=fun x y H Q=>∃a b xs ys,x=.ref a/\y=.ref b/\H a=some (.tup xs)/\H b=some (.tup ys)/\xs.length+ys.length<=sizeLine/\∀p H',Same H H'->H' p=some (.tup (xs++ys))->Q (.ref p) H'
theorem op_catA:OpR X (binaryOp .Add) (rCatA X.K):=by
 intro pins s σ H x y v u Q I rx ry h
 obtain⟨a,b,xs,ys,rfl,rfl,ha,hb,hz,q⟩:=h
 by_cases hx:xs=[]
 ·subst hx
  exact op_cat0 pins s σ H _ _ v u Q I rx ry ⟨a,b,ys,rfl,rfl,SqT.of ha,SqT.of hb,q b H (Same.refl H) hb⟩
 ·exact op_cat1 pins s σ H _ _ v u Q I rx ry ⟨a,b,xs,ys,rfl,rfl,ha,SqT.of hb,hx,hz,q⟩
end
end L2
namespace L2
open PySem PySem.Spec PyProof.Rows
def Tx (n:Nat)(z:Str):Prop:=z.length<=n/\∀c∈z.cps.toList,c<128
theorem Tx.mono {n m:Nat}{z:Str}(h:Tx n z)(k:n<=m):Tx m z:=⟨Nat.le_trans h.1 k,h.2⟩
theorem Tx.ok {n:Nat}{z:Str}(h:Tx n z):PyData.canLay0 (.str z)=true:=by
 show PyData.strOk z=true
 unfold PyData.strOk
 rw[Array.all_eq_true_iff_forall_mem]
 intro c hc
 have q:=h.2 c (by simpa using hc)
 exact decide_eq_true (by omega)
theorem Tx.app {n m:Nat}{y z:Str}(h:Tx n y)(k:Tx m z):Tx (n+m) (y++z):=by
 refine⟨by rw[Str.length_append];exact Nat.add_le_add h.1 k.1,fun c hc=>?_⟩
 have e:(y++z).cps=y.cps++z.cps:=rfl
 rw[e,Array.toList_append] at hc
 rcases List.mem_append.mp hc with q|q
 ·exact h.2 c q
 ·exact k.2 c q
theorem Tx.one {c:Nat}(h:c<128):Tx 1 (⟨#[c]⟩:Str):=⟨Nat.le_refl _,fun d hd=>by
 have:d=c:=by simpa using hd
 omega⟩
theorem Tx.sign {n:Nat}{z:Str}(h:Tx n z){i:Int}{c:Nat}(e:atI z.cps.toList i=some c):Tx 1 (⟨#[c]⟩:Str):=by
 obtain⟨j,_,g,_⟩:=atI_get e
 exact Tx.one (h.2 c (List.mem_of_getElem? g))
theorem Tx.slice {n:Nat}{z:Str}(h:Tx n z)(lo hi:Option Int):Tx n (Txt.slice z lo hi):=by
 refine⟨Nat.le_trans (Txt.slice_le z lo hi) h.1,fun c hc=>?_⟩
 unfold Txt.slice at hc
 split at hc
 ·exact h.2 c hc
 ·have hc':c∈((Builtin.Str.strSliceIndices lo hi 1 z.length).filterMap (z.cps[·]?)):=by simpa using hc
  obtain⟨j,_,e⟩:=List.mem_filterMap.mp hc'
  exact h.2 c (by
   have:=Array.mem_of_getElem? e
   simpa using this)
theorem Tx.num {m:Int}(h0:0<=m)(h1:m<10 ^ 10):Tx 10 (Str.ofString (toString m)):=by
 refine⟨W.KT.len_num h0 h1,fun c hc=>?_⟩
 obtain⟨k,rfl⟩:=Int.eq_ofNat_of_zero_le h0
 rw[W.KIN.signs_num] at hc
 obtain⟨ch,hch,e⟩:=List.mem_map.mp hc
 have r:=Nat.isDigit_of_mem_toDigits (by decide) (by decide) hch
 have r2:ch.toNat<=57:=by
  unfold Char.isDigit at r
  simp only[Bool.and_eq_true,decide_eq_true_eq] at r
  have:=r.2
  exact this
 omega
theorem join_tx (sep:Str){n m:Nat}(hs:Tx m sep):∀{ys:List Str},(∀y∈ys,Tx n y)->Tx (ys.length*(n+m)) (Str.join sep ys)
 | [],_=>⟨Nat.zero_le _,fun c hc=>by
  have:c∈([]:List Nat):=hc
  simp at this⟩
 | [x],h=>by
  have q:Tx n (Str.join sep [x]):=h x List.mem_cons_self
  exact q.mono (by rw[List.length_singleton];omega)
 |x::y::r,h=>by
  have q:=join_tx sep hs (ys:=y::r) fun z hz=>h z (List.mem_cons_of_mem _ hz)
  have e:Str.join sep (x::y::r)=x++sep++Str.join sep (y::r):=rfl
  rw[e]
  refine(((h x List.mem_cons_self).app hs).app q).mono ?_
  simp only[List.length_cons,Nat.succ_mul]
  omega
section
variable {X:Cx}
def Its (z:Str):It:=⟨fun i _=>i<z.length,fun i H x H'=>H'=H/\∃c,z.cps[i]?=some c/\x=.str ⟨#[c]⟩,fun i _=>z.length<=i⟩
theorem turn_strA {P:Program}{w:World}{K:W.Frag}{tg:Expr}(z:Str)(t:Tok)(it:Addr):Turn P w K tg (Its z) [it] it (fun i h=>h.IsStrIter it "str_ascii_iterator" z t i) where
 mem:=by simp
 obj:=fun i h st b hb=>by
  have e:b=it:=by simpa using hb
  subst e
  obtain⟨o,e,c,d⟩:=st
  exact⟨o,e,fun v q=>by rw[d] at q;cases q⟩
 keep:=fun i h h' st k=>let ⟨o,ho,r⟩:=st;⟨o,k it (by simp) o ho,r⟩
 item:=by
  intro Y hP hw hK hc i pins s σ H E I hf st hg
  subst hP hw hK
  have hlt:i<z.cps.size:=hg
  obtain⟨f0,f1,f2,f3,f4,f5⟩:=hf it (by simp)
  have hx:z.cps[i]?=some z.cps[i]:=by simp[hlt]
  refine wpAny_pyNext_ascii_item st hx fun h' st' sb=>?_
  have I1:Inv Y pins σ H { s with heap:=h',toks:=s.toks+1 }:=I.turned (fun b o hb e=>(sb.2 b hb).trans e) f0 f1 f3 f4 f5
  obtain⟨o,e,c,d⟩:=id st'
  exact⟨_,rfl,go_of (s:={ s with heap:=h',toks:=s.toks+1 }) e c d (by decide) ⟨.str ⟨#[z.cps[i]]⟩,H,I1,⟨_,rfl⟩,⟨rfl,_,hx,rfl⟩,st',fun b hb=>(hf b hb).1⟩⟩
 done:=by
  intro Y hP hw hK hc i pins s σ H E I hf st hg
  subst hP hw hK
  obtain⟨f0,f1,f2,f3,f4,f5⟩:=hf it (by simp)
  have hle:z.cps.size<=i:=hg
  exact wpAny_pyNext_ascii_end (I.ok.hd hc) st (by simp;omega) fun h' eb=>⟨rfl,I.turned (t':=s.toks) (fun b o hb e=>eb b o hb e) f0 f1 f3 f4 f5⟩
 self:=fun A i s Q E st h=>by
  refine wpAny_pyIter_slot st.typeIs F.slot_str_ascii_iterator_iter (wpAny_call_entry F.slot_str_ascii_iterator_iter st.typeIs F.entry_str_ascii_iterator_iter ?_ (F.args_str_ascii_iterator_iter_1 _))
  show wpAny _ _ (ret (.ref it)) _ _ s
  exact wpAny_pure ⟨_,rfl,"str_ascii_iterator",_,st.typeIs,F.slot_str_ascii_iterator_next.lookup,h⟩
def iStr (tl:TE):TI:=fun σ H R=>tl σ H fun x H1=>∃z n,x=.str z/\Tx n z/\R (Its z) H1
theorem Tx.ascii {n:Nat}{z:Str}(h:Tx n z):z.cps.all (· < 128)=true:=by
 rw[Array.all_eq_true_iff_forall_mem]
 intro c hc
 exact decide_eq_true (h.2 c (by simpa using hc))
theorem pi_str {tg l:Expr}{tl:TE}(hl:PE X l tl):PI X tg l (iStr tl):=by
 intro pins s σ H R I h
 refine thn (hl pins s σ H _ I h) fun v s1 hq9=>?_
 obtain⟨x,H1,I1,r1,q1⟩:=hq9
 obtain⟨z,n,e,tx,q⟩:=q1
 subst e
 obtain⟨t,rfl⟩:=r1
 refine wpAny_pyIter_ascii tx.ascii ?_
 refine⟨s1.heap.objs.size,[s1.heap.objs.size],_,_,H1,rfl,I1.kept (t':=s1.toks) fun b o e=>Heap.get?_push_of_some _ e,turn_strA z t _,⟨_,Heap.get?_push_size _ rfl,rfl,rfl⟩,fun b hb=>?_,q⟩
 have e:b=s1.heap.objs.size:=by simpa using hb
 subst e
 exact I1.fpOk (Nat.le_refl _) (I1.hok.fresh (Nat.le_refl _))
theorem strsAre_of {ys:List Str}:∀{us:List Value},Vals (ys.map V.str) us->StrsAre us ys:=by
 induction ys with
 |nil=>intro us r;rw[List.map_nil] at r;cases r;exact .nil
 |cons y ys ih=>
  intro us r
  rw[List.map_cons] at r
  cases r with
  |cons r1 r2=>
   obtain⟨t,e⟩:=r1
   subst e
   exact .cons y t (ih r2)
def rJoin (K:W.Frag):V->List V->Hp->VK->Prop:=fun x xs H Q=>∃sep l ys,x=.str sep/\xs=[.ref l]/\SqL K H l (ys.map V.str)/\(ys.map (·.length)).sum+ys.length*sep.length<=16777216/\Q (.str (Str.join sep ys)) H
theorem mt_join:MtR X "str.join" (rJoin X.K):=by
 intro pins s σ H x xs v us Q I rx rs h
 obtain⟨sep,l,ys,rfl,rfl,hl,hz,q⟩:=h
 obtain⟨t,rfl⟩:=rx
 obtain⟨u,rfl,ru⟩:=rs.one
 cases ru
 obtain⟨its,rv,p,_⟩:=I.list hl
 refine join_list p.isList (strsAre_of (by simpa using rv)) hz fun t' k=>?_
 have e:Txt.join sep ys=Str.join sep ys:=StrLaws.glued_eq_join sep ys
 rw[e]
 exact⟨.str _,H,I.tok k,⟨_,rfl⟩,q⟩
def rSlS:V->Option Int->Option Int->Hp->VK->Prop:=fun x lo hi H Q=>∃z,x=.str z/\z.length<=sizeLine/\Q (.str (Txt.slice z lo hi)) H
theorem part_tok {v:Value}{o:Option Int}(p:IsPart v o):∃l:Option (Int×Tok),v=partValue l/\l.map (·.1)=o:=by
 cases p with
 |none=>exact⟨none,rfl,rfl⟩
 |int i t=>exact⟨some (i,t),rfl,rfl⟩
theorem sl_str:SlR X rSlS:=by
 intro pins s σ H x v vl vu lo hi sl Q I rx hs pl pu h
 obtain⟨z,rfl,hz,q⟩:=h
 obtain⟨t,rfl⟩:=rx
 obtain⟨l,rfl,rfl⟩:=part_tok pl
 obtain⟨u,rfl,rfl⟩:=part_tok pu
 refine⟨"str",_,F.slot_str_getitem.lookup,typeIs_str _ _ _,wpAny_getItem_str_slice (l:=l) (u:=u) (st:=none) hs rfl ?_⟩
 refine post_val_or_str ⟨Nat.le_trans (Txt.slice_le z _ _) hz,fun t' k=>?_⟩
 exact⟨.str _,H,I.tok k,⟨_,rfl⟩,q⟩
def rCatL (K:W.Frag):R2:=fun x y H Q=>∃l b xs zs,x=.ref l/\y=.ref b/\SqL K H l xs/\SqL K H b zs/\xs.length+zs.length<=sizeLine/\∀p,H p=none->Q (.ref p) (upd H p (.lst (xs++zs)))
theorem op_catL:OpR X (binaryOp .Add) (rCatL X.K):=by
 intro pins s σ H x y v u Q I rx ry h
 obtain⟨l,b,xs,zs,rfl,rfl,ha,hb,hz,q⟩:=h
 cases rx
 cases ry
 obtain⟨us,ru,pu,_⟩:=I.list ha
 obtain⟨ws,rw',pw,_⟩:=I.list hb
 have l1:=ru.length
 have l2:=rw'.length
 obtain⟨⟨cls,dd,data,sl⟩,n,ho,hc,hdd,hd⟩:=id pu
 obtain⟨⟨cls2,dd2,data2,sl2⟩,n2,ho2,hc2,hdd2,hd2⟩:=id pw
 simp only at hc hd hc2 hd2
 subst hc hd hc2 hd2
 have st:=list_addW l b us.toArray ws.toArray n n2 dd dd2 sl sl2 (by rw[List.size_toArray,List.size_toArray];omega)
 refine concat_meets ⟨_,ho,rfl⟩ ⟨_,ho2,rfl⟩ noFill_list_add seq_list_add PySem.F.slot_list_add PySem.F.entry_list_add (PySem.F.args_list_add_2 _ _) st ⟨ho,ho2,?_⟩
 have ea:us.toArray++ws.toArray=(us++ws).toArray:=by simp
 rw[ea]
 exact⟨.ref _,_,I.lnew (t':=s.toks) (ru.append rw') (by rw[List.length_append];omega),rfl,q _ I.fresh⟩
end
theorem lc_str {z:Str}{caps:St}{tt:TT}{te:TE}{D:Addr}{Q:Hp->Prop}{H1:Hp}(Pv:Nat->List V->Hp->Prop)(hz:z.length<=sizeLine)(h0:Pv 0 [] (upd H1 D (.lst [])))(hl:∀i ys H,Pv i ys H->ys.length<=i)
  (hs:∀i ys H (c:Nat) (N:VK) (M:Hp->Prop),z.cps[i]?=some c->Pv i ys H->(∀y H4,H4 D=some (.lst ys)->Pv (i+1) (ys++[y]) (upd H4 D (.lst (ys++[y])))->N y H4)->(∀H3,Pv (i+1) ys H3->M H3)→
   tt (some (.str ⟨#[c]⟩)::caps) H fun ok H3=>if ok=true then te (some (.str ⟨#[c]⟩)::caps) H3 N else M H3)
  (hd:∀ys H,Pv z.length ys H->Q H):∃W:Nat->Nat->St->Hp->Prop,(∃m,W 0 m (none::caps) (upd H1 D (.lst [])))/\LcW (Its z) (gName 0) tt te D Q W:=by
 refine⟨fun i m σ H=>m=z.length-i/\i<=z.length/\(∃v,σ=v::caps)/\∃ys,Pv i ys H,⟨z.length,by simp,Nat.zero_le _,⟨none,rfl⟩,[],h0⟩,?_⟩
 rintro i m σ H ⟨rfl,hi,⟨v,rfl⟩,ys,p⟩
 have hy:=hl i ys H p
 by_cases hlt:i<z.length
 ·refine .inr ⟨hlt,fun x H1 y=>?_⟩
  obtain⟨e,c,hc,y⟩:=y
  subst e y
  exact hs i ys _ c _ _ hc p (fun y H4 a c=>⟨ys,a,by omega,z.length-(i+1),by omega,rfl,hlt,⟨_,rfl⟩,_,c⟩) (fun H3 c=>⟨z.length-(i+1),by omega,rfl,hlt,⟨_,rfl⟩,ys,c⟩)
 ·have e:i=z.length:=by omega
  subst e
  exact .inl ⟨Nat.le_refl _,hd ys H p⟩
end L2
namespace L2
open PySem PySem.Spec PyProof.Rows
section
variable {X:Cx}
theorem call_isinstC:CallR X (.builtin "isinstance") (fun xs H Q=>∃x C t b,xs=[x,.ref C]/\TyOf X.K H x t/\W.kitOne X.K t (.ref C)=some b/\Q (.bl b) H):=by
 intro pins s σ H xs us Q I r h
 obtain⟨x,C,t,b,rfl,ty,e,q⟩:=h
 obtain⟨u,v,rfl,rx,ry⟩:=r.two
 cases(show v=Value.ref C from ry)
 exact isinst_ok I rx ty e fun tk=>⟨.bl b,H,I.tok tk,rfl,q⟩
theorem range_all (bs:List Bool)(i:Nat)(h:i<=bs.length):((List.range bs.length).drop i).all (fun j=>bs.getD j false)=(bs.drop i).all id:=by
 induction k:bs.length-i generalizing i with
 |zero=>
  have e:i=bs.length:=by omega
  subst e
  rw[List.drop_of_length_le (by simp),List.drop_of_length_le (Nat.le_refl _)]
  rfl
 |succ k ih=>
  have hlt:i<bs.length:=by omega
  have hd:(List.range bs.length).drop i=i::(List.range bs.length).drop (i+1):=by
   rw[List.drop_eq_getElem_cons (by simpa using hlt)];simp
  rw[hd,List.drop_eq_getElem_cons hlt,List.all_cons,List.all_cons,ih (i+1) hlt (by omega)]
  simp[List.getD,hlt]
theorem truth_bs {prog:Program}{w:World}{A:Around}{bs:List Bool}{us:List Value}(rv:Vals (bs.map V.bl) us):TruthOf prog w A (fun i v=>us.toArray[i]?=some v) (fun i=>bs.getD i false):=by
 intro i v s Q E hv q
 have hv':us[i]?=some v:=by simpa using hv
 have hlt:i<bs.length:=by
  have:=(List.getElem?_eq_some_iff.mp hv').1
  have:=rv.length
  rw[List.length_map] at this
  omega
 obtain⟨u,hu,ru⟩:=rv.get (i:=i) (x:=V.bl bs[i]) (by simp[hlt])
 rw[hv'] at hu
 cases hu
 cases ru
 refine wpAny_truthy_bool ?_
 have e:bs.getD i false=bs[i]:=by simp[List.getD,hlt]
 have q':Q (bs.getD i false) s:=q
 rw[e] at q'
 exact q'
theorem call_allB (hc:X.calm=true):CallR X (.builtin "all") (fun xs H Q=>∃(p:Addr) (bs:List Bool),xs=[.ref p]/\SqL X.K H p (bs.map V.bl)/\Q (.bl (bs.all id)) H):=by
 intro pins s σ H xs us Q I r h
 obtain⟨p,bs,rfl,hq,q⟩:=h
 obtain⟨u,rfl,rx⟩:=vals1 r
 cases rx
 obtain⟨its,rv,pl,hz⟩:=I.list hq
 have hl:its.length=bs.length:=by
  have:=rv.length
  rw[List.length_map] at this
  exact this.symm
 obtain⟨o,ho,_⟩:=id pl.isList
 have hp:p<s.heap.objs.size:=Heap.lt_size ho
 refine call_all_walk (wpAny_pyIter_list pl.isList ?_)
 refine⟨s.heap.objs.size,[s.heap.objs.size,p],[s.heap.objs.size],its.toArray.size,_,_,fun i=>bs.getD i false,rfl,Walks.list (A:=X.A.in1) (by exact I.ok.hd hc) _ p (Nat.ne_of_lt hp) its.toArray,⟨⟨_,Heap.get?_push_size _ rfl,rfl,rfl⟩,pl.isList.at fun o e=>Heap.get?_push_of_some _ e⟩,truth_bs rv,fun h' tk kk=>?_⟩
 have e:=range_all bs 0 (Nat.zero_le _)
 rw[List.drop_zero,List.drop_zero] at e
 rw[List.size_toArray,hl,e]
 exact⟨.bl _,H,I.kept (t':=tk) fun b o eo=>kk b o (by simpa using Nat.ne_of_lt (Heap.lt_size eo)) (Heap.get?_push_of_some _ eo),rfl,q⟩
theorem boot_all:bootBuiltins "all"=some (.builtin "all"):=by decide +kernel
structure MkN (K:W.Frag)(C:Addr):Prop where
 makes:W.makesIn K C=true
 init:W.findIn K (.ref C) "__init__"=some (some (.builtin "object.__init__"))
 kp:W.keepIn K (.ref C)=true
def tMakeN (C:Addr):TE:=fun _ H Q=>∀x dx,H x=none->H dx=none->dx≠x->Q (.ref x) (upd (upd H dx (.own x)) x (.ins C dx []))
theorem pe_makeN {x:Str}{p pos:Pos}{C:Addr}(M:MkN X.K C)(hg:Gl X x)(hm:X.mg x=some (.ref C))(hdb:(x==("__debug__":Str))=false:=by decide):PE X (.Call (.Name x p) [] [] pos) (tMakeN C):=by
 intro pins s σ H Q I h
 refine wpAny_Call_Name_kw (ld_glob I hg hm ?_ hdb)
 refine W.callWith_K0 (first:=[]) I.kIn M.kp (wpAny_call ?_)
 have I2:=Inv.made (C:=C) I
 have hq:=h (s.heap.objs.size+1) s.heap.objs.size (I.hok.fresh (Nat.le_succ _)) (I.hok.fresh (Nat.le_refl _)) (Nat.ne_of_lt (Nat.lt_succ_self _))
 have Y:=W.makes_of (M:=model X.prog X.w) I.kIn M.makes
 obtain⟨hh,g,d,t,os⟩:=s
 refine make_map0 I.kIn M.makes M.init (fun self=>W.Looks.of_pure (W.oi_bind self)) ?_
 have e2:((hh.push W.emptyDict).push (W.instObj C hh.objs.size)).get? (hh.objs.size+1)=some (W.instObj C hh.objs.size):=by
  have:=Heap.get?_push_size (hh.push W.emptyDict) (o:=W.instObj C hh.objs.size) rfl
  rwa [Heap.size_push] at this
 have t1:W.Looks (model X.prog X.w) ((hh.push W.emptyDict).push (W.instObj C hh.objs.size)) (typeOf (.ref (hh.objs.size+1))) (.ref C):=(W.Looks.ld e2).andThen .now
 have t2:W.Looks (model X.prog X.w) ((hh.push W.emptyDict).push (W.instObj C hh.objs.size)) (isInstance (.ref (hh.objs.size+1)) (.type "object")) true:=t1.andThen (Y.top.keeps fun b o e=>Heap.get?_push_of_some _ (Heap.get?_push_of_some _ e))
 refine codeAny_call_builtin W.oi_plain W.entry_oi (@W.check_slot (model X.prog X.w) _ _ _ "object.__init__" "object" "__init__" (.ref (hh.objs.size+1)) [] [] _ W.oi_kind W.oi_split t2 (W.oi_args (.ref (hh.objs.size+1))) ?_)
 rw[W.oi_run]
 exact wpAny_pure (And.intro rfl ⟨V.ref (hh.objs.size+1),_,I2,rfl,hq⟩)
def tMethD (P:Program)(w:World)(K:W.Frag)(mg:Str->Option Value)(base:Heap)(CX:CXT)(k:Nat)(m:Str)(E:XK)(ta:TE)(t:TA):TE:=fun σ H Q=>ta σ H fun x H1=>∃a C dx fs f fd ps sp,x=.ref a/\H1 a=some (.ins C dx fs)/\fs.lookup m=none∧
 Cls K C/\Meth K C m f/\FnOk P w K mg base CX k f fd ps sp/\Binds K fd ps []/\t σ H1 fun vs H2=>sp (x::vs) H2 Q E
theorem pe_methD {CX:CXT}{k:Nat}{m:Str}{E:XK}{pos apos:Pos}{o e:Expr}{es:List Expr}{ta:TE}{t:TA}{pl:Sem Bool}(he:PE X o ta)(hr:Room k X.A)(hx:Passes CX X E)(ha:PA X (e::es) t)
  (hst:starEach (e::es) X.env=(false,eval e X.env)::starEach es X.env:=by rfl) (hpl:(backTo pos (starEach es X.env)).any (·.1)=false:=by rfl)
  (ht:eval (.Call (.Attribute o m apos) (e::es) [] pos) X.env=(do
   let ov ← eval o X.env
   standAt apos.atName
   let (f,first) ← holding [ov] (getMethod ov m pl)
   callWith pos f first (backTo pos (starEach (e::es) X.env)) (backToKw pos (keywordEach [] X.env))):=by rfl):
  PE X (.Call (.Attribute o m apos) (e::es) [] pos) (tMethD X.prog X.w X.K X.mg X.base CX k m E ta t):=by
 intro pins s σ H Q I h
 refine W.methodCall_KW (pl:=pl) (thn (he pins s σ H _ I h) fun u s1 ⟨x,H1,I1,rx,a,C,dx,fs,f,fd,ps,sp,ex,ea,l,c,hm,F,hb,q⟩=>?_) ht
 subst ex
 obtain rfl:u=Value.ref a:=rx
 refine getmeth_ok I1 ea c hm l ?_
 refine W.callWith_K (first:=[.ref a]) (h₀:=X.base) I.ok.mod.kin hm.kp (thn (ha pos pins s1 σ H1 _ I1 q) fun us s2 ⟨vs,H2,I2,r,q2⟩=>⟨I2.kIn,?_⟩) hst hpl
 exact run_fn (us:=.ref a::us) (vs:=.ref a::vs) (dvs:=[]) (ds:=[]) F hr hb .nil hx I2 (.cons rfl r) (by rw[List.append_nil];exact q2)
theorem pe_methD0 {CX:CXT}{k:Nat}{m:Str}{E:XK}{pos apos:Pos}{o:Expr}{ta:TE}{pl:Sem Bool}(he:PE X o ta)(hr:Room k X.A)(hx:Passes CX X E)
  (ht:eval (.Call (.Attribute o m apos) [] [] pos) X.env=(do
   let ov ← eval o X.env
   standAt apos.atName
   let (f,first) ← holding [ov] (getMethod ov m pl)
   callWith pos f first (backTo pos (starEach [] X.env)) (backToKw pos (keywordEach [] X.env))):=by rfl):
  PE X (.Call (.Attribute o m apos) [] [] pos) (tMethD X.prog X.w X.K X.mg X.base CX k m E ta tNil):=by
 intro pins s σ H Q I h
 refine W.methodCall_KW (pl:=pl) (thn (he pins s σ H _ I h) fun u s1 ⟨x,H1,I1,rx,a,C,dx,fs,f,fd,ps,sp,ex,ea,l,c,hm,F,hb,q⟩=>?_) ht
 subst ex
 obtain rfl:u=Value.ref a:=rx
 refine getmeth_ok I1 ea c hm l ?_
 exact W.callWith_K0 (first:=[.ref a]) I1.kIn hm.kp (run_fn (us:=[.ref a]) (vs:=[.ref a]) (dvs:=[]) (ds:=[]) F hr hb .nil hx I1 (.cons rfl .nil) q)
end
end L2
namespace HT
open PySem PySem.Spec PyProof.Rows
section
variable {prog:Program} {w:World} {A:Around} {E:Value->Shared->Prop} {s:Shared}
theorem getItem_tuple_whole {t sl:Addr}{items:Array Value}{vl vu:Value}{lo hi:Option Int}{Q:Value->Shared->Prop}(ht:IsTup s.heap t items)(hs:s.heap.IsSliceOf sl vl vu .none)(pl:IsPart vl lo)(pu:IsPart vu hi)
  (h1:sIx items.size 0 lo=0) (h2:sIx items.size items.size hi=items.size) (h:Q (.ref t) s):wpAny (model prog w) A (getItem (.ref t) (.ref sl)) Q E s:=by
 obtain⟨os,hos,hcs,hds⟩:=id hs
 have hTs:s.TypeIs (.ref sl) "slice":=⟨os,hos,hcs⟩
 unfold getItem
 try with_reducible refine wpAny_holding ?_
 first|refine wpAny_bind (wpAny_pure ?_)|skip
 refine wpAny_bind (wpAny_sequenceKey ht.typeIs (by decide) ?_)
 refine wpAny_bind (wpAny_callSpecial?_slot (name:=Str.ofString "__getitem__") ht.typeIs PyProof.Rows.slot_tuple_getitem
  (wpAny_call_entry PyProof.Rows.slot_tuple_getitem ht.typeIs entry_tuple_getitem ?_ (args_tuple_getitem _ _)))
 show wpAny _ _ (Builtin.Tuple.tupleItemsOf (.ref t) >>= _) _ _ s
 refine wpAny_bind (tupleItemsOf_ ht ?_)
 refine wpAny_bind (wpAny_typeOf hTs ?_)
 rw[if_pos (by decide)]
 refine wpAny_bind (sliceApplied_gen hs pl pu ?_)
 have hyes:(((sIx items.size 0 lo:Nat):Int)==0&&(1:Int)==1&&(sIx items.size items.size hi-sIx items.size 0 lo)==items.size)=true:=by
  rw[h1,h2]
  simp
 show wpAny _ _ (if (((sIx items.size 0 lo:Nat):Int)==0&&(1:Int)==1&&(sIx items.size items.size hi-sIx items.size 0 lo)==items.size)=true then _ else _) _ _ s
 rw[if_pos hyes]
 show wpAny _ _ (Builtin.Tuple.tupleIsExact (.ref t) >>= _) _ _ s
 refine wpAny_bind (wpAny_bind (wpAny_typeOf ht.typeIs (wpAny_pure ?_)))
 rw[if_pos (by decide)]
 refine wpAny_bind (wpAny_rule (wpAny_bind (wpAny_pure (wpAny_pure ⟨_,rfl,wpAny_pure h⟩))))
end
end HT
namespace L2
open PySem PySem.Spec PyProof.Rows
def rSlA:V->Option Int->Option Int->Hp->VK->Prop:=fun x lo hi H Q=>∃a xs,x=.ref a/\H a=some (.tup xs)/\∀p H',Same H H'->H' p=some (.tup (cutV xs lo hi))->Q (.ref p) H'
theorem sl_tupA {X:Cx}:SlR X rSlA:=by
 intro pins s σ H x v vl vu lo hi sl Q I rx hs pl pu h
 obtain⟨a,xs,rfl,hx,q⟩:=h
 by_cases hw:HT.sIx xs.length 0 lo=0/\HT.sIx xs.length xs.length hi=xs.length
 ·cases rx
  obtain⟨its,r,ht,hz⟩:=I.tuple (SqT.of hx)
  have hlen:its.toArray.size=xs.length:=by rw[List.size_toArray];exact r.length.symm
  refine⟨"tuple",_,PyProof.Rows.slot_tuple_getitem.lookup,ht.typeIs,?_⟩
  refine HT.getItem_tuple_whole ht hs pl pu (by rw[hlen];exact hw.1) (by rw[hlen];exact hw.2) ⟨.ref a,H,I,rfl,q a H (Same.refl H) ?_⟩
  have e:cutV xs lo hi=xs:=by
   unfold cutV
   rw[hw.1,hw.2,List.drop_zero,Nat.sub_zero,List.take_length]
  rw[e]
  exact hx
 ·exact sl_tup pins s σ H _ v vl vu lo hi sl Q I rx hs pl pu ⟨a,xs,rfl,SqT.of hx,hw,fun p hp=>q p _ ((Same.refl H).upd_free hp) upd_same⟩
end L2
namespace L2
open PySem PySem.Spec PyProof.Rows PySem.Builtin.Str
section
variable {X:Cx}
def rSplit:V->List V->Hp->VK->Prop:=fun x xs H Q=>∃z y:Str,x=.str z/\xs=[.str y]/\(y.length==0)=false/\z.length<=sizeLine/\(partsBetween z (occurrences z y 0 z.length (z.length+1)) y.length).length<=sizeLine∧
 (Txt.split z y).length<=sizeLine/\∀p,H p=none->Q (.ref p) (upd H p (.lst ((Txt.split z y).map V.str)))
theorem strs_vals:∀l:List (Str×Tok),Vals ((l.map (·.1)).map V.str) (strValues l)
 | []=>.nil
 | (x,t)::l=>.cons ⟨t,rfl⟩ (strs_vals l)
theorem mt_split:MtR X "str.split" rSplit:=by
 intro pins s σ H x xs v us Q I rx rs h
 obtain⟨z,y,rfl,rfl,hy,hz,hz2,hz3,q⟩:=h
 obtain⟨t,rfl⟩:=rx
 obtain⟨u0,rfl,ru⟩:=rs.one
 obtain⟨u,rfl⟩:=ru
 have fin:∀(l:List (Str×Tok)) (tk:Nat),l.map (·.1)=Txt.split z y->EP X pins σ Q (.ref s.heap.objs.size) { s with heap:=s.heap.push { cls:=.type "list",data:=.seq (strValues l).toArray },toks:=tk }:=fun l tk e=>by
  have hv:=strs_vals l
  rw[e] at hv
  exact⟨.ref _,_,I.lnew (t':=tk) hv (by rw[List.length_map];exact hz3),rfl,q _ I.fresh⟩
 cases h1:(decide (z.length<y.length)||decide (strKind z<strKind y))
 ·cases hf:(occurrences z y 0 z.length (z.length+1)).isEmpty
  ·refine call_meets F.slot_str_split (typeIs_str _ _ _) F.entry_str_split (F.args_str_split_2 _ _) (meets_str_split_sep z y t u h1 hy hf hz hz2) ?_
   show wants _ _ _ { s with toks:=_,heap:=s.heap.push { cls:=.type "list",data:=.seq (strsFrom s.toks (partsBetween z (occurrences z y 0 z.length (z.length+1)) y.length)).toArray } }
   rw[strsFrom_eq]
   exact fin (numbered s.toks _) _ ((numbered_texts _ _).trans ((if_neg (ne_true_of_eq_false h1)).trans (if_neg (ne_true_of_eq_false hf))).symm)
  ·exact call_meets F.slot_str_split (typeIs_str _ _ _) F.entry_str_split (F.args_str_split_2 _ _) (meets_str_split_not_found z y t u h1 hy hf) (fin [(z,t)] s.toks ((if_neg (ne_true_of_eq_false h1)).trans (if_pos hf)).symm)
 ·exact call_meets F.slot_str_split (typeIs_str _ _ _) F.entry_str_split (F.args_str_split_2 _ _) (meets_str_split_cannot_occur z y t u h1) (fin [(z,t)] s.toks (if_pos h1).symm)
def rStarts:V->List V->Hp->VK->Prop:=fun x xs H Q=>∃z y:Str,x=.str z/\xs=[.str y]/\Q (.bl (Txt.startswith z y)) H
theorem mt_starts:MtR X "str.startswith" rStarts:=by
 intro pins s σ H x xs v us Q I rx rs h
 obtain⟨z,y,rfl,rfl,q⟩:=h
 obtain⟨t,rfl⟩:=rx
 obtain⟨u0,rfl,ru⟩:=rs.one
 obtain⟨u,rfl⟩:=ru
 exact SC.startswith ⟨.bl _,H,I,rfl,q⟩
def rEnds:V->List V->Hp->VK->Prop:=fun x xs H Q=>∃z y:Str,x=.str z/\xs=[.str y]/\Q (.bl (Txt.endswith z y)) H
theorem mt_ends:MtR X "str.endswith" rEnds:=by
 intro pins s σ H x xs v us Q I rx rs h
 obtain⟨z,y,rfl,rfl,q⟩:=h
 obtain⟨t,rfl⟩:=rx
 obtain⟨u0,rfl,ru⟩:=rs.one
 obtain⟨u,rfl⟩:=ru
 exact SC.endswith ⟨.bl _,H,I,rfl,q⟩
theorem split_len (z y:Str):(Txt.split z y).length<=z.length+2:=by
 unfold Txt.split
 split
 ·show 1<=_
  omega
 ·split
  ·show 1<=_
   omega
  ·rw[length_partsBetween]
   have e1:=StrLaws.occ_length_le z y 0 z.length (z.length+1)
   omega
theorem parts_len (z y:Str):(partsBetween z (occurrences z y 0 z.length (z.length+1)) y.length).length<=z.length+2:=by
 rw[length_partsBetween]
 have e1:=StrLaws.occ_length_le z y 0 z.length (z.length+1)
 omega
end
end L2
namespace SL
open PySem PySem.Builtin.Str L2
def spStep (c:Nat)(s:List Str×Str)(x:Nat):List Str×Str:=if x=c then(s.1++[s.2],Str.empty) else(s.1,s.2++⟨#[x]⟩)
def spWalk (c:Nat)(l:List Nat):List Str×Str:=l.foldl (spStep c) ([],Str.empty)
def spl (c:Nat)(l:List Nat):List Str:=(spWalk c l).1++[(spWalk c l).2]
theorem spWalk_snoc (c:Nat)(l:List Nat)(x:Nat):spWalk c (l++[x])=spStep c (spWalk c l) x:=by
 unfold spWalk
 rw[List.foldl_append]
 rfl
theorem occ_one (z:Str)(c:Nat)(hi limit:Nat):∀(k i:Nat) (st:Array Nat×Nat),st.2<=i->st.1.size+k<=limit→
  (forIn (List.range' i k) st (StrLaws.occBody z ⟨#[c]⟩ hi limit)).run.fst.toList=st.1.toList++(List.range' i k).filter fun j=>decide (j+(⟨#[c]⟩:Str).length<=hi/\subAt z ⟨#[c]⟩ j=true)
 |0,i,st,_,_=>by
  rw[show List.range' i 0=[] from rfl,List.filter_nil,List.append_nil]
  rfl
 |k+1,i,st,h1,h2=>by
  rw[List.range'_succ,List.forIn_cons,List.filter_cons]
  unfold StrLaws.occBody
  by_cases hc:i+(⟨#[c]⟩:Str).length<=hi/\subAt z ⟨#[c]⟩ i=true
  ·rw[if_pos ⟨⟨⟨by omega,h1⟩,hc.1⟩,hc.2⟩,if_pos (decide_eq_true hc)]
   refine(occ_one z c hi limit k (i+1) (st.1.push i,i+1) (Nat.le_refl _) (by rw[Array.size_push];omega)).trans ?_
   rw[Array.toList_push,List.append_assoc]
   rfl
  ·rw[if_neg (fun y=>hc ⟨y.1.2,y.2⟩),if_neg (by rw[decide_eq_false hc];nofun)]
   exact occ_one z c hi limit k (i+1) st (by omega) (by omega)
def cutsTo (z:Str)(c k:Nat):List Nat:=(List.range' 0 k).filter fun j=>decide (z.cps.toList[j]?=some c)
theorem occ_cuts (z:Str)(c:Nat):occurrences z ⟨#[c]⟩ 0 z.length (z.length+1)=cutsTo z c z.length:=by
 rw[StrLaws.occ_eq,occ_one z c _ _ _ 0 (#[],0) (Nat.le_refl _) (by show 0+(z.length+1-0)<=_;omega)]
 show[]++_=_
 rw[List.nil_append,show z.length+1-0=z.length+1 from rfl,List.range'_concat,List.filter_append]
 unfold cutsTo
 have e:∀j,decide (j+(⟨#[c]⟩:Str).length<=z.length/\subAt z ⟨#[c]⟩ j=true)=decide (z.cps.toList[j]?=some c):=fun j=>decide_eq_decide.mpr (StrLaws.subAt_one z c j)
 have e2:z.cps.toList[z.length]?=none:=List.getElem?_eq_none (by rw[Array.length_toList];exact Nat.le_refl _)
 rw[show(fun j=>decide (j+(⟨#[c]⟩:Str).length<=z.length/\subAt z ⟨#[c]⟩ j=true))=(fun j=>decide (z.cps.toList[j]?=some c)) from funext e]
 rw[show 0+1*z.length=z.length by omega,List.filter_cons,if_neg (by rw[e2];nofun),List.filter_nil,List.append_nil]
inductive Cut (z:Str):List Nat->List Str->Nat->Prop where
 |nil:Cut z [] [] 0
 |snoc {cuts done b} (i:Nat):Cut z cuts done b->Cut z (cuts++[i]) (done++[strSub z b i]) (i+1)
def partsTo (z:Str)(cuts:List Nat)(last:Nat):List Str:=((0::cuts.map (· + 1)).zip (cuts++[last])).map fun p=>strSub z p.1 p.2
theorem Cut.parts {z:Str}{cuts:List Nat}{done:List Str}{b:Nat}(h:Cut z cuts done b):∀last,partsTo z cuts last=done++[strSub z b last]:=by
 induction h with
 |nil=>exact fun last=>rfl
 |snoc i h ih=>
  intro last
  unfold partsTo
  rw[List.map_append,<- List.cons_append,List.zip_append (by rw[List.length_cons,List.length_map,List.length_append];rfl),List.map_append]
  have q:=ih i
  unfold partsTo at q
  rw[q]
  rfl
theorem sub_nil (z:Str)(i:Nat):strSub z i i=Str.empty:=Str.ext' (by
 show z.cps.extract i i=#[]
 exact Array.eq_empty_of_size_eq_zero (by rw[Array.size_extract];omega))
theorem walk_cuts (z:Str)(c:Nat):∀k,k<=z.length->∃b,b<=k/\Cut z (cutsTo z c k) (spWalk c (z.cps.toList.take k)).1 b/\(spWalk c (z.cps.toList.take k)).2=strSub z b k
 |0,_=>⟨0,Nat.le_refl _,.nil,(sub_nil z 0).symm⟩
 |k+1,h=>by
  obtain⟨b,h1,h2,h3⟩:=walk_cuts z c k (by omega)
  have hk:k<z.cps.toList.length:=by rw[Array.length_toList];exact h
  have e:z.cps.toList.take (k+1)=z.cps.toList.take k++[z.cps.toList[k]]:=by
   rw[List.take_add_one,List.getElem?_eq_getElem hk]
   rfl
  have e1:z.cps.toList[k]?=some z.cps.toList[k]:=List.getElem?_eq_getElem hk
  have ec:cutsTo z c (k+1)=cutsTo z c k++(if z.cps.toList[k]=c then[k] else[]):=by
   unfold cutsTo
   rw[List.range'_concat,List.filter_append,show 0+1*k=k by omega,List.filter_cons,List.filter_nil,e1]
   by_cases hc:z.cps.toList[k]=c
   ·rw[if_pos (decide_eq_true (by rw[hc])),if_pos hc]
   ·rw[if_neg (by rw[decide_eq_false (fun y=>hc (by injection y))];nofun),if_neg hc]
  rw[e,spWalk_snoc,ec]
  unfold spStep
  by_cases hc:z.cps.toList[k]=c
  ·rw[if_pos hc,if_pos hc,h3]
   exact⟨k+1,Nat.le_refl _,.snoc k h2,(sub_nil z _).symm⟩
  ·rw[if_neg hc,if_neg hc,List.append_nil,h3]
   refine⟨b,by omega,h2,?_⟩
   have hs:k<z.cps.size:=h
   have eg:z.cps.getD k 0=z.cps.toList[k]:=by simp[Array.getD,hs]
   show _=strSub z b (k+1)
   rw[<- eg]
   exact(KWd.sub_snoc z h1 h).symm
theorem split_spl (z:Str){c:Nat}(hc:c<256):Txt.split z ⟨#[c]⟩=spl c z.cps.toList:=by
 have whole:partsTo z (cutsTo z c z.length) z.length=spl c z.cps.toList:=by
  obtain⟨b,_,h2,h3⟩:=walk_cuts z c z.length (Nat.le_refl _)
  have e:z.cps.toList.take z.length=z.cps.toList:=by
   rw[List.take_of_length_le (by rw[Array.length_toList];exact Nat.le_refl _)]
  rw[e] at h2 h3
  rw[h2.parts]
  unfold spl
  rw[h3]
 have none:cutsTo z c z.length=[]->[z]=spl c z.cps.toList:=fun h=>by
  rw[<- whole,h]
  show[z]=[strSub z 0 z.length]
  rw[show strSub z 0 z.length=z from Str.ext' (by show z.cps.extract 0 z.cps.size=z.cps;exact Array.extract_size)]
 unfold Txt.split
 rw[occ_cuts]
 split
 ·rename_i h
  refine none ?_
  rcases Bool.or_eq_true_iff.mp h with h|h
  ·have h:=of_decide_eq_true h
   have:z.length=0:=Nat.lt_one_iff.mp h
   rw[this]
   rfl
  ·have h:=of_decide_eq_true h
   have e:Builtin.Str.strKind ⟨#[c]⟩=1:=by
    unfold Builtin.Str.strKind
    rw[if_pos (by simp[hc])]
   rw[e] at h
   unfold Builtin.Str.strKind at h
   split at h
   ·omega
   ·split at h<;>omega
 ·split
  ·rename_i h
   exact none (List.isEmpty_iff.mp h)
  ·exact whole
end SL
namespace SL
open PySem L2
def FIG:Str:=Str.ofString "0123456789"
def SMA:Str:=Str.ofString "abcdefghijklmnopqrstuvwxyz"
def NAM:Str:=Str.ofString "abcdefghijklmnopqrstuvwxyz0123456789"
def MAR:Str:=Str.ofString "abcdefghijklmnopqrstuvwxyzABCDEFGHIJKLMNOPQRSTUVWXYZ0123456789.:-_/="
def hasC (S:Str)(c:Nat):Bool:=decide (c∈S.cps.toList)
def madeM (S z:Str):Bool:=z.cps.toList.all (hasC S)
def hd (z:Str):Nat:=z.cps.toList.headD 0
def isNum (z:Str):Bool:=decide (1<=z.length/\z.length<=9)&&(madeM FIG z&&(decide (z=Str.ofString "0")||!decide ((⟨#[hd z]⟩:Str)=Str.ofString "0")))
def isName (z:Str):Bool:=decide (1<=z.length/\z.length<=12)&&(hasC SMA (hd z)&&madeM NAM z)
def isItem (z:Str):Bool:=isNum z||isName z
def isList (z:Str):Bool:=(Txt.startswith z (Str.ofString "[")&&Txt.endswith z (Str.ofString "]"))&&(decide (z=Str.ofString "[]")||(decide ((Txt.split (Txt.slice z (some 1) (some (-1))) (Str.ofString ",")).length<=4)&&(Txt.split (Txt.slice z (some 1) (some (-1))) (Str.ofString ",")).all isItem))
def isMark (z:Str):Bool:=decide (1<=z.length/\z.length<=12)&&(madeM MAR z&&!isItem z)
inductive So where
 |num|nam|lis|mar
 deriving DecidableEq
def So.str:So->Str
 |.num=>Str.ofString "number" | .nam=>Str.ofString "name" | .lis=>Str.ofString "list" | .mar=>Str.ofString "mark"
def sortM (z:Str):Option So:=if isNum z then some .num else if isName z then some .nam else if isList z then some .lis else if isMark z then some .mar else none
def vS:Option So->V
 |none=>.non
 |some k=>.str k.str
end SL
namespace L2
open PySem PySem.Spec PyProof.Rows
section
variable {X:Cx}
theorem call_intT:CallR X (.type "int") (fun xs H Q=>∃z n,xs=[.str z]/\PySem.intText? z=some n/\z.length<=640/\Q (.int n) H):=by
 intro pins s σ H xs us Q I r h
 obtain⟨z,n,rfl,hn,hl,q⟩:=h
 obtain⟨u,rfl,rx⟩:=vals1 r
 obtain⟨t,rfl⟩:=rx
 exact W.KIN.call_text hn hl ⟨.int n,H,I.tok _,⟨_,rfl⟩,q⟩
theorem call_strI:CallR X (.type "str") (fun xs H Q=>∃n:Int,xs=[.int n]/\n.natAbs.log2<1920/\Q (.str (Str.ofString (toString n))) H):=by
 intro pins s σ H xs us Q I r h
 obtain⟨n,rfl,hn,q⟩:=h
 obtain⟨u,rfl,rx⟩:=vals1 r
 obtain⟨t,rfl⟩:=rx
 exact PySem.P.str_of_int hn ⟨.str _,H,I.tok _,⟨_,rfl⟩,q⟩
end
end L2
namespace L2
open PySem PySem.Spec PyProof.Rows
section
variable {M:Model} {A:Around} {E:Value->Shared->Prop} {s:Shared}
structure LeftBy (fs:List Addr)(e T:Addr)(h h':Heap):Prop where
 keep:∀b o,b≠e->b∉fs->h.get? b=some o->h'.get? b=some o
 slot:∀b o,b≠e->h.get? b=some o->∃sl,h'.get? b=some { o with slots:=sl }
 exc:∀oe vs,h.get? e=some oe->oe.data=.fields vs->∃oe',h'.get? e=some oe'/\oe'.cls=oe.cls/\oe'.dict=oe.dict/\oe'.data=.fields (vs.setIfInBounds 1 (.ref T))
 new:h.get? T=none
 tr:∃oT ts,h'.get? T=some oT/\oT.data=.fields ts/\ts[3]?=some .none
theorem note_new {base:Heap}{env:Env}{outer:List Env}{L e:Addr}{oe:Obj}{vs:Array Value}{hd:Value}{nx:Bool}{Q:Unit->Shared->Prop}(fr:A.frames=some (env::outer))(ff:s.heap.FunFrames base (env::outer))(ef:env.frame=some L)
  (ge:s.heap.get? e=some oe) (de:oe.data=.fields vs) (sz:1<vs.size) (q:∀h' T,LeftBy ((env::outer).filterMap (·.frame)) e T s.heap h'->Q () { s with heap:=h' }):
  wpAny M A (do let a ← frameOf env;let pl ← entryPlaceOf L nx;let b ← EntryCells.newEntry hd a .none (rawInt L) .none pl;setField (.ref e) 1 b) (fun _ s'=>wpAny M A (setFlight (.ref e) none) Q E s') E s:=by
 have nf:e∉(env::outer).filterMap (·.frame):=fun m=>by
  obtain⟨_,o,ho,hn⟩:=ff.mem m
  rw[ge] at ho
  cases ho
  exact hn vs de
 refine wpAny_bind (wpAny_frameOf_fun fr ff ef fun k1 ks=>?_)
 refine wpAny_bind (wpAny_entryPlaceOf fun pl hpl=>?_)
 unfold EntryCells.newEntry newFields
 refine wpAny_bind (wpAny_newObj_type ?_ (hpl.sizeOk5 _ _ _ _ _))
 have g1:k1.get? e=some oe:=(ks.2.1 e nf).trans ge
 generalize hob:({ cls:=.type "traceback",dict:=none,data:=.fields ([hd,.ref L,.none,rawInt L,.none]++(if pl.isEmpty then List.replicate 6 Value.none else pl)).toArray }:Obj)=ob
 have g2:=Heap.get?_push_of_some (h:=k1) ob g1
 refine wpAny_setField g2 de sz ?_
 have ne:k1.objs.size≠e:=Nat.ne_of_gt (Heap.lt_size g1)
 have d3:=Obj.data_mapFields de (·.setIfInBounds 1 (Value.ref k1.objs.size))
 have g3:=Heap.get?_update_self (Obj.mapFields (·.setIfInBounds 1 (Value.ref k1.objs.size))) g2 (Obj.isFreed_of_fields d3)
 have t3:=(Heap.get?_update_other (k1.push ob) (Obj.mapFields (·.setIfInBounds 1 (Value.ref k1.objs.size))) (Ne.symm ne)).trans (Heap.get?_push_size k1 (o:=ob) (by rw[<- hob];rfl))
 unfold setFlight
 refine wpAny_bind (wpAny_field g3 d3 (x:=.ref k1.objs.size) (by simp[sz]) ?_)
 rw[if_pos (show(Value.ref k1.objs.size !=Value.none)=true from by simp)]
 have dT:ob.data=.fields ([hd,.ref L,.none,rawInt L,.none]++(if pl.isEmpty then List.replicate 6 Value.none else pl)).toArray:=by rw[<- hob]
 refine wpAny_setField t3 dT (by simp only[List.size_toArray,List.length_append,List.length_cons,List.length_nil]<;>omega) (q _ k1.objs.size ?_)
 have up:∀b o,b≠e->k1.get? b=some o->(((k1.push ob).update e (Obj.mapFields (·.setIfInBounds 1 (Value.ref k1.objs.size)))).update k1.objs.size (Obj.mapFields (·.setIfInBounds 3 ((none:Option Addr).elim Value.none fun f=>rawInt f)))).get? b=some o:=fun b o be hb=>by
  rw[Heap.get?_update_other _ _ (show k1.objs.size≠b from Nat.ne_of_gt (Heap.lt_size hb)),Heap.get?_update_other _ _ (Ne.symm be)]
  exact Heap.get?_push_of_some _ hb
 refine⟨fun b o be bf hb=>up b o be ((ks.2.1 b bf).trans hb),fun b o be hb=>?_,fun oe2 vs2 h1 h2=>?_,?_,?_⟩
 ·obtain⟨sl,hs⟩:=ks.2.2 b o hb
  exact⟨sl,up b _ be hs⟩
 ·rw[ge] at h1
  cases h1
  rw[de] at h2
  cases h2
  refine⟨_,(Heap.get?_update_other _ _ ne).trans g3,Obj.cls_mapFields _ _,?_,d3⟩
  obtain⟨c,dd,dt,sl⟩:=oe
  cases de
  rfl
 ·have:s.heap.objs.size=k1.objs.size:=ks.1.symm
  rw[<- this]
  exact Heap.get?_none_of_le (Nat.le_refl _)
 ·refine⟨_,_,Heap.get?_update_self _ t3 (Obj.isFreed_of_fields (Obj.data_mapFields dT _)),Obj.data_mapFields dT _,?_⟩
  first|(simp;done)|(rcases hpl with rfl|⟨_,_,_,_,_,_,_,rfl⟩<;>simp)
end
end L2
namespace L2
open PySem PySem.Spec PyProof.Rows
section
variable {M:Model} {A:Around} {E:Value->Shared->Prop} {s:Shared}
theorem leave_first {base:Heap}{env:Env}{outer:List Env}{L e:Addr}{oe:Obj}{vs:Array Value}{Q:Unit->Shared->Prop}(fr:A.frames=some (env::outer))(ff:s.heap.FunFrames base (env::outer))(ef:env.frame=some L)
  (ge:s.heap.get? e=some oe) (de:oe.data=.fields vs) (v1:vs[1]?=some .none) (q:∀h' T,LeftBy ((env::outer).filterMap (·.frame)) e T s.heap h'->Q () { s with heap:=h' }):wpAny M A (leaving env (.ref e)) Q E s:=by
 unfold leaving noteFrame
 simp only[ef]
 refine wpAny_bind (wpAny_bind (wpAny_field ge de v1 ?_))
 rw[if_neg (by decide)]
 exact note_new fr ff ef ge de (Array.getElem?_eq_some_iff.mp v1).1 q
end
theorem ObjOk.there {P:Program}{w:World}{H:Hp}{h:Heap}{a:Addr}{o:HO}(x:ObjOk P w H h a o):∃ob,h.get? a=some ob:=by
 cases o with
 |lst xs=>obtain⟨_,_,_,_,e⟩:=x;exact⟨_,e⟩
 |tup xs=>obtain⟨_,_,_,ob,e,_⟩:=x;exact⟨ob,e⟩
 |dK kvs=>obtain⟨_,_,_,_,o,_,_,e,_⟩:=x;exact⟨_,e⟩
 |dT kvs=>obtain⟨_,_,_,_,o,_,_,e,_⟩:=x;exact⟨_,e⟩
 |set S n=>obtain⟨o,_,_,_,e,_⟩:=x;exact⟨_,e⟩
 |ins C dx fs=>obtain⟨_,_,_,e,_⟩:=x;exact⟨_,e⟩
 |own y=>obtain⟨_,e⟩:=x;exact⟨_,e⟩
 |xd fs=>obtain⟨_,⟨_,_,_,e,_⟩,_⟩:=x;exact⟨_,e⟩
 |rng lo hi=>obtain⟨_,_,_,e⟩:=x;exact⟨_,e⟩
 |frz ob u=>exact⟨ob,x.1⟩
 |tbl ps=>exact⟨_,x⟩
 |met f y=>exact⟨_,x⟩
 |ext φ=>obtain⟨_,⟨ob,e⟩,_⟩:=x;exact⟨ob,e⟩
def Fly (h h':Heap)(H':Hp)(a C:Addr)(dd:Option Addr):Prop:=h.get? a=none/\H' a=none/\∃oe vs T oT ts,h'.get? a=some oe/\oe.cls=.ref C/\oe.dict=dd/\oe.data=.fields vs/\vs[1]?=some (.ref T)/\T≠a/\h.get? T=none/\H' T=none/\h'.get? T=some oT/\oT.data=.fields ts/\ts[3]?=some .none
def CX1 (P:Program)(w:World):CXT:=fun outer H s E e s'=>∃(a C:Addr) (dd:Option Addr) (H':Hp),e=.ref a/\s'.os=s.os/\AllBare s'.gens/\Un (frs outer) [] H H' s.heap s'.heap/\HOk P w H' s'.heap/\Fly s.heap s'.heap H' a C dd/\E (.ref C) dd H'
end L2
namespace L2
open PySem PySem.Spec PyProof.Rows
section
variable {M:Model} {A:Around} {E:Value->Shared->Prop} {s:Shared}
theorem leave_next {base:Heap}{env:Env}{outer:List Env}{L e T0:Addr}{oe oT:Obj}{vs ts:Array Value}{Q:Unit->Shared->Prop}(fr:A.frames=some (env::outer))(ff:s.heap.FunFrames base (env::outer))(ef:env.frame=some L)
  (ge:s.heap.get? e=some oe) (de:oe.data=.fields vs) (v1:vs[1]?=some (.ref T0)) (gT:s.heap.get? T0=some oT) (dT:oT.data=.fields ts) (t3:ts[3]?=some .none) (ne:T0≠e)
  (q:∀h1 h' T,(∀b,b≠T0->h1.get? b=s.heap.get? b)->(∃o,h1.get? T0=some o)->LeftBy ((env::outer).filterMap (·.frame)) e T h1 h'->Q () { s with heap:=h' }):wpAny M A (leaving env (.ref e)) Q E s:=by
 unfold leaving noteFrame
 simp only[ef]
 refine wpAny_bind (wpAny_bind (wpAny_field ge de v1 ?_))
 rw[if_pos (show(Value.ref T0 !=Value.none)=true from by simp)]
 refine wpAny_bind (wpAny_field gT dT t3 ?_)
 rw[if_neg (show ¬((Value.none==rawInt L)=true) from by simp[rawInt])]
 refine wpAny_bind (wpAny_setField gT dT (Array.getElem?_eq_some_iff.mp t3).1 ?_)
 have oth:∀b,b≠T0->(s.heap.update T0 (Obj.mapFields (·.setIfInBounds 3 Value.none))).get? b=s.heap.get? b:=fun b hb=>Heap.get?_update_other _ _ (Ne.symm hb)
 have there:=Heap.get?_update_self (Obj.mapFields (·.setIfInBounds 3 Value.none)) gT (Obj.isFreed_of_fields (Obj.data_mapFields dT _))
 have nr:∀b o,s.heap.get? b=some o->(∀us,o.data≠.fields us)->b≠T0:=fun b o hb hn z=>by
  rw[z,gT] at hb
  cases hb
  exact hn ts dT
 exact note_new (s:={ s with heap:=s.heap.update T0 (Obj.mapFields (·.setIfInBounds 3 Value.none)) }) fr (ff.of_keeps fun b o hb hn=>⟨o,(oth b (nr b o hb hn)).trans hb,rfl⟩) ef ((oth e (Ne.symm ne)).trans ge) de (Array.getElem?_eq_some_iff.mp v1).1 fun h' T lb=>q _ h' T oth ⟨_,there⟩ lb
end
theorem Fun.okX {P:Program}{w:World}{K:W.Frag}{mg:Str->Option Value}{base:Heap}{x qual:Str}{st:Stmt}{f:Addr}{fd:FuncData}{N ps:List Str}{k:Nat}{sp:Sp}(F:Fun K x qual st f fd)(S:FnScope N ps (defScope st))(len:∀vs H Q E,sp vs H Q E->vs.length=ps.length)
  (hbody:∀(cdv:Value) (A:Around) (outer:List Env) (s:Shared) (H:Hp) (vs:List V) (Q:VK) (E:XK),Room k (A.deeper (envOfC qual (defScope st) s.heap.objs.size f cdv))->sp vs H Q E→
   ∃t,PSs (cxOf (CX1 P w) P w K mg base N qual (defScope st) f cdv A outer s H E) (defBody st) t/\t { nx:=fun _ H'=>Q .non H',rt:=Q } (start N vs) H):FnOk P w K mg base (CX1 P w) (k+1) f fd ps sp:=by
 obtain⟨oc,od,kV,doc,pm,an,cdv,ct,osl,rfl,lk,hcd⟩:=F.ex
 exact fn_of lk hcd S len fun A outer s H vs Q E hr hsp=>hbody cdv A outer s H vs Q E hr hsp
theorem pass1 {P:Program}{w:World}{K:W.Frag}{mg:Str->Option Value}{base:Heap}{N:List Str}{qual:Str}{scope:Scope}{f:Addr}{cd:Value}{A:Around}{outer:List Env}{s:Shared}{H:Hp}{E:XK}:
  Passes (CX1 P w) (cxOf (CX1 P w) P w K mg base N qual scope f cd A outer s H E) E:=by
 intro pins σ H1 s1 e s' I hx
 obtain⟨a,C,dd,H2,rfl,hos,hgen,un,hok,⟨n1,n2,oe,vs,T0,oT,ts,g1,g2,gd,g3,g4,g5,g6,g7,g8,g9,g10⟩,hE⟩:=hx
 obtain⟨hh,g,d,t,os'⟩:=s'
 obtain rfl:os'=s1.os:=hos
 have I2:Inv (cxOf (CX1 P w) P w K mg base N qual scope f cd A outer s H E) pins σ H2 ⟨hh,g,d,t,s1.os⟩:=I.call (h':=hh) (g':=g) (d':=d) (t':=t) (ch:=[]) un hok hgen (fun b z=>absurd z (by simp))
 have fr:(A.deeper (envOfC qual scope s.heap.objs.size f cd)).frames=some (envOfC qual scope s.heap.objs.size f cd::outer):=I.ok.frames
 have fE:∀b∈(envOfC qual scope s.heap.objs.size f cd::outer).filterMap (·.frame),H2 b=none:=I2.stkFree
 have old1:∀b,s1.heap.get? b=none->s.heap.get? b=none:=fun b hb=>by
  cases q:s.heap.get? b with
  |none=>rfl
  |some o=>
   obtain⟨o',z⟩:=I.base.there b o q (by show b∉([]:List Addr);simp)
   rw[hb] at z
   cases z
 have old2:∀b,hh.get? b=none->s.heap.get? b=none:=fun b hb=>by
  cases q:s.heap.get? b with
  |none=>rfl
  |some o=>
   obtain⟨o',z⟩:=I2.base.there b o q (by show b∉([]:List Addr);simp)
   have z':hh.get? b=some o':=z
   rw[hb] at z'
   cases z'
 have unt:∀b,hh.get? b=none->H2 b=none:=fun b hb=>by
  cases q:H2 b with
  |none=>rfl
  |some o=>
   obtain⟨ob,z⟩:=(I2.hok b o q).there
   have z':hh.get? b=some ob:=z
   rw[hb] at z'
   cases z'
 refine leave_next (s:=⟨hh,g,d,t,s1.os⟩) fr I2.stack rfl g1 g3 g4 g8 g9 g10 g5 fun h1 h' T o1 o2 lb=>?_
 have na:∀b o,s.heap.get? b=some o->b≠a/\b≠T0:=fun b o hb=>by
  refine⟨fun z=>?_,fun z=>?_⟩
  ·rw[z,old1 a n1] at hb
   cases hb
  ·rw[z,old1 T0 g6] at hb
   cases hb
 have nL:∀b o,s.heap.get? b=some o->b∉frs outer->b∉(envOfC qual scope s.heap.objs.size f cd::outer).filterMap (·.frame):=fun b o hb hf hm=>by
  rcases List.mem_cons.mp (show b∈s.heap.objs.size::frs outer from hm) with z|z
  ·exact absurd (Heap.lt_size hb) (by rw[z];exact Nat.lt_irrefl _)
  ·exact hf z
 have hTT:T≠T0:=fun z=>by
  obtain⟨o,q⟩:=o2
  rw[<- z,lb.new] at q
  cases q
 have hT:hh.get? T=none:=(o1 T hTT).symm.trans lb.new
 refine⟨a,C,dd,H2,rfl,I2.os,I2.bare,⟨fun b o hb hn hf hx=>?_,fun b o hb hn hf hx=>?_,fun b o hb hn hx=>I2.base.free b o hb hn hx,fun b o hb hx=>?_,I2.base.tups,I2.base.frzs,I2.base.tbls⟩,fun b o hb=>?_,⟨old1 a n1,n2,?_⟩,hE⟩
 ·have q:hh.get? b=some o:=I2.base.keep b o hb hn hf hx
  exact lb.keep b o (na b o hb).1 (nL b o hb hf) ((o1 b (na b o hb).2).trans q)
 ·obtain⟨sl,q⟩:=I2.base.slot b o hb hn hf hx
  have q':hh.get? b=some { o with slots:=sl }:=q
  obtain⟨sl2,q2⟩:=lb.slot b _ (na b o hb).1 ((o1 b (na b o hb).2).trans q')
  exact⟨sl2,q2⟩
 ·obtain⟨o',q⟩:=I2.base.there b o hb hx
  have q':hh.get? b=some o':=q
  obtain⟨sl,q2⟩:=lb.slot b o' (na b o hb).1 ((o1 b (na b o hb).2).trans q')
  exact⟨_,q2⟩
 ·refine(I2.hok b o hb).stay (fun c u z hc=>?_) (fun c z=>z) fun c xs z=>z
  have hc2:H2 c≠none:=fun q=>by
   rcases z with z|z
   ·rw[z,hb] at q
    cases q
   ·rw[z] at q
    cases q
  exact lb.keep c u (fun z=>hc2 (by rw[z];exact n2)) (fun hm=>hc2 (fE c hm)) ((o1 c (fun z=>hc2 (by rw[z];exact g7))).trans hc)
 ·obtain⟨oe',q1,q2,q3,q4⟩:=lb.exc oe vs ((o1 a (Ne.symm g5)).trans g1) g3
  obtain⟨oT',ts',t1,t2,t3⟩:=lb.tr
  refine⟨oe',_,T,oT',ts',q1,q2.trans g2,q3.trans gd,q4,?_,fun z=>?_,old2 T hT,unt T hT,t1,t2,t3⟩
  ·have:=(Array.getElem?_eq_some_iff.mp g4).1
   simp[this]
  ·have g1':hh.get? a=some oe:=g1
   rw[<- z,hT] at g1'
   cases g1'
end L2
namespace L2
open PySem PySem.Spec PyProof.Rows
section
variable {M:Model} {A:Around} {E:Value->Shared->Prop} {s:Shared}
theorem look_next {base:Heap}{env:Env}{outer:List Env}{L e T0:Addr}{oe oT:Obj}{vs ts:Array Value}{Q:Unit->Shared->Prop}(fr:A.frames=some (env::outer))(ff:s.heap.FunFrames base (env::outer))(ef:env.frame=some L)
  (ge:s.heap.get? e=some oe) (de:oe.data=.fields vs) (v1:vs[1]?=some (.ref T0)) (gT:s.heap.get? T0=some oT) (dT:oT.data=.fields ts) (t3:ts[3]?=some .none) (ne:T0≠e)
  (q:∀h1 h' T,(∀b,b≠T0->h1.get? b=s.heap.get? b)->(∃o,h1.get? T0=some o)->LeftBy ((env::outer).filterMap (·.frame)) e T h1 h'->Q () { s with heap:=h' }):
  wpAny M A (noteFrame (.ref e) env) (fun _ s2=>wpAny M A (setFlight (.ref e) none) Q E s2) E s:=by
 unfold noteFrame
 simp only[ef]
 refine wpAny_bind (wpAny_field ge de v1 ?_)
 rw[if_pos (show(Value.ref T0 !=Value.none)=true from by simp)]
 refine wpAny_bind (wpAny_field gT dT t3 ?_)
 rw[if_neg (show ¬((Value.none==rawInt L)=true) from by simp[rawInt])]
 refine wpAny_bind (wpAny_setField gT dT (Array.getElem?_eq_some_iff.mp t3).1 ?_)
 have oth:∀b,b≠T0->(s.heap.update T0 (Obj.mapFields (·.setIfInBounds 3 Value.none))).get? b=s.heap.get? b:=fun b hb=>Heap.get?_update_other _ _ (Ne.symm hb)
 have there:=Heap.get?_update_self (Obj.mapFields (·.setIfInBounds 3 Value.none)) gT (Obj.isFreed_of_fields (Obj.data_mapFields dT _))
 have nr:∀b o,s.heap.get? b=some o->(∀us,o.data≠.fields us)->b≠T0:=fun b o hb hn z=>by
  rw[z,gT] at hb
  cases hb
  exact hn ts dT
 exact note_new (s:={ s with heap:=s.heap.update T0 (Obj.mapFields (·.setIfInBounds 3 Value.none)) }) fr (ff.of_keeps fun b o hb hn=>⟨o,(oth b (nr b o hb hn)).trans hb,rfl⟩) ef ((oth e (Ne.symm ne)).trans ge) de (Array.getElem?_eq_some_iff.mp v1).1 fun h' T lb=>q _ h' T oth ⟨_,there⟩ lb
theorem flight {e T:Addr}{oe oT:Obj}{vs ts:Array Value}{Q:Unit->Shared->Prop}(ge:s.heap.get? e=some oe)(de:oe.data=.fields vs)(v1:vs[1]?=some (.ref T))(gT:s.heap.get? T=some oT)(dT:oT.data=.fields ts)(t3:ts[3]?=some .none)
  (q:∀h',(∀b,b≠T->h'.get? b=s.heap.get? b)->(∃oT' ts',h'.get? T=some oT'/\oT'.data=.fields ts'/\ts'[3]?=some .none)->Q () { s with heap:=h' }):wpAny M A (setFlight (.ref e) none) Q E s:=by
 unfold setFlight
 refine wpAny_bind (wpAny_field ge de v1 ?_)
 rw[if_pos (show(Value.ref T !=Value.none)=true from by simp)]
 have sz:=(Array.getElem?_eq_some_iff.mp t3).1
 refine wpAny_setField gT dT sz (q _ (fun b hb=>Heap.get?_update_other _ _ (Ne.symm hb)) ⟨_,_,Heap.get?_update_self _ gT (Obj.isFreed_of_fields (Obj.data_mapFields dT _)),Obj.data_mapFields dT _,?_⟩)
 simp[sz]
end
end L2
namespace L2
open PySem PySem.Spec PyProof.Rows
abbrev ExK:=St->Addr->Option Addr->Hp->Prop
def Fr0 (X:Cx)(pins:List (Addr×Obj))(h0:Heap):Prop:=(∀b,h0.get? b=none->X.s₀.heap.get? b=none\/b∈X.ex)/\∀p∈X.pn++pins,h0.get? p.1=some p.2
theorem Inv.fr0 {X:Cx}{pins:List (Addr×Obj)}{σ:St}{H:Hp}{s:Shared}(I:Inv X pins σ H s):Fr0 X pins s.heap:=by
 refine⟨fun b hb=>?_,fun p hp=>(I.pin p hp).1⟩
 by_cases hx:b∈X.ex
 ·exact .inr hx
 ·refine .inl ?_
  cases q:X.s₀.heap.get? b with
  |none=>rfl
  |some o=>
   obtain⟨o',z⟩:=I.base.there b o q hx
   rw[hb] at z
   cases z
def XF (X:Cx)(pins:List (Addr×Obj))(Ex:ExK)(e:Value)(s':Shared):Prop:=∃(h0:Heap) (a C:Addr) (dd:Option Addr) (σ':St) (H':Hp),e=.ref a/\Inv X pins σ' H' s'/\Fly h0 s'.heap H' a C dd/\Fr0 X pins h0/\Ex σ' C dd H'
abbrev TX:=St->Hp->VK->ExK->Prop
def PEX (X:Cx)(e:Expr)(t:TX):Prop:=∀(pins:List (Addr×Obj)) (s:Shared) (σ:St) (H:Hp) (Q:VK) (Ex:ExK),Inv X pins σ H s->t σ H Q Ex->wpAny (model X.prog X.w) X.A (eval e X.env) (EP X pins σ Q) (XF X pins Ex) s
section
variable {X:Cx} {k:Nat} {f C:Addr} {fd:FuncData} {ps:List Str} {sp:Sp} {dvs:List V} {ds:List Value} {x m:Str} {p pos apos:Pos} {e o:Expr} {es:List Expr} {ta:TE} {t:TA}
theorem run_fnX {pins:List (Addr×Obj)}{σ:St}{H:Hp}{s:Shared}{Q:VK}{Ex:ExK}{us:List Value}{vs:List V}(F:FnOk X.prog X.w X.K X.mg X.base (CX1 X.prog X.w) k f fd ps sp)(hr:Room k X.A)(hb:Binds X.K fd ps ds)(hd:Vals dvs ds)
  (I:Inv X pins σ H s) (r:Vals vs us) (h:sp (vs++dvs) H Q (fun cls dd H'=>∃C,cls=.ref C/\Ex σ C dd H')):wpAny (model X.prog X.w) X.A (call (.ref f) us) (EP X pins σ Q) (XF X pins Ex) s:=by
 have r2:Vals (vs++dvs) (us++ds):=r.append hd
 have hl:(us++ds).length=ps.length:=by rw[<- r2.length];exact F.len _ _ _ _ h
 refine wpAny_call (codeAny_mono (F.run X.A X.stack s H ⟨us,[]⟩ (us++ds) (vs++dvs) Q _ hr I.env0 (hb s us I.kIn hl) r2 h) fun r s' hq=>?_)
 cases r with
 |error e=>
  obtain⟨a,C,dd,H2,rfl,hos,hgen,un,hok,fl,C',hC,hE⟩:=hq
  cases hC
  obtain⟨hh,g,d,t,os'⟩:=s'
  obtain rfl:os'=s.os:=hos
  exact⟨s.heap,a,C,dd,σ,H2,rfl,I.call (h':=hh) (g':=g) (d':=d) (t':=t) (ch:=[]) un hok hgen (fun b z=>absurd z (by simp)),fl,I.fr0,hE⟩
 |ok fl=>
  cases fl with
  |ret u=>exact I.after hq
  |next=>exact False.elim hq
  |brk=>exact False.elim hq
  |cont=>exact False.elim hq
theorem pex_call (F:FnOk X.prog X.w X.K X.mg X.base (CX1 X.prog X.w) k f fd ps sp)(hr:Room k X.A)(hg:Gl X x)(hm:X.mg x=some (.ref f))(hk:W.keepIn X.K (.ref f)=true)(hb:Binds X.K fd ps ds)(hd:Vals dvs ds)
  (ha:PA X.nox (e::es) t) (hdb:(x==("__debug__":Str))=false:=by decide) (he:starEach (e::es) X.env=(false,eval e X.env)::starEach es X.env:=by rfl) (hpl:(backTo pos (starEach es X.env)).any (·.1)=false:=by rfl):
  PEX X (.Call (.Name x p) (e::es) [] pos) (fun σ H Q Ex=>t σ H fun vs H1=>sp (vs++dvs) H1 Q fun cls dd H'=>∃C,cls=.ref C/\Ex σ C dd H'):=by
 intro pins s σ H Q Ex I h
 refine wpAny_Call_Name_kw (ld_glob I hg hm ?_ hdb)
 refine W.callWith_K (h₀:=X.base) I.ok.mod.kin hk (wpAny_mono (ha pos pins s σ H _ (I.wish _) h) (fun us s1 ⟨vs,H1,I1,r,q⟩=>⟨I1.kIn,?_⟩) fun _ _ z=>z.elim) he hpl
 exact run_fnX F hr hb hd I1.unwish r q
abbrev TSX:=Ends->St->Hp->ExK->Prop
def PSX (X:Cx)(st:Stmt)(t:TSX):Prop:=∀(pins:List (Addr×Obj)) (s:Shared) (σ:St) (H:Hp) (D:Ends) (Ex:ExK),Inv X pins σ H s->t D σ H Ex->wpAny (model X.prog X.w) X.A (exec st X.env) (SP X pins D) (XF X pins Ex) s
def PSsX (X:Cx)(st:List Stmt)(t:TSX):Prop:=∀(pins:List (Addr×Obj)) (s:Shared) (σ:St) (H:Hp) (D:Ends) (Ex:ExK),Inv X pins σ H s->t D σ H Ex->wpAny (model X.prog X.w) X.A (execs st X.env) (SP X pins D) (XF X pins Ex) s
def tDropX (t:TX):TSX:=fun D σ H Ex=>t σ H (fun _ H1=>D.nx σ H1) Ex
theorem psx_expr {te:TX}(he:PEX X e te)(hs:swapsWith e none pos.line X.env=pure false:=by rfl):PSX X (.Expr e pos) (tDropX te):=by
 intro pins s σ H D Ex I h
 exact wpAny_Expr_any (thn (he pins s σ H _ Ex I h) fun v s1 ⟨x,H1,I1,r1,q1⟩=>⟨σ,H1,I1,q1⟩) I.quiet hs
def tSetX (i:Nat)(t:TX):TSX:=fun D σ H Ex=>t σ H (fun v H1=>D.nx (σ.set i (some v)) H1) Ex
theorem psx_set {i:Nat}{te:TX}{pos':Pos}(hN:X.N.Nodup)(hi:X.N[i]?=some x)(hx:Loc X.env.scope x)(he:PEX X e te)(hs:swapsWith e (some (.Name x pos')) pos.line X.env=pure false:=by rfl)(hf:X.fn x=true\/X.env.scope.names.lookup x=some .local:=by first|exact .inl rfl|exact .inr rfl|assumption):
  PSX X (.Assign [.Name x pos'] e pos) (tSetX i te):=by
 intro pins s σ H D Ex I h
 refine wpAny_Assign_Name (thn (he pins s σ H _ Ex I h) fun v s1 ⟨y,H1,I1,r1,q1⟩=>?_) hs
 exact store_ok I1 hN hi hx r1 (fun s' I'=>⟨_,_,I',q1⟩) hf
theorem pssx_one {st:Stmt}{t:TSX}(h:PSX X st t):PSsX X [st] t:=by
 intro pins s σ H D Ex I hw
 refine wpAny_execs_cons (thn (h pins s σ H D Ex I hw) fun f s1 q=>?_)
 cases f with
 |next=>exact wpAny_execs_nil q
 |brk=>exact q
 |cont=>exact q
 |ret u=>exact q
end
end L2
namespace L2
open PySem PySem.Spec PyProof.Rows
section
variable {X:Cx} {pins:List (Addr×Obj)} {σ:St} {H H':Hp} {s:Shared} {h0 h':Heap} {ch:List Addr}
theorem Inv.flown {t':Nat}(I:Inv X pins σ H s)(f:Fr0 X pins h0)(hc:∀b∈ch,h0.get? b=none/\∃o vs,s.heap.get? b=some o/\o.data=.fields vs)
  (keep:∀b o,b∉ch->b∉frs X.stack->s.heap.get? b=some o->h'.get? b=some o) (slot:∀b o,b∉ch->s.heap.get? b=some o->∃sl,h'.get? b=some { o with slots:=sl })
  (free:∀b o,b∉ch->s.heap.get? b=some o->H b=none->H' b=none) (tups:∀b xs,H b=some (.tup xs)->H' b=some (.tup xs)) (frzs:∀b o u,H b=some (.frz o u)->H' b=some (.frz o u))
  (tbls:∀b ps,H b=some (.tbl ps)->∃more,H' b=some (.tbl (ps++more))) (hok:HOk X.prog X.w H' h'):Inv X pins σ H' { s with heap:=h',toks:=t' }:=by
 have nL:∀b∈ch,b≠X.env.locals:=fun b hb z=>by
  obtain⟨_,o,vs,ho,hd⟩:=hc b hb
  obtain⟨m,⟨o',es,ep,ho',hd',_⟩,_⟩:=I.loc
  rw[z,ho'] at ho
  cases ho
  rw[hd'] at hd
  cases hd
 have nC:∀b∈ch,∀x c,X.env.cells.lookup x=some c->c≠b:=fun b hb x c e z=>by
  obtain⟨_,o,vs,ho,hd⟩:=hc b hb
  obtain⟨v,o',ho',hd'⟩:=I.cell x c e
  rw[z,ho] at ho'
  cases ho'
  rw[hd] at hd'
  cases hd'
 have nF:∀b∈ch,b∉X.fs:=fun b hb z=>by
  obtain⟨_,o,vs,ho,hd⟩:=hc b hb
  obtain⟨_,o',ho',hn⟩:=I.funs.mem z
  rw[ho] at ho'
  cases ho'
  exact hn vs hd
 have n0:∀b∈ch,X.s₀.heap.get? b=none\/b∈X.ex:=fun b hb=>f.1 b (hc b hb).1
 have nP:∀b∈ch,∀p∈X.pn++pins,p.1≠b:=fun b hb p hp z=>by
  have e:=f.2 p hp
  rw[z,(hc b hb).1] at e
  cases e
 have old:∀b o,X.s₀.heap.get? b=some o->b∉X.ex->b∉ch++X.ex:=fun b o e hx hm=>by
  rcases List.mem_append.mp hm with z|z
  ·rcases n0 b z with q|q
   ·rw[e] at q
    cases q
   ·exact hx q
  ·exact hx z
 have ok':Cx.Ok { X with ex:=ch++X.ex }:=⟨I.ok.mod,I.ok.kind,I.ok.glob,I.ok.blt,I.ok.above,I.ok.inj,I.ok.has,I.ok.cab,I.ok.hd,I.ok.frames,I.ok.stk,
  fun b hb=>(List.mem_append.mp hb).elim (fun z=>⟨nL b z,nC b z⟩) (I.ok.exf b),I.ok.bs,I.ok.bsz,fun b o e=>old b o (I.ok.bs b o e).1 (I.ok.noex b o e),fun b hb=>(List.mem_append.mp hb).elim (nF b) (I.ok.exfs b),I.ok.funs,I.ok.frf⟩
 have I':Inv { X with ex:=ch++X.ex } pins σ H s:=⟨ok',I.os,I.bare,⟨fun b o e n hb hx=>I.base.keep b o e n hb fun z=>hx (List.mem_append_right _ z),fun b o e n hb hx=>I.base.slot b o e n hb fun z=>hx (List.mem_append_right _ z),
  fun b o e n hx=>I.base.free b o e n fun z=>hx (List.mem_append_right _ z),fun b o e hx=>I.base.there b o e fun z=>hx (List.mem_append_right _ z),I.base.tups,I.base.frzs,I.base.tbls⟩,I.loc,I.cell,I.free,I.freeC,I.pin,I.hok,I.len⟩
 obtain⟨m,⟨o,es,ep,ho,r⟩,_⟩:=id I.loc
 obtain⟨sl,hL⟩:=slot X.env.locals o (fun z=>nL _ z rfl) ho
 have J:=I'.step (g':=s.gens) (d':=s.drawn) (t':=t') (h':=h') (H':=H') (ch:=ch) (fun b hb=>⟨.inl (List.mem_append_left _ hb),nL b hb,nC b hb,nP b hb⟩)
  (fun b o hL hb hc e n=>keep b o hc (fun z=>(List.mem_cons.mp (I.stkSub b z)).elim hL hb) e) (fun b o _ _ hc e n=>slot b o hc e) free (fun b o hc e=>(slot b o hc e).elim fun sl z=>⟨_,z⟩) tups frzs tbls (fun m' hm=>by
   obtain⟨o',es',ep',ho',r'⟩:=hm
   rw[ho] at ho'
   cases ho'
   exact⟨_,es',ep',hL,r'⟩) hok I.bare
 exact⟨I.ok,J.os,J.bare,⟨fun b o e n hb hx=>J.base.keep b o e n hb (old b o e hx),fun b o e n hb hx=>J.base.slot b o e n hb (old b o e hx),fun b o e n hx=>J.base.free b o e n (old b o e hx),fun b o e hx=>J.base.there b o e (old b o e hx),
  J.base.tups,J.base.frzs,J.base.tbls⟩,J.loc,J.cell,J.free,J.freeC,J.pin,J.hok,J.len⟩
theorem goes_ok {M:Model}{A:Around}{E:Value->Shared->Prop}{i:Nat}{x:Str}{pos:Pos}{Q:Unit->Shared->Prop}(I:Inv X pins σ H s)(hN:X.N.Nodup)(hi:X.N[i]?=some x)(hk:X.env.scope.names.lookup x=some .local)
  (h:∀s',Inv X pins (σ.set i none) H s'->Q () s'):wpAny M A (do bindName X.env x .none;unbindBehindTheSuite X.env x pos) Q E s:=by
 obtain⟨m,hn,hl⟩:=id I.loc
 have hcls:(X.env.scope.kind==.class||(X.env.scope.kind==.module&&X.env.locals !=X.env.globals))=false:=by rw[I.ok.kind];rfl
 have hiσ:i<σ.length:=by rw[I.len];exact(List.getElem?_eq_some_iff.mp hi).1
 have ne0:∀b o,X.s₀.heap.get? b=some o->b≠X.env.locals:=fun b o e=>Nat.ne_of_lt (Nat.lt_of_lt_of_le (Heap.lt_size e) I.ok.above)
 refine wpAny_nameGoes_keeps hk hn hcls fun h' v hn' hs=>?_
 refine h _ ⟨I.ok,I.os,I.bare,⟨fun b o e n hb hx=>(hs.2 b (ne0 b o e)).trans (I.base.keep b o e n hb hx),fun b o e n hb hx=>?_,I.base.free,fun b o e hx=>?_,I.base.tups,I.base.frzs,I.base.tbls⟩,⟨_,hn',fun j y w e1 e2 e3=>?_⟩,fun y c e=>?_,I.free,I.freeC,fun p hp=>?_,fun b u e=>?_,by simpa using I.len⟩
 ·obtain⟨sl,e1⟩:=I.base.slot b o e n hb hx
  exact⟨sl,(hs.2 b (ne0 b o e)).trans e1⟩
 ·obtain⟨o',e1⟩:=I.base.there b o e hx
  exact⟨o',(hs.2 b (ne0 b o e)).trans e1⟩
 ·by_cases hj:j=i
  ·subst hj
   rw[List.getElem?_set_self hiσ] at e2
   cases e2
  ·rw[List.getElem?_set_ne (Ne.symm hj)] at e2
   obtain⟨u',r',q⟩:=hl j y w e1 e2 e3
   refine⟨u',r',?_⟩
   rcases q with⟨k,e⟩|⟨k,c,e,z⟩
   ·refine .inl ⟨k,?_⟩
    have:y≠x:=fun e=>hj (nodup_ix hN e1 (e▸hi))
    simp[this,e]
   ·exact .inr ⟨k,c,e,z.sameBut hs (I.cne y c e)⟩
 ·obtain⟨w',z⟩:=I.cell y c e
  exact⟨w',z.sameBut hs (I.cne y c e)⟩
 ·obtain⟨e,n,ne,nf,d⟩:=I.pin p hp
  exact⟨(hs.2 p.1 ne).trans e,n,ne,nf,d⟩
 ·refine(I.hok b u e).stay (fun c w' hc q=>(hs.2 c ?_).trans q) (fun _ q=>q) fun _ _ q=>q
  rintro rfl
  rcases hc with rfl|hc
  ·rw[I.free] at e
   cases e
  ·rw[I.free] at hc
   cases hc
end
def ExcAt (a C:Addr)(dd:Option Addr)(h:Heap):Prop:=∃oe vs,h.get? a=some oe/\oe.cls=.ref C/\oe.dict=dd/\oe.data=.fields vs
abbrev Cx.hand (X:Cx)(a:Addr):Cx:={ X with A:=X.A.mark (some (.ref a)),calm:=false,xe:=fun _ _=>False }
section
variable {X:Cx} {pins:List (Addr×Obj)} {σ:St} {H:Hp} {s:Shared} {a:Addr}
theorem Inv.hand (I:Inv X pins σ H s)(a:Addr):Inv (X.hand a) pins σ H s:=
 ⟨⟨I.ok.mod,I.ok.kind,I.ok.glob,I.ok.blt,I.ok.above,I.ok.inj,I.ok.has,I.ok.cab,fun z=>Bool.noConfusion z,I.ok.frames,I.ok.stk,I.ok.exf,I.ok.bs,I.ok.bsz,I.ok.noex,I.ok.exfs,I.ok.funs,I.ok.frf⟩,I.os,I.bare,I.base,I.loc,I.cell,I.free,I.freeC,I.pin,I.hok,I.len⟩
theorem Inv.unhand (ok:X.Ok)(I:Inv (X.hand a) pins σ H s):Inv X pins σ H s:=⟨ok,I.os,I.bare,I.base,I.loc,I.cell,I.free,I.freeC,I.pin,I.hok,I.len⟩
def takesX (K:W.Frag)(C:Addr)(D:Value):Bool:=W.kitCls K (.ref C) D==some true&&W.subIn K D (.type "BaseException")==some true
theorem takes_ok {A:Around}{E:Value->Shared->Prop}{K:W.Frag}{prog:Program}{w:World}{C:Addr}{dd:Option Addr}{D:Value}{Q:Bool->Shared->Prop}(X:K.In s.heap)(x:ExcAt a C dd s.heap)(hq:takesX K C D=true)(k:Q true s):
  wpAny (model prog w) A (excMatches (.ref a) D) Q E s:=by
 obtain⟨h,g,d,t,os⟩:=s
 obtain⟨oe,vs,ge,ce,_,_⟩:=x
 unfold takesX at hq
 rw[Bool.and_eq_true] at hq
 obtain⟨h1,h2⟩:=hq
 obtain⟨L3,L5,L1⟩:=W.kit_cls (M:=model prog w) X (beq_iff_eq.mp h1)
 have L2:=W.looks_subIn (M:=model prog w) X (beq_iff_eq.mp h2)
 have L4:W.Looks (model prog w) h (typeOf (.ref a)) (.ref C):=ce▸(W.Looks.ld ge).andThen .now
 have L0:W.Looks (model prog w) h (isSubtype (.type "type") (.type "tuple")) false:=W.Looks.of_pure tc_notTuple
 have LI:W.Looks (model prog w) h (isInstance D (.type "tuple")) false:=L3.andThen L0
 have LX:W.Looks (model prog w) h (isExcClass D) true:=L5.andThen (by simpa using L2)
 unfold excMatches
 refine wpAny_bind (LI.at ?_)
 simp only[Bool.false_eq_true,if_false]
 refine wpAny_bind (wpAny_pure ?_)
 simp only[List.forIn_cons,List.forIn_nil]
 refine wpAny_bind (wpAny_bind (wpAny_bind (LX.at ?_)))
 simp only[Bool.not_true,Bool.false_eq_true,if_false]
 refine wpAny_pure (wpAny_pure ?_)
 refine wpAny_bind (L4.at ?_)
 refine wpAny_bind (wpAny_bind (wpAny_bind (L1.at ?_)))
 simp only[if_true]
 refine wpAny_pure (wpAny_pure ?_)
 exact wpAny_pure k
end
end L2
namespace L2
open PySem PySem.Spec PyProof.Rows
def Means (X:Cx)(x:Str)(u:Value):Prop:=Gl X x/\(x==("__debug__":Str))=false/\(X.mg x=some u\/X.mg x=none/\bootBuiltins x=some u/\x≠"__name__")
theorem ld_means {X:Cx}{E:Value->Shared->Prop}{pins:List (Addr×Obj)}{s:Shared}{σ:St}{H:Hp}{x:Str}{u:Value}{pos:Pos}{Q:Value->Shared->Prop}(I:Inv X pins σ H s)(m:Means X x u)(h:Q u s):wpAny (model X.prog X.w) X.A (eval (.Name x pos) X.env) Q E s:=by
 obtain⟨hg,hd,hm|⟨hm,hv,hn⟩⟩:=m
 ·exact ld_glob I hg hm h hd
 ·exact ld_blt I hg hm hv h hn hd
end L2
namespace L2
open PySem PySem.Spec PyProof.Rows
def excGet (K:W.Frag)(C:Addr):Bool:=W.findIn K (.ref C) "__getattribute__"==some (some (.builtin "BaseException.__getattribute__"))&&W.findIn K (.ref C) "__getattr__"==some none
 &&W.findIn K (.ref C) "__class__"==some (some (.builtin "object.__class__"))&&W.specialIn K (.builtin "object.__class__") "__get__"==some (some (.builtin "getset_descriptor.__get__"))
 &&W.takesIn K (.builtin "object.__class__")==some true&&W.mroIn K C (.type "object")==some true&&W.mroIn K C (.type "BaseException")==some true&&(W.clsIn K C).isSome
section
variable {prog:Program} {w:World} {A:Around} {E:Value->Shared->Prop} {s:Shared} {K:W.Frag} {a C:Addr} {ox:Obj} {od:Option Obj}
theorem find_cls (hq:excGet K C=true):W.findObj K C od "__class__"=some (.bind (.builtin "getset_descriptor.__get__") (.builtin "object.__class__")):=by
 unfold excGet at hq
 simp only[Bool.and_eq_true,beq_iff_eq] at hq
 obtain⟨⟨⟨⟨⟨⟨⟨_,_⟩,h3⟩,h4⟩,h5⟩,_⟩,_⟩,h8⟩:=hq
 obtain⟨cd,hc⟩:=Option.isSome_iff_exists.mp h8
 unfold W.findObj
 rw[hc,Option.bind_some,h3,Option.bind_some]
 simp[h4,h5]
theorem check_ga {nameV:Value}{Q:Unit->Shared->Prop}(LI:W.Looks (model prog w) s.heap (isInstance (.ref a) (.type "BaseException")) true)(k:Q () s):wpAny (model prog w) A (checkBuiltinCall "BaseException.__getattribute__" ⟨[.ref a,nameV],[]⟩) Q E s:=by
 obtain⟨hh,g,d,t,os⟩:=s
 have hk:builtinKind "BaseException.__getattribute__"=some .slot:=by decide +kernel
 have hsplit:splitId "BaseException.__getattribute__"=some ("BaseException","__getattribute__"):=by decide +kernel
 have ha:=F.args_bexc_ga (.ref a) nameV
 simp only[checkBuiltinCall,hk,hsplit]
 refine wpAny_bind (LI.at ?_)
 repeat (first|assumption|wp_step)
theorem ga_body {tk:Tok}{P:Value->Shared->Prop}{g b:Value}(L0:W.Looks (model prog w) s.heap (typeOf (.ref a)) (.ref C))(L3:W.Looks (model prog w) s.heap (Builtin.ObjectAttr.find (.ref a) (.ref C) "__class__") (.bind g b))(h:wpAny (model prog w) A (call g [b,.ref a,.ref C]) P E s):
  wpAny (model prog w) A (Builtin.«object.__getattribute__» ⟨[.ref a,.str "__class__" tk],[]⟩) (fun fin s'=>match fin with | .done (.ret v)=>P v s'|_=>False) E s:=by
 obtain⟨hh,gg,d,t,os⟩:=s
 unfold Builtin.«object.__getattribute__»
 refine wpAny_bind (wpAny_pure (a:=(Value.ref a,[Value.str "__class__" tk])) ?_)
 refine wpAny_bind (wpAny_pure (a:=("__class__":Str)) ?_)
 refine wpAny_bind (L0.at (wpAny_bind (L3.at ?_)))
 show wpAny _ _ (holding [b] (call g [b,.ref a,.ref C]) >>= ret) _ _ _
 exact wpAny_bind (wpAny_holding (wpAny_mono h (fun v s' z=>wpAny_pure z) fun _ _ z=>z))
theorem exc_class {Q:Option Value->Shared->Prop}(hq:excGet K C=true)(X:K.In s.heap)(I:W.InstAt s.heap a ox C od)(h:Q (some (.ref C)) { s with toks:=s.toks+1 }):wpAny (model prog w) A (getAttr? (.ref a) "__class__") Q E s:=by
 have hf:=find_cls (od:=od) hq
 unfold excGet at hq
 simp only[Bool.and_eq_true,beq_iff_eq] at hq
 obtain⟨⟨⟨⟨⟨⟨⟨h1,h2⟩,h3⟩,h4⟩,h5⟩,h6⟩,h7⟩,h8⟩:=hq
 obtain⟨hh,g,d,t,os⟩:=s
 have L0:=I.type (M:=model prog w)
 have L1:=W.looks_findIn (M:=model prog w) X h1
 have L2:=W.looks_findIn (M:=model prog w) X h2
 have L3:=W.looks_find (M:=model prog w) X I hf
 have L4:=W.looks_mroIn (M:=model prog w) X h7
 have LI:W.Looks (model prog w) hh (isInstance (.ref a) (.type "BaseException")) true:=L0.andThen L4
 have f3:=F.attr_ValueError.ga.bind (.ref a)
 have hk:builtinKind "BaseException.__getattribute__"=some .slot:=by decide +kernel
 have hsplit:splitId "BaseException.__getattribute__"=some ("BaseException","__getattribute__"):=by decide +kernel
 have hx2:(Value.builtin "BaseException.__getattribute__"==Value.builtin "object.__getattribute__")=false:=by decide +kernel
 unfold getAttr? getAttrBy? getAttrBy
 refine wpAny_bind (wpAny_mkText (wpAny_bind (wpAny_attempt (wpAny_holding (wpAny_bind (L0.at (wpAny_bind (L1.at ?_))))))))
 simp only[hx2,Bool.and_false,Bool.false_eq_true,if_false]
 unfold getAttrByItsOwn hookBefore
 simp only[onTheHeap,if_true]
 refine wpAny_bind (L2.at ?_)
 refine wpAny_bind (wpAny_attempt (wpAny_holding ?_))
 unfold callGetattribute boundAndCalled
 simp only[Bool.false_and,Bool.false_eq_true,if_false]
 rw[f3]
 refine wpAny_bind (wpAny_pure ?_)
 refine wpAny_call (codeAny_call_builtin F.attr_ValueError.ga.plain F.entry_bexc_ga (check_ga (s:=⟨hh,g,d,t+1,os⟩) LI ?_))
 refine wpAny_mono (ga_body (s:=⟨hh,g,d,t+1,os⟩) (P:=fun v s'=>v=.ref C/\s'=⟨hh,g,d,t+1,os⟩) (E:=fun _ _=>False) L0 L3 (wpAny_call (W.class_get (s:=⟨hh,g,d,t+1,os⟩) (ox:=ox) (od:=od) X I h6 ⟨rfl,rfl⟩))) (fun fin s' z=>?_) fun _ _ z=>z.elim
 rcases fin with(_|_|_|_)|_<;>first|(obtain⟨rfl,rfl⟩:=z;exact W.handed_on rfl (wpAny_pure h))|exact z.elim
end
def clsV:V->Value
 |.ref D=>.ref D
 |.ty T=>.type T
 |_=>.none
end L2
namespace L2
open PySem PySem.Spec PyProof.Rows
def ExcNew (a C:Addr)(dd:Option Addr)(h:Heap):Prop:=∃oe vs,h.get? a=some oe/\oe.cls=.ref C/\oe.dict=dd/\oe.data=.fields vs/\vs[1]?=some .none
abbrev bmV0:List Value:=[.type "ValueError",.type "Exception",.type "BaseException",.type "object"]
def onlyV:List Value->Bool
 |.ref _::r=>onlyV r
 |l=>l==bmV0
theorem refuse_onlyV (self:Value):∀{l:List Value},onlyV l=true->PySem.refuseLoop self "__setattr__" l=pure ()
 |.ref c::r,e=>by
  rw[PySem.refuseLoop_ref]
  exact refuse_onlyV self (l:=r) e
 | [],e=>by cases e
 |.type n::r,e=>by
  have h:(Value.type n::r)=bmV0:=beq_iff_eq.mp e
  rw[h]
  exact PySem.F.store_ValueError.passes self
 |.none::r,e=>by cases beq_iff_eq.mp (show((Value.none::r)==bmV0)=true from e)
 |.bool _::r,e=>by cases beq_iff_eq.mp (show((Value.bool _::r)==bmV0)=true from e)
 |.int _ _::r,e=>by cases beq_iff_eq.mp (show((Value.int _ _::r)==bmV0)=true from e)
 |.float _ _::r,e=>by cases beq_iff_eq.mp (show((Value.float _ _::r)==bmV0)=true from e)
 |.str _ _::r,e=>by cases beq_iff_eq.mp (show((Value.str _ _::r)==bmV0)=true from e)
 |.bytes _ _::r,e=>by cases beq_iff_eq.mp (show((Value.bytes _ _::r)==bmV0)=true from e)
 |.builtin _::r,e=>by cases beq_iff_eq.mp (show((Value.builtin _::r)==bmV0)=true from e)
def excSet (K:W.Frag)(C:Addr)(f:Str):Bool:=W.findIn K (.ref C) "__setattr__"==some (some (.builtin "object.__setattr__"))&&(W.clsIn K C).any (fun cd=>onlyV cd.mro&&cd.hasDict)
 &&W.findIn K (.ref C) f==some none&&W.mroIn K C (.type "object")==some true
section
variable {prog:Program} {w:World} {A:Around} {E:Value->Shared->Prop} {s:Shared} {K:W.Frag} {a C:Addr} {f:Str} {v:Value}
theorem exc_store {Q:Unit->Shared->Prop}(hq:excSet K C f=true)(X:K.In s.heap)(x:ExcNew a C none s.heap)
  (h:∀h' tk,ExcNew a C (some s.heap.objs.size) h'->h'.Ns1 s.heap.objs.size (fun y=>if y=f then some v else none)->(∀b o,b≠a->s.heap.get? b=some o->h'.get? b=some o)->Q () { s with heap:=h',toks:=tk }):
  wpAny (model prog w) A (setAttr (.ref a) f v) Q E s:=by
 obtain⟨oe,vs,ge,ce,de,da,v1⟩:=x
 have I:W.InstAt s.heap a oe C none:=⟨ge,ce,by unfold W.notCls;rw[da],by rw[de];trivial⟩
 unfold excSet at hq
 simp only[Bool.and_eq_true,beq_iff_eq] at hq
 obtain⟨⟨⟨h1,h2⟩,h3⟩,h4⟩:=hq
 obtain⟨cd,hc,hm⟩:=W.any_some h2
 rw[Bool.and_eq_true] at hm
 obtain⟨hm,hd⟩:=hm
 have SF:=PySem.F.store_object
 refine W.set_plain X I h1 ?_
 obtain⟨hh,g,d,t,os⟩:=s
 have sub:W.Looks (model prog w) hh (isInstance (.ref a) (.type "object")) true:=I.type.andThen (W.looks_mroIn X h4)
 refine codeAny_call_builtin SF.slot.plain SF.entry (@W.check_slot (model prog w) _ _ ⟨hh,g,d,t+1,os⟩ "object.__setattr__" "object" "__setattr__" (.ref a) [.str f t,v] [] _ SF.kind SF.split sub (SF.args (.ref a) (.str f t) v) ?_)
 have hmr:W.Looks (model prog w) hh (mroOf (.ref C)) cd.mro:=(W.looks_clsIn X hc).andThen .now
 rw[W.osa_eq,PySem.refuse_eq]
 refine wpAny_bind (wpAny_bind (I.type.at (wpAny_bind (hmr.at ?_))))
 rw[refuse_onlyV _ hm]
 refine wpAny_pure (wpAny_bind (I.type.at (wpAny_bind ((W.looks_findIn X h3).at (wpAny_bind (wpAny_pure (a:=none) ?_))))))
 show wpAny _ _ (Builtin.ObjectAttr.storeInOwnDict (.ref a) (.ref C) (.str f t) f v false) _ _ _
 obtain⟨oc,odi,oda,osl⟩:=oe
 dsimp only at ce de da
 subst ce de da
 refine wpAny_bind (wpAny_pure (wpAny_bind (wpAny_bind (wpAny_loadPart ge (wpAny_bind ((W.looks_clsIn X hc).at ?_))))))
 rw[hd]
 have hx1:(hh.push { cls:=.type "dict",data:=.dict #[] }).get? a=some ⟨.ref C,none,.fields vs,osl⟩:=Heap.get?_push_of_some _ ge
 have hxs:a≠hh.objs.size:=Nat.ne_of_lt (Heap.lt_size ge)
 refine wpAny_bind (wpAny_alloc' ?_)
 refine wpAny_bind (wpAny_update' hx1 ?_)
 refine wpAny_pure (a:=some hh.objs.size) ?_
 have hgd:((hh.push { cls:=.type "dict",data:=.dict #[] }).update a fun o=>{ cls:=o.cls,dict:=some hh.objs.size,data:=o.data,slots:=o.slots }).get? hh.objs.size=some { cls:=.type "dict",data:=.dict #[] }:=
  (Heap.get?_update_ne _ _ _ _ hxs.symm).trans (Heap.get?_push_at rfl rfl)
 have hnd:((hh.push { cls:=.type "dict",data:=.dict #[] }).update a fun o=>{ cls:=o.cls,dict:=some hh.objs.size,data:=o.data,slots:=o.slots }).Ns hh.objs.size (fun _=>none):=
  ⟨_,#[],_,hgd,rfl,fun e he=>absurd he (by simp),fun _=>rfl⟩
 show wpAny _ _ (Builtin.ObjectAttr.storeInDict hh.objs.size (.str f t) f v) _ _ _
 unfold Builtin.ObjectAttr.storeInDict Builtin.ObjectAttr.newKeyGuard
 refine wpAny_bind (wpAny_pure (wpAny_bind (wpAny_nsSet1 (Heap.Ns1.of_empty hnd) fun h' hn' hs=>?_)))
 obtain⟨oD,esD,epD,hoD,hdD,hcD⟩:=hn'.count (PySem.Within.cons f v PySem.Within.nil)
 refine wpAny_bind (wpAny_lookBehind hoD (by rw[hdD];exact pastItsLine_dict (Nat.le_trans hcD (by rw[List.length_cons,List.length_nil,sizeLine_eq];omega))) ?_)
 refine wpAny_pure (h h' _ ⟨⟨.ref C,some hh.objs.size,.fields vs,osl⟩,vs,?_,rfl,rfl,rfl,v1⟩ hn' fun b o hb e=>?_)
 ·exact(hs.2 a hxs).trans (Heap.get?_update_self _ hx1 rfl)
 ·exact(hs.2 b (Nat.ne_of_lt (Heap.lt_size e))).trans ((Heap.get?_update_ne _ _ _ _ hb).trans (Heap.get?_push_of_some _ e))
end
theorem setattr_x {X:Cx}{pins:List (Addr×Obj)}{σ:St}{H:Hp}{s:Shared}{A:Around}{E:Value->Shared->Prop}{a C:Addr}{f:Str}{y:V}{u:Value}{Q:Unit->Shared->Prop}(I:Inv X pins σ H s)(ha:H a=some (.ext (ExcNew a C none)))(hq:excSet X.K C f=true)(ry:RelV y u)
  (h:∀d s',H d=none->d≠a->Inv X pins σ (upd (upd H a (.ext (ExcNew a C (some d)))) d (.xd [(f,y)])) s'->Q () s'):wpAny (model X.prog X.w) A (setAttr (.ref a) f u) Q E s:=by
 have x:ExcNew a C none s.heap:=(show ObjOk X.prog X.w H s.heap a (.ext (ExcNew a C none)) from I.hok a _ ha).1
 have fresh:H s.heap.objs.size=none:=I.hok.fresh (Nat.le_refl _)
 have nda:s.heap.objs.size≠a:=fun z=>by rw[z,ha] at fresh;cases fresh
 refine exc_store hq I.kIn x fun h' tk x' n' kp=>h s.heap.objs.size _ fresh nda ?_
 have there':∀b o,s.heap.get? b=some o->∃o',h'.get? b=some o':=fun b o e=>by
  by_cases hb:b=a
  ·obtain⟨oe,_,ge,_⟩:=x'
   exact⟨oe,by rw[hb];exact ge⟩
  ·exact⟨o,kp b o hb e⟩
 have nb:∀b o,s.heap.get? b=some o->b≠s.heap.objs.size:=fun b o e=>Nat.ne_of_lt (Heap.lt_size e)
 have upK:∀b o,H b=some o->b≠a->upd (upd H a (.ext (ExcNew a C (some s.heap.objs.size)))) s.heap.objs.size (.xd [(f,y)]) b=some o:=fun b o e hb=>by
  rw[upd_ne (ne_of_none e fresh),upd_ne hb]
  exact e
 have nx:∀{b:Addr} {o:HO},H b=some o->(∀φ,o≠.ext φ)->b≠a:=fun {b o} e n z=>by
  rw[z,ha] at e
  cases e
  exact n _ rfl
 have nfree:∀{b:Addr},H b=none->b≠a:=fun {b} e z=>by
  rw[z,ha] at e
  cases e
 refine I.step (g':=s.gens) (d':=s.drawn) (ch:=[]) (fun _ z=>nomatch z) (fun b o _ _ _ e n=>kp b o (nfree n) e) (fun b o _ _ _ e n=>⟨o.slots,kp b o (nfree n) e⟩) (fun b o _ e n=>?_) (fun b o _ e=>there' b o e)
  (fun b xs e=>upK b _ e (nx e fun _ z=>by cases z)) (fun b o u e=>upK b _ e (nx e fun _ z=>by cases z)) (fun b ps e=>⟨#[],by rw[upK b _ e (nx e fun _ z=>by cases z)];simp⟩) (fun m hm=>?_) (fun b o e=>?_) I.bare
 ·rw[upd_ne (nb b o e),upd_ne (nfree n)]
  exact n
 ·obtain⟨o,es,ep,ho,r⟩:=hm
  exact⟨o,es,ep,kp _ o (nfree I.free) ho,r⟩
 ·by_cases hd:b=s.heap.objs.size
  ·subst hd
   rw[upd_same] at e
   cases e
   refine⟨_,n',fun g=>?_⟩
   by_cases hg:g=f
   ·subst hg
    simp only[List.lookup,beq_self_eq_true,if_true]
    exact ry
   ·have hb:(g==f)=false:=beq_eq_false_iff_ne.mpr hg
    simp only[List.lookup,hb,if_neg hg]
    trivial
  ·rw[upd_ne hd] at e
   by_cases hb:b=a
   ·subst hb
    rw[upd_same] at e
    cases e
    obtain⟨oe,vs,ge,r⟩:=id x'
    exact⟨x',⟨_,ge⟩,fun k1 k2 ⟨o,v,e1,r⟩ k=>⟨o,v,k _ e1,r⟩⟩
   ·rw[upd_ne hb] at e
    refine(I.hok b o e).stay (fun c w' hc q=>kp c w' (fun z=>?_) q) (fun c z=>upK c _ z (nx z fun _ z=>by cases z)) fun c xs z=>upK c _ z (nx z fun _ z=>by cases z)
    subst z
    rcases hc with z|z
    ·exact hb z.symm
    ·rw[ha] at z
     cases z
def sXfld (K:W.Frag)(ta tv:TE)(f:Str):TS:=fun D σ H=>tv σ H fun y H1=>ta σ H1 fun x H2=>∃a C,x=.ref a/\H2 a=some (.ext (ExcNew a C none))/\excSet K C f=true/\∀d,H2 d=none->d≠a->D.nx σ (upd (upd H2 a (.ext (ExcNew a C (some d)))) d (.xd [(f,y)]))
theorem ps_xfld {X:Cx}{o value:Expr}{f:Str}{ta tv:TE}{pos pos':Pos}(ha:PE X o ta)(hv:PE X value tv)(hs:swapsWith value (some (.Attribute o f pos')) pos.line X.env=pure false):PS X (.Assign [.Attribute o f pos'] value pos) (sXfld X.K ta tv f):=by
 intro pins s σ H D I h
 refine plainObj_wpAny_Assign_Attribute (thn (hv pins s σ H _ I h) fun u s1 ⟨y,H1,I1,ry,q⟩=>thn (ha pins s1 σ H1 _ I1 q) fun ov s2 ⟨x,H2,I2,rx,a,C,ex,ea,c,q2⟩=>?_) hs
 subst ex
 obtain rfl:ov=Value.ref a:=rx
 exact setattr_x I2 ea c ry fun d s3 hd hn I3=>⟨σ,_,I3,q2 d hd hn⟩
end L2
namespace L2
open PySem PySem.Spec PyProof.Rows
section
variable {prog:Program} {w:World} {A:Around} {E:Value->Shared->Prop} {h:Heap} {g:Array GenState} {d:Drawn} {t:Nat} {os:OsState}
variable {nm q:Str} {C N:Addr} {bs bm bmB:List Value} {hdct:Bool} {sn:List Str} {sub:List Value} {ab:Bool} {col:Option Bool} {dd:Option Addr} {k0 k1 k2 k3 k5:Option Value} {B newId initId:String}
theorem type_call_initT (F:ExcBaseFacts B newId initId bmB)(T:OwnTail h bmB bm){mN:Str->Option Value}{rest:List Value}{fI:Addr}{oI:Obj}{Q:Fin->Shared->Prop}
  (hC:h.get? C=some (excClassObj nm q C N bs bm hdct sn sub ab col dd k0 k1 k2 k3 k5 newId)) (hn:h.Ns N mN) (hi:mN "__init__"=some (.ref fI)) (hfI:h.get? fI=some oI) (hfc:oI.cls=.type "function")
  (hq:∀h' e,Heap.MadeExcOf h h' e (.ref C) rest->wpAny (model prog w) A (call (.ref fI) (.ref e::rest)) (fun r s'=>r=.none/\Q (.done (.ret (.ref e))) s') E ⟨h',g,d,t,os⟩) (hrest:rest.length<=sizeLine):
  wpAny (model prog w) A (Builtin.«type.__call__» ⟨.ref C::rest,[]⟩) Q E ⟨h,g,d,t,os⟩:=by
 repeat (first|with_reducible refine wpAny_loadPart_at hC ?_|with_reducible refine wpAny_madeBy_exc hC ?_|wp_step)
 refine codeAny_call_builtin_code (Code.quiet_builtin _ F.quiet) (wpAny_check_new_subT F T hC ?_)
 refine codeAny_exc_new_subT F T hC ?_ hrest
 show wpAny _ _ _ _ _ _
 have up:∀b o,h.get? b=some o->((h.push { cls:=.type "tuple",data:=.seq rest.toArray }).push { cls:=.ref C,data:=.fields #[.ref h.objs.size,.none,.none,.none,.bool false,.none] }).get? b=some o:=fun b o e=>Heap.get?_push_of_some _ (Heap.get?_push_of_some _ e)
 have hC1:=up _ _ hC
 have hfI1:=up _ _ hfI
 have hn1:((h.push { cls:=.type "tuple",data:=.seq rest.toArray }).push { cls:=.ref C,data:=.fields #[.ref h.objs.size,.none,.none,.none,.bool false,.none] }).Ns N mN:=
  let ⟨o,es,ep,e,r⟩:=hn;⟨o,es,ep,up _ _ e,r⟩
 have hget:((h.push { cls:=.type "tuple",data:=.seq rest.toArray }).push { cls:=.ref C,data:=.fields #[.ref h.objs.size,.none,.none,.none,.bool false,.none] }).get? (h.objs.size+1)=some
   { cls:=.ref C,data:=.fields #[.ref h.objs.size,.none,.none,.none,.bool false,.none] }:=by heap_get
 have hcC:(Value.ref C::bm).contains (.ref C)=true:=by simp
 have T1:=T.keeps up
 unfold isInstance
 repeat (first|with_reducible refine wpAny_loadPart_at hget ?_|(with_reducible refine wpAny_isSubtype_exc hC1 ?_;rw[hcC])|wp_step)
 show wpAny _ _ (typeLookup (.ref C) _) _ _ _
 refine wpAny_typeLookup_tail hC1 hn1 T1 F.mroIs F.init.lookup ?_
 rw[hi]
 refine wpAny_holding (wpAny_bind ?_)
 unfold bindSpecial
 refine wpAny_bind (wpAny_typeOf (T:="function") ⟨_,hfI1,hfc⟩ ?_)
 rw[if_pos (by decide)]
 refine wpAny_pure (wpAny_bind (wpAny_mono (hq _ (h.objs.size+1) ⟨up,Heap.get?_none_of_le (Nat.le_succ _),h.objs.size,hget,Heap.get?_none_of_le (Nat.le_refl _),?_⟩) (fun r s' hr=>?_) fun _ _ x=>x))
 ·exact Heap.get?_push_of_some _ (Heap.get?_push_at rfl rfl)
 ·obtain⟨rfl,hQ⟩:=hr
  wp_walk
  exact hQ
theorem call_initT (F:ExcBaseFacts B newId initId bmB)(T:OwnTail h bmB bm){mN:Str->Option Value}{rest:List Value}{fI:Addr}{oI:Obj}{Q:Value->Shared->Prop}
  (hC:h.get? C=some (excClassObj nm q C N bs bm hdct sn sub ab col dd k0 k1 k2 k3 k5 newId)) (hn:h.Ns N mN) (hi:mN "__init__"=some (.ref fI)) (hfI:h.get? fI=some oI) (hfc:oI.cls=.type "function")
  (hq:∀h' e,Heap.MadeExcOf h h' e (.ref C) rest→
   wpAny (model prog w) (A.under (.builtin "type.__call__" ⟨.ref C::rest,[]⟩)) (call (.ref fI) (.ref e::rest)) (fun r s'=>r=.none/\Q (.ref e) s') E ⟨h',g,d,t,os⟩) (hrest:rest.length<=sizeLine):
  wpAny (model prog w) A (call (.ref C) rest) Q E ⟨h,g,d,t,os⟩:=by
 have f1:=tc_lookup
 have f2:=tc_bind (.ref C)
 have hT:(⟨h,g,d,t,os⟩:Shared).TypeIs (.ref C) "type":=⟨_,hC,rfl⟩
 refine wpAny_call (codeAny_of_tree ?_)
 show wpAny _ _ (callAny (.ref C) _) _ _ _
 repeat (any_goals (first|assumption|with_reducible refine wpAny_loadPart_at hC ?_|wp_step))
 refine⟨rfl,?_⟩
 refine codeAny_call_builtin_at (Code.quiet_builtin _ (by decide +kernel)) entry_typeCall (wpAny_check_type_call_sub hC (type_call_initT F T hC hn hi hfI hfc (fun h' e hm=>?_) hrest))
 exact hq h' e hm
end
def excInI (K:W.Frag)(C fI:Addr):Bool:=match K.lookup C with
 |some ⟨.type "type",_,.cls cd,sl⟩=>(match cd.mro,sl.toList with
  |.ref C'::bm,[_,_,_,_,some (.builtin n),_]=>C'==C&&n=="ValueError.__new__"&&!cd.hasDel&&W.tailIn K bmV0 bm&&W.nsOkIn K cd.ns&&W.nsIn K cd.ns "__init__"==some (some (.ref fI))
  |_,_=>false)
 |_=>false
end L2
namespace L2
open PySem PySem.Spec PyProof.Rows
theorem ns_of_in {K:W.Frag}{h:Heap}{N:Addr}{m:Str->Option Value}{n:Str}{v:Value}(X:K.In h)(G:h.Ns N m)(e:W.nsIn K N n=some (some v)):m n=some v:=by
 obtain⟨o,es,ep,ho,hd,_,hf⟩:=G
 unfold W.nsIn at e
 split at e
 ·rename_i c d es' n' sl q
  have:=X _ _ q
  rw[ho] at this
  cases this
  cases hd
  split at e
  ·rename_i en he
   cases e
   rw[<- hf]
   unfold nsFind findBy
   rw[<- Array.find?_toList,he]
   rfl
  ·split at e<;>cases e
 ·cases e
theorem own_KI {K:W.Frag}{h:Heap}{C fI:Addr}(X:K.In h)(hq:excInI K C fI=true):
  ∃bm N nm q bs hdct sn sub ab col dd k0 k1 k2 k3 k5 mN,h.get? C=some (excClassObj nm q C N bs bm hdct sn sub ab col dd k0 k1 k2 k3 k5 "ValueError.__new__")/\h.Ns N mN/\mN "__init__"=some (.ref fI)/\OwnTail h bmV0 bm:=by
 unfold excInI at hq
 split at hq
 ·rename_i dd cd sl ho
  split at hq
  ·rename_i C' bm k0 k1 k2 k3 n k5 hm hs
   simp only[Bool.and_eq_true,beq_iff_eq,Bool.not_eq_true'] at hq
   obtain⟨⟨⟨⟨⟨e1,e2⟩,hdel⟩,ht⟩,hok⟩,hni⟩:=hq
   subst e1 e2
   obtain⟨nm,bs,mro,ns,qn,hd,sn,sub,ab,col,del⟩:=cd
   dsimp only at hm hdel hok hni
   subst hm hdel
   have hsl:sl=#[k0,k1,k2,k3,some (.builtin "ValueError.__new__"),k5]:=Array.toList_inj.mp hs
   subst hsl
   exact⟨bm,ns,nm,qn,bs,hd,sn,sub,ab,col,dd,k0,k1,k2,k3,k5,_,X _ _ ho,.of_isNs (W.isNs_of_in X hok),ns_of_in X (.of_isNs (W.isNs_of_in X hok)) hni,W.tail_of_in X ht⟩
  ·cases hq
 ·cases hq
structure MkX (K:W.Frag)(C fI:Addr):Prop where
 ex:excInI K C fI=true
 fn:W.typeIn K (.ref fI)=some (.type "function")
 kp:W.keepIn K (.ref C)=true
section
variable {X:Cx} {CX:CXT} {k:Nat} {f C:Addr} {fd:FuncData} {ps:List Str} {sp:Sp} {dvs:List V} {ds:List Value} {E:XK} {x:Str} {p pos:Pos} {e:Expr} {es:List Expr} {t:TA}
theorem run_makeX {pins:List (Addr×Obj)}{σ:St}{H:Hp}{s:Shared}{Q:VK}{us:List Value}{vs:List V}(M:MkX X.K C f)(F:FnOk X.prog X.w X.K X.mg X.base CX k f fd ps sp)(hr:Room (k+1) X.A)(hb:Binds X.K fd ps ds)(hd:Vals dvs ds)
  (hx:Passes CX X E) (I:Inv X pins σ H s) (r:Vals vs us) (hz:vs.length<=sizeLine)
  (h:∀a,H a=none->sp (.ref a::(vs++dvs)) (upd H a (.ext (ExcNew a C none))) (fun v H2=>v=.non/\Q (.ref a) H2) E):
  wpAny (model X.prog X.w) X.A (call (.ref C) us) (EP X pins σ Q) X.xe s:=by
 obtain⟨bm,N,nm,q,bs,hdct,sn,sub,ab,col,dd,k0,k1,k2,k3,k5,mN,hC,hN,hi,T⟩:=own_KI I.kIn M.ex
 obtain⟨oI,hl,hfc⟩:=Option.map_eq_some_iff.mp (show(X.K.lookup f).map (·.cls)=some (.type "function") from M.fn)
 have hfI:=I.kIn _ _ hl
 obtain⟨hh,g,d,tk,os⟩:=s
 refine call_initT PySem.F.excBase_ValueError T hC hN hi hfI hfc (fun h' a mk=>?_) (by rw[<- r.length];exact hz)
 obtain⟨tt,g1,g2,g3⟩:=mk.there
 have fresh:H a=none:=by
  cases q:H a with
  |none=>rfl
  |some o=>
   obtain⟨ob,z⟩:=(I.hok a o q).there
   have z':hh.get? a=some ob:=z
   rw[mk.new] at z'
   cases z'
 have upK:∀b o,H b=some o->upd H a (.ext (ExcNew a C none)) b=some o:=fun b o e=>(upd_ne (ne_of_none e fresh)).trans e
 have I2:Inv X pins σ (upd H a (.ext (ExcNew a C none))) ⟨h',g,d,tk,os⟩:=I.flown (t':=tk) (ch:=[]) I.fr0 (fun b z=>absurd z (by simp)) (fun b o _ _ z=>mk.keeps b o z) (fun b o _ z=>⟨o.slots,mk.keeps b o z⟩)
  (fun b o _ z n=>(upd_ne fun z'=>by rw[z',mk.new] at z;cases z).trans n) (fun b xs z=>upK b _ z) (fun b o u z=>upK b _ z) (fun b ps z=>⟨#[],by rw[upK b _ z];simp⟩)
  (fun b o z=>by
   by_cases hb:b=a
   ·subst hb
    rw[upd_same] at z
    cases z
    exact⟨⟨_,_,g1,rfl,rfl,rfl,rfl⟩,⟨_,g1⟩,fun k1 k2 ⟨o,v,e1,r⟩ k=>⟨o,v,k _ e1,r⟩⟩
   ·rw[upd_ne hb] at z
    exact(I.hok b o z).stay (fun c u _ hc=>mk.keeps c u hc) (fun c z=>upK c _ z) fun c xs z=>upK c _ z)
 have hq:=h a fresh
 have r2:Vals (V.ref a::(vs++dvs)) (Value.ref a::(us++ds)):=.cons rfl (r.append hd)
 have hl2:(Value.ref a::us++ds).length=ps.length:=by
  have e:=r2.length
  rw[F.len _ _ _ _ hq] at e
  exact e.symm
 refine wpAny_call (codeAny_mono (F.run _ X.stack _ _ ⟨Value.ref a::us,[]⟩ (Value.ref a::(us++ds)) _ _ E (hr.make C us []) (I2.env0.make C us []) (hb _ (Value.ref a::us) I2.kIn hl2) r2 hq) fun r s' hq'=>?_)
 cases r with
 |error e=>exact hx pins σ _ _ e s' I2 hq'
 |ok fl=>
  cases fl with
  |ret u=>
   obtain⟨v,H',I3,rv,ev,q3⟩:=I2.after hq'
   subst ev
   exact⟨rv,⟨V.ref a,H',I3,rfl,q3⟩⟩
  |next=>exact False.elim hq'
  |brk=>exact False.elim hq'
  |cont=>exact False.elim hq'
def tMakeX (C:Addr)(sp:Sp)(dvs:List V)(E:XK)(t:TA):TE:=fun σ H Q=>t σ H fun vs H1=>vs.length<=sizeLine/\∀a,H1 a=none->sp (.ref a::(vs++dvs)) (upd H1 a (.ext (ExcNew a C none))) (fun v H2=>v=.non/\Q (.ref a) H2) E
theorem pe_makeX (M:MkX X.K C f)(F:FnOk X.prog X.w X.K X.mg X.base CX k f fd ps sp)(hr:Room (k+1) X.A)(hg:Gl X x)(hm:X.mg x=some (.ref C))(hb:Binds X.K fd ps ds)(hd:Vals dvs ds)(hx:Passes CX X E)
  (ha:PA X (e::es) t) (hdb:(x==("__debug__":Str))=false:=by decide) (he:starEach (e::es) X.env=(false,eval e X.env)::starEach es X.env:=by rfl) (hpl:(backTo pos (starEach es X.env)).any (·.1)=false:=by rfl):
  PE X (.Call (.Name x p) (e::es) [] pos) (tMakeX C sp dvs E t):=by
 intro pins s σ H Q I h
 refine wpAny_Call_Name_kw (ld_glob I hg hm ?_ hdb)
 refine W.callWith_K (h₀:=X.base) I.ok.mod.kin M.kp (thn (ha pos pins s σ H _ I h) fun us s1 ⟨vs,H1,I1,r,z,q⟩=>⟨I1.kIn,?_⟩) he hpl
 exact run_makeX M F hr hb hd hx I1 r z q
end
end L2
namespace L2
open PySem PySem.Spec PyProof.Rows
def untr (H:Hp)(a:Addr):Hp:=fun b=>if b=a then none else H b
theorem untr_self {H:Hp}{a:Addr}:untr H a a=none:=if_pos rfl
theorem untr_ne {H:Hp}{a b:Addr}(h:b≠a):untr H a b=H b:=if_neg h
def excRz (K:W.Frag)(C:Addr):Bool:=W.mroIn K C (.type "BaseException")==some true&&W.typeIn K (.ref C)==some (.type "type")
def ThrowsV (X:Cx)(EX:Addr->Option Addr->Hp->Prop):Prop:=∀(pins:List (Addr×Obj)) (σ:St) (H:Hp) (s:Shared) (a C:Addr) (dd:Option Addr),Inv X pins σ H s->H a=some (.ext (ExcNew a C dd))->X.H₀ a=none->EX C dd (untr H a)->X.xe (.ref a) s
def tRaise (K:W.Frag)(H0:Hp)(te:TE)(EX:Addr->Option Addr->Hp->Prop):TS:=fun _ σ H=>te σ H fun v H'=>∃a C dd,v=.ref a/\H' a=some (.ext (ExcNew a C dd))/\H0 a=none/\excRz K C=true/\EX C dd (untr H' a)
theorem ps_raiseV {X:Cx}{ex:Expr}{te:TE}{pos:Pos}{EX:Addr->Option Addr->Hp->Prop}(hc:X.calm=true)(ht:ThrowsV X EX)(he:PE X ex te):PS X (.Raise (some ex) none pos) (tRaise X.K X.H₀ te EX):=by
 intro pins s σ H D I h
 rw[arm_exec_Raise]
 refine wpAny_bind (wpAny_standAt ?_)
 unfold raiseStmt
 show wpAny _ _ ((do let v ← eval ex X.env;standAt pos;pure v) >>= _) _ _ _
 refine wpAny_bind (wpAny_bind (thn (he pins s σ H _ I h) fun u s1 ⟨v,H1,I1,rv,a,C,dd,ev,ha,h0,hz,hE⟩=>?_))
 subst ev
 obtain rfl:u=Value.ref a:=rv
 refine wpAny_bind (wpAny_standAt (wpAny_pure ?_))
 obtain⟨oe,vs,ge,ce,de,da,v1⟩:=(show ObjOk X.prog X.w H1 s1.heap a (.ext (ExcNew a C dd)) from I1.hok a _ ha).1
 unfold excRz at hz
 rw[Bool.and_eq_true] at hz
 have hd:=I.ok.hd hc
 have KX:=I1.kIn
 have hT:=ht pins σ H1 s1 a C dd I1 ha h0 hE
 obtain⟨hh,g,d,t,os⟩:=s1
 have L0:W.Looks (model X.prog X.w) hh (typeOf (.ref a)) (.ref C):=ce▸(W.Looks.ld ge).andThen .now
 have L1:=W.looks_mroIn (M:=model X.prog X.w) KX (beq_iff_eq.mp hz.1)
 have L2':=W.looks_typeIn (M:=model X.prog X.w) KX (beq_iff_eq.mp hz.2)
 have LI:W.Looks (model X.prog X.w) hh (isInstance (.ref a) (.type "BaseException")) true:=L0.andThen L1
 have LT:W.Looks (model X.prog X.w) hh (isType (.ref a)) false:=by
  intro A' Q' E' s' k q
  unfold isType loadHead
  refine wpAny_bind (wpAny_loadPart (k _ _ ge) (wpAny_pure ?_))
  rw[da]
  exact q
 have LX:W.Looks (model X.prog X.w) hh (isExcClass (.ref a)) false:=LT.andThen (by simp only[Bool.false_eq_true,if_false];exact .now)
 have LF:∀c,W.Looks (model X.prog X.w) hh (excFromValue (.ref a) c) (.ref a):=fun c=>LX.andThen (by simp only[Bool.false_eq_true,if_false];exact LI.andThen (by simp only[if_true];exact .now))
 have LR:W.Looks (model X.prog X.w) hh (raisedInstance (.ref a)) (.ref a):=L0.andThen (L2'.andThen (by rw[if_pos (by decide)];exact .now))
 refine wpAny_bind (wpAny_pure ?_)
 refine wpAny_bind (wpAny_holding ((LF _).at ?_))
 refine wpAny_bind (LT.at ?_)
 simp only[Bool.false_eq_true,if_false]
 refine wpAny_bind (LR.at ?_)
 refine wpAny_bind ?_
 unfold setFlight
 refine wpAny_bind (wpAny_field ge da v1 ?_)
 rw[if_neg (by decide)]
 exact wpAny_pure (wpAny_raiseNew_none hd hT)
theorem throwsV_cx {P:Program}{w:World}{K:W.Frag}{mg:Str->Option Value}{base:Heap}{N:List Str}{qual:Str}{scope:Scope}{f:Addr}{cd:Value}{A:Around}{outer:List Env}{s:Shared}{H:Hp}{E:XK}:
  ThrowsV (cxOf (CX1 P w) P w K mg base N qual scope f cd A outer s H E) (fun C dd H'=>E (.ref C) dd H'):=by
 intro pins σ H1 s1 a C dd I ha h0 hE
 obtain⟨oe,vs,ge,ce,de,da,v1⟩:=(show ObjOk P w H1 s1.heap a (.ext (ExcNew a C dd)) from I.hok a _ ha).1
 have fr:(A.deeper (envOfC qual scope s.heap.objs.size f cd)).frames=some (envOfC qual scope s.heap.objs.size f cd::outer):=I.ok.frames
 have fE:∀b∈(envOfC qual scope s.heap.objs.size f cd::outer).filterMap (·.frame),H1 b=none:=I.stkFree
 have newA:s.heap.get? a=none:=by
  cases q:s.heap.get? a with
  |none=>rfl
  |some o=>
   have z:=I.base.free a o q h0 (by show a∉([]:List Addr);simp)
   rw[ha] at z
   cases z
 have old1:∀b,s1.heap.get? b=none->s.heap.get? b=none:=fun b hb=>by
  cases q:s.heap.get? b with
  |none=>rfl
  |some o=>
   obtain⟨o',z⟩:=I.base.there b o q (by show b∉([]:List Addr);simp)
   rw[hb] at z
   cases z
 have unt:∀b,s1.heap.get? b=none->H1 b=none:=fun b hb=>by
  cases q:H1 b with
  |none=>rfl
  |some o=>
   obtain⟨ob,z⟩:=(I.hok b o q).there
   rw[hb] at z
   cases z
 refine leave_first (s:=s1) fr I.stack rfl ge da v1 fun h'' T lb=>?_
 have na:∀b o,s.heap.get? b=some o->b≠a:=fun b o hb z=>by
  rw[z,newA] at hb
  cases hb
 have nL:∀b o,s.heap.get? b=some o->b∉frs outer->b∉(envOfC qual scope s.heap.objs.size f cd::outer).filterMap (·.frame):=fun b o hb hf hm=>by
  rcases List.mem_cons.mp (show b∈s.heap.objs.size::frs outer from hm) with z|z
  ·exact absurd (Heap.lt_size hb) (by rw[z];exact Nat.lt_irrefl _)
  ·exact hf z
 have nx:∀{b:Addr} {o:HO},H1 b=some o->(∀φ,o≠.ext φ)->untr H1 a b=some o:=fun {b o} e n=>(untr_ne fun z=>by
  rw[z,ha] at e
  cases e
  exact n _ rfl).trans e
 refine⟨a,C,dd,untr H1 a,rfl,I.os,I.bare,⟨fun b o hb hn hf hx=>?_,fun b o hb hn hf hx=>?_,fun b o hb hn hx=>?_,fun b o hb hx=>?_,fun b xs e=>nx (I.base.tups b xs e) fun _ z=>(by cases z),fun b o u e=>nx (I.base.frzs b o u e) fun _ z=>(by cases z),fun b ps e=>?_⟩,fun b o hb=>?_,⟨newA,untr_self,?_⟩,hE⟩
 ·have q:=I.base.keep b o hb hn hf hx
  exact lb.keep b o (na b o hb) (nL b o hb hf) q
 ·obtain⟨sl,q⟩:=I.base.slot b o hb hn hf hx
  obtain⟨sl2,q2⟩:=lb.slot b _ (na b o hb) q
  exact⟨sl2,q2⟩
 ·rw[untr_ne (na b o hb)]
  exact I.base.free b o hb hn hx
 ·obtain⟨o',q⟩:=I.base.there b o hb hx
  obtain⟨sl,q2⟩:=lb.slot b o' (na b o hb) q
  exact⟨_,q2⟩
 ·obtain⟨more,q⟩:=I.base.tbls b ps e
  exact⟨more,nx q fun _ z=>by cases z⟩
 ·by_cases hba:b=a
  ·rw[hba,untr_self] at hb
   cases hb
  ·rw[untr_ne hba] at hb
   refine(I.hok b o hb).stay (fun c u z hc=>?_) (fun c z=>nx z fun _ z=>by cases z) fun c xs z=>nx z fun _ z=>by cases z
   have hca:c≠a:=fun q=>by
    rcases z with z|z
    ·exact hba (z.symm.trans q)
    ·rw[q,ha] at z
     cases z
   refine lb.keep c u hca (fun hm=>?_) hc
   have:=fE c hm
   rcases z with z|z
   ·rw[z,hb] at this
    cases this
   ·rw[z] at this
    cases this
 ·obtain⟨oe',q1,q2,q3,q4⟩:=lb.exc _ _ ge da
  obtain⟨oT,ts,t1,t2,t3⟩:=lb.tr
  have hTa:T≠a:=fun z=>by
   have:=lb.new
   rw[z,ge] at this
   cases this
  refine⟨oe',_,T,oT,ts,q1,q2.trans ce,q3.trans de,q4,?_,hTa,old1 T lb.new,(untr_ne hTa).trans (unt T lb.new),t1,t2,t3⟩
  have:=(Array.getElem?_eq_some_iff.mp v1).1
  simp[this]
end L2
namespace L2
open PySem PySem.Spec PyProof.Rows
def excGetF (K:W.Frag)(C:Addr)(f:Str):Bool:=W.findIn K (.ref C) "__getattribute__"==some (some (.builtin "BaseException.__getattribute__"))&&W.findIn K (.ref C) "__getattr__"==some none
 &&W.findIn K (.ref C) f==some none&&W.hasDictIn K C&&W.mroIn K C (.type "BaseException")==some true
section
variable {prog:Program} {w:World} {A:Around} {E:Value->Shared->Prop} {s:Shared} {K:W.Frag} {a C:Addr} {ox od:Obj} {f:Str} {v:Value}
theorem ga_value {tk:Tok}{P:Value->Shared->Prop}(L0:W.Looks (model prog w) s.heap (typeOf (.ref a)) (.ref C))(L3:W.Looks (model prog w) s.heap (Builtin.ObjectAttr.find (.ref a) (.ref C) f) (.value v))(h:P v s):
  wpAny (model prog w) A (Builtin.«object.__getattribute__» ⟨[.ref a,.str f tk],[]⟩) (fun fin s'=>match fin with | .done (.ret v)=>P v s'|_=>False) E s:=by
 obtain⟨hh,gg,d,t,os⟩:=s
 unfold Builtin.«object.__getattribute__»
 refine wpAny_bind (wpAny_pure (a:=(Value.ref a,[Value.str f tk])) ?_)
 refine wpAny_bind (wpAny_pure (a:=f) ?_)
 refine wpAny_bind (L0.at (wpAny_bind (L3.at ?_)))
 exact wpAny_pure h
theorem exc_attr {expr:Bool}{Q:Value->Shared->Prop}(hq:excGetF K C f=true)(X:K.In s.heap)(I:W.InstAt s.heap a ox C (some od))(hl:W.lookIn f od=some (some v))(hv:W.handedIn v=true)(h:Q v { s with toks:=s.toks+1 }):wpAny (model prog w) A (getAttr (.ref a) f expr) Q E s:=by
 unfold excGetF at hq
 simp only[Bool.and_eq_true,beq_iff_eq] at hq
 obtain⟨⟨⟨⟨h1,h2⟩,h3⟩,h4⟩,h7⟩:=hq
 obtain⟨hh,g,d,t,os⟩:=s
 have L0:=I.type (M:=model prog w)
 have L1:=W.looks_findIn (M:=model prog w) X h1
 have L2:=W.looks_findIn (M:=model prog w) X h2
 have L3:=W.looks_find (M:=model prog w) X I (W.findObj_own h4 h3 rfl hl)
 have L4:=W.looks_mroIn (M:=model prog w) X h7
 have LI:W.Looks (model prog w) hh (isInstance (.ref a) (.type "BaseException")) true:=L0.andThen L4
 have f3:=F.attr_ValueError.ga.bind (.ref a)
 have hx2:(Value.builtin "BaseException.__getattribute__"==Value.builtin "object.__getattribute__")=false:=by decide +kernel
 unfold getAttr getAttrBy
 refine wpAny_bind (wpAny_mkText (wpAny_holding (wpAny_bind (L0.at (wpAny_bind (L1.at ?_))))))
 simp only[hx2,Bool.and_false,Bool.false_eq_true,if_false]
 unfold getAttrByItsOwn hookBefore
 simp only[onTheHeap,if_true]
 refine wpAny_bind (L2.at ?_)
 refine wpAny_bind (wpAny_attempt (wpAny_holding ?_))
 unfold callGetattribute boundAndCalled
 have hx0:(expr&&onTheHeap (Value.builtin "BaseException.__getattribute__"))=false:=by cases expr<;>rfl
 rw[if_neg (by rw[hx0];decide),f3]
 refine wpAny_bind (wpAny_pure ?_)
 refine wpAny_call (codeAny_call_builtin F.attr_ValueError.ga.plain F.entry_bexc_ga (check_ga (s:=⟨hh,g,d,t+1,os⟩) LI ?_))
 refine wpAny_mono (ga_value (s:=⟨hh,g,d,t+1,os⟩) (P:=fun u s'=>u=v/\s'=⟨hh,g,d,t+1,os⟩) (E:=fun _ _=>False) L0 L3 ⟨rfl,rfl⟩) (fun fin s' z=>?_) fun _ _ z=>z.elim
 rcases fin with(_|_|_|_)|_<;>first|(obtain⟨rfl,rfl⟩:=z;exact W.handed_on hv h)|exact z.elim
end
def tXfld (K:W.Frag)(ta:TE)(f:Str):TE:=fun σ H Q=>ta σ H fun x H1=>∃a C d fs v,x=.ref a/\H1 a=some (.ext (ExcAt a C (some d)))/\H1 d=some (.xd fs)/\fs.lookup f=some v/\excGetF K C f=true/\Q v H1
theorem pe_xfld {X:Cx}{e:Expr}{f:Str}{ta:TE}{pos:Pos}(he:PE X e ta)(hb:attributeBase e f X.env (eval e X.env)=eval e X.env):PE X (.Attribute e f pos) (tXfld X.K ta f):=by
 intro pins s σ H Q I h
 refine attr_of hb (thn (he pins s σ H _ I h) fun u s1 ⟨x,H1,I1,rx,a,C,d,fs,v,ex,ea,ed,l,hq,q⟩=>?_)
 subst ex
 obtain rfl:u=Value.ref a:=rx
 obtain⟨oe,vs,ge,ce,de,da⟩:=(show ObjOk X.prog X.w H1 s1.heap a (.ext (ExcAt a C (some d))) from I1.hok a _ ea).1
 obtain⟨mA,n,r⟩:=(show ObjOk X.prog X.w H1 s1.heap d (.xd fs) from I1.hok d _ ed)
 obtain⟨od,ho,hl⟩:=lookIn_ns n
 obtain⟨u,hu,ru⟩:=RelO.some_of (v:=v) (o:=mA f) (by rw[<- l];exact r f)
 have J:W.InstAt s1.heap a oe C (some od):=⟨ge,ce,by unfold W.notCls;rw[da],by rw[de];exact ho⟩
 exact exc_attr hq I1.kIn J (by rw[hl,hu]) (handed_of ru) ⟨v,H1,I1.tok _,ru,q⟩
def ExcOk (a C:Addr)(dd:Option Addr)(h:Heap):Prop:=ExcAt a C dd h/\∀d,dd=some d->∃o,h.get? d=some o
theorem kitx_excD {K:W.Frag}{a C:Addr}{dd:Option Addr}(hq:excGet K C=true):W.KitX K (.ref a) (.ref C) (ExcOk a C dd) where
 ty:=fun _ _ _ ⟨⟨oe,vs,ge,ce,_,_⟩,_⟩=>ce▸(W.Looks.ld ge).andThen .now
 it:=fun M h X _=>by
  unfold excGet at hq
  simp only[Bool.and_eq_true,beq_iff_eq] at hq
  have hcD:=hq.2
  unfold W.clsIn at hcD
  split at hcD
  ·rename_i c' d' cd' sl' ho
   intro A' Q' E' s' k q
   unfold isType loadHead
   exact wpAny_bind (wpAny_loadPart (k _ _ (X _ _ ho)) (wpAny_pure q))
  ·cases hcD
 ne:=fun h tp dd its n sl X htp=>by
  unfold excGet at hq
  simp only[Bool.and_eq_true,beq_iff_eq] at hq
  have hcD:=hq.2
  refine Bool.eq_false_iff.mpr fun q=>?_
  have e:C=tp:=Value.ref.inj (beq_iff_eq.mp q)
  subst e
  unfold W.clsIn at hcD
  split at hcD
  ·rename_i c' d' cd' sl' ho
   have z:=(X _ _ ho).symm.trans htp
   cases z
  ·cases hcD
 ca:=fun {_ _ _ _ _ s} X ⟨⟨oe,vs,ge,ce,de,da⟩,hd⟩ k=>by
  cases dd with
  |none=>exact exc_class hq X (ox:=oe) (od:=none) ⟨ge,ce,by unfold W.notCls;rw[da],by rw[de];trivial⟩ k
  |some d=>
   obtain⟨o,ho⟩:=hd d rfl
   exact exc_class hq X (ox:=oe) (od:=some o) ⟨ge,ce,by unfold W.notCls;rw[da],by rw[de];exact ho⟩ k
def rIsXD (K:W.Frag):List V->Hp->VK->Prop:=fun xs H Q=>∃a c C dd b,xs=[.ref a,c]/\H a=some (.ext (ExcAt a C dd))/\(∀d,dd=some d->∃o,H d=some o)/\excGet K C=true/\W.kitOne K (.ref C) (clsV c)=some b/\Q (.bl b) H
theorem call_isinstXD {X:Cx}:CallR X (.builtin "isinstance") (rIsXD X.K):=by
 intro pins s σ H xs us Q I r h
 obtain⟨a,c,C,dd,b,rfl,ha,hd,hq,e,q⟩:=h
 obtain⟨u,v,rfl,rx,ry⟩:=r.two
 cases(show u=Value.ref a from rx)
 have x:ExcAt a C dd s.heap:=(show ObjOk X.prog X.w H s.heap a (.ext (ExcAt a C dd)) from I.hok a _ ha).1
 have hv:W.kitOne X.K (.ref C) v=some b:=by
  cases c with
  |ref D=>cases(show v=Value.ref D from ry);exact e
  |ty T=>cases(show v=Value.type T from ry);exact e
  |_=>simp[clsV,W.kitOne,W.kitCls] at e
 exact W.kia_one (kitx_excD (dd:=dd) hq) I.kIn ⟨x,fun d z=>by
  obtain⟨o,ho⟩:=hd d z
  exact(I.hok d o ho).there⟩ hv (fun z=>nomatch z) fun tk=>⟨.bl b,H,I.tok tk,rfl,q⟩
end L2
namespace L2
open PySem PySem.Spec PyProof.Rows
structure Held (X:Cx)(pins:List (Addr×Obj))(σ:St)(H:Hp)(s:Shared)(a C:Addr)(dd:Option Addr):Prop where
 inv:Inv X pins σ H s
 at_:H a=some (.ext (ExcAt a C dd))
 tr:∃(h0:Heap) (T:Addr) (oe oT:Obj) (vs ts:Array Value),Fr0 X pins h0/\h0.get? T=none/\H T=none/\s.heap.get? a=some oe/\oe.data=.fields vs/\vs[1]?=some (.ref T)/\s.heap.get? T=some oT/\oT.data=.fields ts/\ts[3]?=some .none
abbrev TH:=Addr->Ends->St->Addr->Option Addr->Hp->Prop
def PH (X:Cx)(hs:List ExceptHandler)(T:TH):Prop:=∀(pins:List (Addr×Obj)) (s:Shared) (σ:St) (H:Hp) (D:Ends) (a C:Addr) (dd:Option Addr),Held X pins σ H s a C dd->T a D σ C dd H->wpAny (model X.prog X.w) X.A (handleBy (.ref a) X.env hs) (SP X pins D) X.xe s
def leavesX (K:W.Frag)(C:Addr)(D:Value):Bool:=W.kitCls K (.ref C) D==some false&&W.subIn K D (.type "BaseException")==some true
theorem leaves_ok {s:Shared}{a:Addr}{A:Around}{E:Value->Shared->Prop}{K:W.Frag}{prog:Program}{w:World}{C:Addr}{dd:Option Addr}{D:Value}{Q:Bool->Shared->Prop}(X:K.In s.heap)(x:ExcAt a C dd s.heap)(hq:leavesX K C D=true)(k:Q false s):
  wpAny (model prog w) A (excMatches (.ref a) D) Q E s:=by
 obtain⟨h,g,d,t,os⟩:=s
 obtain⟨oe,vs,ge,ce,_,_⟩:=x
 unfold leavesX at hq
 rw[Bool.and_eq_true] at hq
 obtain⟨h1,h2⟩:=hq
 obtain⟨L3,L5,L1⟩:=W.kit_cls (M:=model prog w) X (beq_iff_eq.mp h1)
 have L2:=W.looks_subIn (M:=model prog w) X (beq_iff_eq.mp h2)
 have L4:W.Looks (model prog w) h (typeOf (.ref a)) (.ref C):=ce▸(W.Looks.ld ge).andThen .now
 have L0:W.Looks (model prog w) h (isSubtype (.type "type") (.type "tuple")) false:=W.Looks.of_pure tc_notTuple
 have LI:W.Looks (model prog w) h (isInstance D (.type "tuple")) false:=L3.andThen L0
 have LX:W.Looks (model prog w) h (isExcClass D) true:=L5.andThen (by simpa using L2)
 unfold excMatches
 refine wpAny_bind (LI.at ?_)
 simp only[Bool.false_eq_true,if_false]
 refine wpAny_bind (wpAny_pure ?_)
 simp only[List.forIn_cons,List.forIn_nil]
 refine wpAny_bind (wpAny_bind (wpAny_bind (LX.at ?_)))
 simp only[Bool.not_true,Bool.false_eq_true,if_false]
 refine wpAny_pure (wpAny_pure ?_)
 refine wpAny_bind (L4.at ?_)
 refine wpAny_bind (wpAny_bind (wpAny_bind (L1.at ?_)))
 simp only[Bool.false_eq_true,if_false]
 refine wpAny_pure (wpAny_pure ?_)
 exact wpAny_pure k
theorem Held.exc {X:Cx}{pins:List (Addr×Obj)}{σ:St}{H:Hp}{s:Shared}{a C:Addr}{dd:Option Addr}(h:Held X pins σ H s a C dd):ExcAt a C dd s.heap:=(show ObjOk X.prog X.w H s.heap a (.ext (ExcAt a C dd)) from h.inv.hok a _ h.at_).1
theorem Held.fly {X:Cx}{pins:List (Addr×Obj)}{σ:St}{H:Hp}{s:Shared}{a C:Addr}{dd:Option Addr}{A:Around}{M:Model}{E:Value->Shared->Prop}{Q:Unit->Shared->Prop}(h:Held X pins σ H s a C dd)(q:∀h',Inv X pins σ H { s with heap:=h' }->Q () { s with heap:=h' }):wpAny M A (setFlight (.ref a) none) Q E s:=by
 obtain⟨h0,T,oe,oT,vs,ts,f0,nT,uT,ge,de,v1,gT,dT,t3⟩:=h.tr
 refine flight ge de v1 gT dT t3 fun h'' k1 k2=>q h'' (h.inv.flown (t':=s.toks) (ch:=[T]) f0 (fun b hb=>by rw[List.mem_singleton.mp hb];exact⟨nT,oT,ts,gT,dT⟩)
  (fun b o hb _ e=>(k1 b fun z=>hb (by simp[z])).trans e) (fun b o hb e=>⟨o.slots,(k1 b fun z=>hb (by simp[z])).trans e⟩) (fun b o _ _ z=>z) (fun _ _ z=>z) (fun _ _ _ z=>z) (fun b ps e=>⟨#[],by rw[e];simp⟩)
  (fun b o e=>by
   refine(h.inv.hok b o e).stay (fun c u z hc=>(k1 c fun q=>?_).trans hc) (fun _ z=>z) fun _ _ z=>z
   subst q
   rcases z with z|z
   ·rw[z,e] at uT
    cases uT
   ·rw[z] at uT
    cases uT))
def hAs (K:W.Frag)(i:Nat)(C':Value)(th:Addr->TS)(T:TH):TH:=fun a D σ C dd H=>(takesX K C C'=true/\th a { nx:=fun σ'' H''=>D.nx (σ''.set i none) H'',rt:=D.rt,bk:=fun σ'' H''=>D.bk (σ''.set i none) H'',ct:=fun σ'' H''=>D.ct (σ''.set i none) H'' } (σ.set i (some (.ref a))) H)\/(leavesX K C C'=true/\T a D σ C dd H)
theorem ph_nil {X:Cx}:PH X [] (fun _ _ _ _ _ _=>False):=fun _ _ _ _ _ _ _ _ _ h=>h.elim
theorem ph_as {X:Cx}{i:Nat}{x n:Str}{C':Value}{suite:List Stmt}{b₀:Stmt}{th:Addr->TS}{np hpos:Pos}{hs:List ExceptHandler}{T:TH}(hN:X.N.Nodup)(hi:X.N[i]?=some n)(hk:X.env.scope.names.lookup n=some .local)(hm:Means X x C')
  (hsu:∀a,PSs (X.hand a) (b₀::suite) (th a)) (hr:PH X hs T):PH X (.ExceptHandler (some (.Name x np)) (some n) (b₀::suite) hpos::hs) (hAs X.K i C' th T):=by
 intro pins s σ H D a C dd h ht
 refine wpAny_handleBy_cons (codeAny_handlers_test ?_) (by intro q;cases q)
 rcases ht with⟨tk,ht⟩|⟨tk,ht⟩
 ·refine ld_means (X:=X.hand a) (h.inv.hand a) hm (takes_ok h.inv.kIn h.exc tk (codeAny_handlers_suite_as ?_))
  refine h.fly fun h'' J3=>?_
  refine store_ok (X:=X.hand a) (J3.hand a) hN hi (.inl hk) (v:=.ref a) rfl (fun s4 J4=>?_) (.inr hk)
  refine wpAny_mono (hsu a pins s4 _ _ _ J4 ht) (fun f s5 q=>?_) fun _ _ z=>z.elim
  cases f with
  |next=>obtain⟨σ5,H5,J5,q5⟩:=q;exact goes_ok (J5.unhand h.inv.ok) hN hi hk fun s6 J6=>⟨_,_,J6,q5⟩
  |brk=>obtain⟨σ5,H5,J5,q5⟩:=q;exact goes_ok (J5.unhand h.inv.ok) hN hi hk fun s6 J6=>⟨_,_,J6,q5⟩
  |cont=>obtain⟨σ5,H5,J5,q5⟩:=q;exact goes_ok (J5.unhand h.inv.ok) hN hi hk fun s6 J6=>⟨_,_,J6,q5⟩
  |ret u=>obtain⟨v,σ5,H5,J5,r5,q5⟩:=q;exact goes_ok (J5.unhand h.inv.ok) hN hi hk fun s6 J6=>⟨v,_,_,J6,r5,q5⟩
 ·exact ld_means (X:=X.hand a) (h.inv.hand a) hm (leaves_ok h.inv.kIn h.exc tk (hr pins s σ H D a C dd h ht))
def tTryH (tb:TSX)(T:TH):TS:=fun D σ H=>tb D σ H fun σ' C dd H'=>∀a,H' a=none->T a D σ' C dd (upd H' a (.ext (ExcAt a C dd)))
theorem ps_tryH {X:Cx}{body:List Stmt}{h₀:ExceptHandler}{hs:List ExceptHandler}{tb:TSX}{T:TH}{pos:Pos}(hst:X.stack=X.env::X.outer/\X.env.frame=some X.env.locals)(hb:PSsX X body tb)(hh:PH X (h₀::hs) T):
  PS X (.Try body (h₀::hs) [] [] pos) (tTryH tb T):=by
 intro pins s σ H D I h
 refine wpAny_Try_except (wpAny_mono (hb pins s σ H D _ I h) (fun f s1 q=>?_) fun e s1 q=>?_)
 ·cases f with
  |next=>exact wpAny_execs_nil q
  |brk=>exact q
  |cont=>exact q
  |ret u=>exact q
 ·obtain⟨h0,a,C,dd,σ',H',rfl,J,⟨n1,n2,oe,vs,T0,oT,ts,g1,g2,gd,g3,g4,g5,g6,g7,g8,g9,g10⟩,fr0,ht⟩:=q
  refine look_next (base:=X.base) (outer:=X.outer) (by rw[J.ok.frames,hst.1]) (by rw[<- hst.1];exact J.stack) hst.2 g1 g3 g4 g8 g9 g10 g5 fun h1 h' T o1 o2 lb=>?_
  rw[<- hst.1] at lb
  have hTT:T≠T0:=fun z=>by
   obtain⟨o,q⟩:=o2
   rw[<- z,lb.new] at q
   cases q
  have hT:s1.heap.get? T=none:=(o1 T hTT).symm.trans lb.new
  have hTa:T≠a:=fun z=>by
   rw[z,g1] at hT
   cases hT
  have uT:H' T=none:=by
   cases q:H' T with
   |none=>rfl
   |some o=>
    obtain⟨ob,z⟩:=(J.hok T o q).there
    rw[hT] at z
    cases z
  obtain⟨oe',q1,q2,q3,q4⟩:=lb.exc oe vs ((o1 a (Ne.symm g5)).trans g1) g3
  obtain⟨oT',ts',t1,t2,t3⟩:=lb.tr
  have x2:ExcAt a C dd h':=⟨oe',_,q1,q2.trans g2,q3.trans gd,q4⟩
  have hne:∀{b:Addr} {o:HO},H' b=some o->b≠a:=fun {b o} e z=>by
   rw[z,n2] at e
   cases e
  have hne0:∀{b:Addr} {o:HO},H' b=some o->b≠T0:=fun {b o} e z=>by
   rw[z,g7] at e
   cases e
  have upK:∀b o,H' b=some o->upd H' a (.ext (ExcAt a C dd)) b=some o:=fun b o e=>(upd_ne (hne e)).trans e
  have J2:Inv X pins σ' (upd H' a (.ext (ExcAt a C dd))) { s1 with heap:=h' }:=J.flown (t':=s1.toks) (ch:=[a,T0]) fr0
   (fun b hb=>by
    rcases List.mem_cons.mp hb with z|z
    ·rw[z];exact⟨n1,oe,vs,g1,g3⟩
    ·rw[List.mem_singleton.mp z];exact⟨g6,oT,ts,g8,g9⟩)
   (fun b o hb hf e=>lb.keep b o (fun z=>hb (by simp[z])) hf ((o1 b fun z=>hb (by simp[z])).trans e))
   (fun b o hb e=>lb.slot b o (fun z=>hb (by simp[z])) ((o1 b fun z=>hb (by simp[z])).trans e))
   (fun b o hb e z=>(upd_ne fun z=>hb (by simp[z])).trans z) (fun b xs e=>upK b _ e) (fun b o u e=>upK b _ e) (fun b ps e=>⟨#[],by rw[upK b _ e];simp⟩)
   (fun b o e=>by
    by_cases hb:b=a
    ·subst hb
     rw[upd_same] at e
     cases e
     exact⟨x2,⟨_,q1⟩,fun k1 k2 ⟨o,v,e1,r⟩ k=>⟨o,v,k _ e1,r⟩⟩
    ·rw[upd_ne hb] at e
     refine(J.hok b o e).stay (fun c u z hc=>?_) (fun c z=>upK c _ z) fun c xs z=>upK c _ z
     have hc2:∃o,H' c=some o:=z.elim (fun z=>⟨o,by rw[z];exact e⟩) fun z=>⟨_,z⟩
     obtain⟨o2,hc2⟩:=hc2
     refine lb.keep c u (hne hc2) (fun hm=>?_) ((o1 c (hne0 hc2)).trans hc)
     have:=J.stkFree c hm
     rw[hc2] at this
     cases this)
  exact hh pins _ σ' _ D a C dd ⟨J2,upd_same,s1.heap,T,oe',oT',_,ts',J.fr0,hT,(upd_ne hTa).trans uT,q1,q4,(by have:=(Array.getElem?_eq_some_iff.mp g4).1;simp[this]),t1,t2,t3⟩ (ht a n2)
end L2
namespace SL
open PySem L2
theorem iteTK {c:Bool}{A B:Prop}(h:c=true)(a:A):if c=true then A else B:=by
 rw[if_pos h]
 exact a
theorem iteFK {c:Bool}{A B:Prop}(h:c=false)(b:B):if c=true then A else B:=by
 rw[h]
 exact iteF b
theorem len_sm {n:Nat}{z:Str}(h:Tx n z)(hn:n<=1000):z.length<=sizeLine:=Nat.le_of_lt (small1000 (Nat.le_trans h.1 hn))
theorem cps_len (z:Str):z.cps.toList.length=z.length:=by
 rw[Array.length_toList]
 rfl
theorem at0 {z:Str}(h:1<=z.length):atI z.cps.toList 0=some (hd z):=by
 have e:=cps_len z
 unfold hd
 cases g:z.cps.toList with
 |nil=>
  rw[g] at e
  have:z.length=0:=e.symm
  omega
 |cons c r=>
  exact atI_nat (j:=0) rfl
structure TS (mg:Str->Option Value):Prop where
 len:mg "len"=none
 all:mg "all"=none
 fig:∃u,mg "FIGURES"=some u/\RelV (.str FIG) u
 sma:∃u,mg "SMALL_LETTERS"=some u/\RelV (.str SMA) u
 nam:∃u,mg "NAME_SIGNS"=some u/\RelV (.str NAM) u
 mar:∃u,mg "MARK_SIGNS"=some u/\RelV (.str MAR) u
 mf:∃u,mg "MOST_FIGURES"=some u/\RelV (.int 9) u
 ms:∃u,mg "MOST_SIGNS"=some u/\RelV (.int 12) u
 mi:∃u,mg "MOST_ITEMS"=some u/\RelV (.int 4) u
def spMo:Sp:=fun vs H Q _=>∃(S z:Str),vs=[.str S,.str z]/\Tx 1000 z/\∀H',Same H H'->Q (.bl (madeM S z)) H'
def spTk (p:Str->Bool):Sp:=fun vs H Q _=>∃(v:V) (z:Str),vs=[v,.str z]/\Tx 1000 z/\∀H',Same H H'->Q (.bl (p z)) H'
def spWo (x:Str):Sp:=fun vs H Q _=>∃v:V,vs=[v]/\Q (.str x) H
def spIi:Sp:=fun vs H Q _=>∃z:Str,vs=[.str z]/\Tx 1000 z/\∀H',Same H H'->Q (.bl (isItem z)) H'
section
variable {P:Program} {w:World} {K:W.Frag} {mg:Str->Option Value} {base:Heap}
theorem scMo:FnScope ["signs","text"] ["signs","text"] (defScope sMo):=.of (by decide +kernel)
def scopeM:Scope:=⟨.function,[(".0",.local),("sign",.local),("signs",.free)],false,false,[]⟩
theorem scM:BlkScope (defScope sMo) ["signs","text"] ["sign"] ["signs"] [0] scopeM:=.of (by decide +kernel)
theorem ok_mo (F:Fun K "made_of" "made_of" sMo f fd)(T:TS mg):FnOk P w K mg base CX0 1 f fd ["signs","text"] spMo:=by
 refine F.ok scMo (fun vs H Q E h=>?_) (fun cdv A outer s H vs Q E hr h=>?_)
 ·obtain⟨S,z,rfl,_⟩:=h
  rfl
 ·obtain⟨S,z,rfl,tz,k⟩:=h
  refine⟨_,pss_one (ps_ret (pe_callB (call_allB rfl) (by rfl) T.all boot_all (pa_cons (pe_lc scM rfl rfl rfl (pi_str (pv 1)) (fun fp C s1 H1=>pg_name (i:=0) scM.nd rfl (Or.inl rfl)) (fun fp C s1 H1=>pts_nil)
   (fun fp C s1 H1=>pe_cmpR op_in_str (pv 0) (pv 1) (by with_unfolding_all rfl))) pa_nil))),?_⟩
  refine⟨_,rfl,z,1000,rfl,tz,fun D hD=>?_⟩
  refine lc_str (z:=z) (fun i ys H2=>ys=((z.cps.toList.take i).map (hasC S)).map V.bl/\Same H H2/\H2 D=some (.lst ys)) (len_sm tz (by decide)) ⟨rfl,(Same.refl H).upd_free hD,upd_same⟩
   (fun i ys H2 h=>by rw[h.1,List.length_map,List.length_map,List.length_take];exact Nat.min_le_left _ _) ?_ ?_
  ·rintro i ys H2 c N M hc ⟨rfl,s2,hD2⟩ hN hM
   refine⟨_,rfl,_,rfl,_,_,rfl,rfl,?_⟩
   rw[StrLaws.found_one]
   refine hN _ H2 hD2 ⟨?_,s2.upd_free hD,upd_same⟩
   have hc':z.cps.toList[i]?=some c:=by simpa using hc
   rw[List.take_add_one,hc',List.map_append,List.map_append]
   rfl
  ·rintro ys H2 ⟨rfl,s2,hD2⟩
   refine⟨D,_,rfl,SqL.of hD2,?_⟩
   rw[<- cps_len,List.take_length,List.all_map]
   exact k H2 s2
theorem scNt:FnScope ["self","text"] ["self","text"] (defScope sNt):=.of (by decide +kernel)
theorem ok_nt (F:Fun K "takes" "Number.takes" sNt f fd)(T:TS mg)(FM:Fun K "made_of" "made_of" sMo fM fdM)(bM:Binds K fdM ["signs","text"] [])(gM:mg "made_of"=some (.ref fM)):FnOk P w K mg base CX0 2 f fd ["self","text"] (spTk isNum):=by
 have GM:FnOk P w K mg base CX0 1 fM fdM ["signs","text"] spMo:=ok_mo FM T
 refine F.ok scNt (fun vs H Q E h=>?_) (fun cdv A outer s H vs Q E hr h=>?_)
 ·obtain⟨v,z,rfl,_⟩:=h
  rfl
 ·obtain⟨v,z,rfl,tz,k⟩:=h
  obtain⟨u1,g1,r1⟩:=T.mf
  obtain⟨u2,g2,r2⟩:=T.fig
  refine⟨_,pss_cons (ps_if (pt_not (pt_chain op_le op_le pe_int (pe_callB call_len_str (by rfl) T.len PySem.boot_len (pa_cons (pv 1) pa_nil)) (pe_glob (v:=.int 9) (by rfl) g1 r1))) (pss_one (ps_ret pe_bl)) pss_nil)
   (pss_one (ps_ret (pe_and (pe_call GM hr rfl gM FM.kp bM .nil pass0 (pa_cons (pe_glob (v:=.str FIG) (by rfl) g2 r2) (pa_cons (pv 1) pa_nil))) (pe_one (pe_or (pe_cmpR op_eq (pv 1) pe_str (nomark _)) (pe_one (pe_cmpR op_ne (pe_ix ix_str (pv 1) pe_int (fun _ _=>rfl)) pe_str (nomark _)))))))),?_⟩
  refine⟨_,rfl,z,rfl,len_sm tz (by decide),_,_,rfl,rfl,_,rfl,?_⟩
  have out:∀c:Bool,c=false->isNum z=c->Q (.bl false) H:=fun c hc e=>by
   have q:=k H (Same.refl H)
   rw[e,hc] at q
   exact q
  by_cases h1:1<=z.length
  ·refine iteTK (decide_eq_true (by omega)) ?_
   refine⟨_,_,rfl,rfl,_,rfl,?_⟩
   by_cases h2:z.length<=9
   ·refine iteFK (by rw[decide_eq_true (by omega)];rfl) ?_
    refine⟨_,rfl,FIG,z,rfl,tz,fun H1 s1=>⟨_,rfl,?_⟩⟩
    have ek:isNum z=(madeM FIG z&&(decide (z=Str.ofString "0")||!decide ((⟨#[hd z]⟩:Str)=Str.ofString "0"))):=by
     unfold isNum
     rw[decide_eq_true ⟨h1,h2⟩,Bool.true_and]
    have q:=k H1 s1
    rw[ek] at q
    cases hm:madeM FIG z with
    |false=>
     rw[hm] at q
     exact iteF q
    |true=>
     rw[hm,Bool.true_and] at q
     refine iteT ⟨_,rfl,rfl,_,rfl,?_⟩
     by_cases hz:z=Str.ofString "0"
     ·rw[decide_eq_true hz,Bool.true_or] at q
      exact iteTK (decide_eq_true (by rw[hz])) q
     ·rw[decide_eq_false hz,Bool.false_or] at q
      refine iteFK (decide_eq_false (fun y=>hz (by injection y))) ?_
      refine⟨_,rfl,_,_,hd z,rfl,rfl,len_sm tz (by decide),at0 h1,rfl,?_⟩
      have e2:decide (V.str (⟨#[hd z]⟩:Str)=V.str (Str.ofString "0"))=decide ((⟨#[hd z]⟩:Str)=Str.ofString "0"):=decide_eq_decide.mpr ⟨fun y=>by injection y,fun y=>by rw[y]⟩
      rw[e2]
      exact q
   ·refine iteTK (by rw[decide_eq_false (by omega)];rfl) ?_
    refine out _ rfl ?_
    unfold isNum
    rw[decide_eq_false (fun y=>h2 y.2)]
    rfl
  ·refine iteFK (decide_eq_false (by omega)) ⟨_,rfl,iteT ?_⟩
   refine out _ rfl ?_
   unfold isNum
   rw[decide_eq_false (fun y=>h1 y.1)]
   rfl
theorem scAt:FnScope ["self","text"] ["self","text"] (defScope sAt):=.of (by decide +kernel)
theorem ok_at (F:Fun K "takes" "Name.takes" sAt f fd)(T:TS mg)(FM:Fun K "made_of" "made_of" sMo fM fdM)(bM:Binds K fdM ["signs","text"] [])(gM:mg "made_of"=some (.ref fM)):FnOk P w K mg base CX0 2 f fd ["self","text"] (spTk isName):=by
 have GM:FnOk P w K mg base CX0 1 fM fdM ["signs","text"] spMo:=ok_mo FM T
 refine F.ok scAt (fun vs H Q E h=>?_) (fun cdv A outer s H vs Q E hr h=>?_)
 ·obtain⟨v,z,rfl,_⟩:=h
  rfl
 ·obtain⟨v,z,rfl,tz,k⟩:=h
  obtain⟨u1,g1,r1⟩:=T.ms
  obtain⟨u2,g2,r2⟩:=T.sma
  obtain⟨u3,g3,r3⟩:=T.nam
  refine⟨_,pss_cons (ps_if (pt_not (pt_chain op_le op_le pe_int (pe_callB call_len_str (by rfl) T.len PySem.boot_len (pa_cons (pv 1) pa_nil)) (pe_glob (v:=.int 12) (by rfl) g1 r1))) (pss_one (ps_ret pe_bl)) pss_nil)
   (pss_one (ps_ret (pe_and (pe_cmpR op_in_str (pe_ix ix_str (pv 1) pe_int (fun _ _=>rfl)) (pe_glob (v:=.str SMA) (by rfl) g2 r2) (by with_unfolding_all rfl)) (pe_one (pe_call GM hr rfl gM FM.kp bM .nil pass0 (pa_cons (pe_glob (v:=.str NAM) (by rfl) g3 r3) (pa_cons (pv 1) pa_nil))))))),?_⟩
  refine⟨_,rfl,z,rfl,len_sm tz (by decide),_,_,rfl,rfl,_,rfl,?_⟩
  have out:∀c:Bool,c=false->isName z=c->Q (.bl false) H:=fun c hc e=>by
   have q:=k H (Same.refl H)
   rw[e,hc] at q
   exact q
  by_cases h1:1<=z.length
  ·refine iteTK (decide_eq_true (by omega)) ?_
   refine⟨_,_,rfl,rfl,_,rfl,?_⟩
   by_cases h2:z.length<=12
   ·refine iteFK (by rw[decide_eq_true (by omega)];rfl) ?_
    refine⟨_,rfl,_,_,hd z,rfl,rfl,len_sm tz (by decide),at0 h1,_,_,rfl,rfl,?_⟩
    rw[StrLaws.found_one]
    have ek:isName z=(hasC SMA (hd z)&&madeM NAM z):=by
     unfold isName
     rw[decide_eq_true ⟨h1,h2⟩,Bool.true_and]
    have e1:decide (hd z∈SMA.cps.toList)=hasC SMA (hd z):=rfl
    rw[e1]
    refine⟨_,rfl,?_⟩
    cases hm:hasC SMA (hd z) with
    |false=>
     have q:=k H (Same.refl H)
     rw[ek,hm] at q
     exact iteF q
    |true=>
     refine iteT ⟨_,rfl,NAM,z,rfl,tz,fun H1 s1=>?_⟩
     have q:=k H1 s1
     rw[ek,hm,Bool.true_and] at q
     exact q
   ·refine iteTK (by rw[decide_eq_false (by omega)];rfl) ?_
    refine out _ rfl ?_
    unfold isName
    rw[decide_eq_false (fun y=>h2 y.2)]
    rfl
  ·refine iteFK (decide_eq_false (by omega)) ⟨_,rfl,iteT ?_⟩
   refine out _ rfl ?_
   unfold isName
   rw[decide_eq_false (fun y=>h1 y.1)]
   rfl
end
end SL
namespace SL
open PySem L2
structure Kd (K:W.Frag)(mg:Str->Option Value)(nm:Str)(C ft fw:Addr)(fdt fdw:FuncData):Prop where
 mkn:MkN K C
 g:mg nm=some (.ref C)
 cls:Cls K C
 mt:Meth K C "takes" ft
 bt:Binds K fdt ["self","text"] []
 mw:Meth K C "word" fw
 bw:Binds K fdw ["self"] []
section
variable {P:Program} {w:World} {K:W.Frag} {mg:Str->Option Value} {base:Heap}
theorem scIi:FnScope ["text"] ["text"] (defScope sIi):=.of (by decide +kernel)
theorem ok_ii (F:Fun K "is_item" "is_item" sIi f fd)
  (N:Kd K mg "Number" CN ftN fwN fdtN fdwN) (A:Kd K mg "Name" CA ftA fwA fdtA fdwA)
  (GN:FnOk P w K mg base CX0 2 ftN fdtN ["self","text"] (spTk isNum)) (GA:FnOk P w K mg base CX0 2 ftA fdtA ["self","text"] (spTk isName)):
  FnOk P w K mg base CX0 3 f fd ["text"] spIi:=by
 refine F.ok scIi (fun vs H Q E h=>?_) (fun cdv A1 outer s H vs Q E hr h=>?_)
 ·obtain⟨z,rfl,_⟩:=h
  rfl
 ·obtain⟨z,rfl,tz,k⟩:=h
  refine⟨_,pss_one (ps_ret (pe_or (pe_methD (CX:=CX0) (pe_makeN N.mkn rfl N.g) hr pass0 (pa_cons (pv 0) pa_nil)) (pe_one (pe_methD (CX:=CX0) (pe_makeN A.mkn rfl A.g) hr pass0 (pa_cons (pv 0) pa_nil))))),?_⟩
  intro x dx h1 h2 h3
  have s0:Same H (upd (upd H dx (.own x)) x (.ins CN dx [])):=((Same.refl H).upd_free h2).upd_free h1
  refine⟨x,CN,dx,[],ftN,fdtN,_,_,rfl,upd_same,rfl,N.cls,N.mt,GN,N.bt,_,rfl,.ref x,z,rfl,tz,fun H1 s1=>⟨_,rfl,?_⟩⟩
  cases e:isNum z with
  |true=>
   have q:=k H1 (s0.trans s1)
   unfold isItem at q
   rw[e] at q
   exact iteT q
  |false=>
   refine iteF ?_
   intro x2 dx2 g1 g2 g3
   have s2:Same H1 (upd (upd H1 dx2 (.own x2)) x2 (.ins CA dx2 [])):=((Same.refl H1).upd_free g2).upd_free g1
   refine⟨x2,CA,dx2,[],ftA,fdtA,_,_,rfl,upd_same,rfl,A.cls,A.mt,GA,A.bt,_,rfl,.ref x2,z,rfl,tz,fun H2 s3=>?_⟩
   have q:=k H2 (((s0.trans s1).trans s2).trans s3)
   unfold isItem at q
   rw[e,Bool.false_or] at q
   exact q
theorem scKt:FnScope ["self","text"] ["self","text"] (defScope sKt):=.of (by decide +kernel)
theorem ok_kt (F:Fun K "takes" "Mark.takes" sKt f fd)(T:TS mg)(FM:Fun K "made_of" "made_of" sMo fM fdM)(bM:Binds K fdM ["signs","text"] [])(gM:mg "made_of"=some (.ref fM))
  (FI:Fun K "is_item" "is_item" sIi fI fdI) (bI:Binds K fdI ["text"] []) (gI:mg "is_item"=some (.ref fI)) (GI:FnOk P w K mg base CX0 3 fI fdI ["text"] spIi):FnOk P w K mg base CX0 4 f fd ["self","text"] (spTk isMark):=by
 have GM:FnOk P w K mg base CX0 1 fM fdM ["signs","text"] spMo:=ok_mo FM T
 refine F.ok scKt (fun vs H Q E h=>?_) (fun cdv A outer s H vs Q E hr h=>?_)
 ·obtain⟨v,z,rfl,_⟩:=h
  rfl
 ·obtain⟨v,z,rfl,tz,k⟩:=h
  have hr1:Room 1 _:=hr.mono (by decide)
  obtain⟨u1,g1,r1⟩:=T.ms
  obtain⟨u2,g2,r2⟩:=T.mar
  refine⟨_,pss_cons (ps_if (pt_not (pt_chain op_le op_le pe_int (pe_callB call_len_str (by rfl) T.len PySem.boot_len (pa_cons (pv 1) pa_nil)) (pe_glob (v:=.int 12) (by rfl) g1 r1))) (pss_one (ps_ret pe_bl)) pss_nil)
   (pss_one (ps_ret (pe_and (pe_call GM hr1 rfl gM FM.kp bM .nil pass0 (pa_cons (pe_glob (v:=.str MAR) (by rfl) g2 r2) (pa_cons (pv 1) pa_nil))) (pe_one (pe_not (pe_call GI hr rfl gI FI.kp bI .nil pass0 (pa_cons (pv 1) pa_nil))))))),?_⟩
  refine⟨_,rfl,z,rfl,len_sm tz (by decide),_,_,rfl,rfl,_,rfl,?_⟩
  have out:∀c:Bool,c=false->isMark z=c->Q (.bl false) H:=fun c hc e=>by
   have q:=k H (Same.refl H)
   rw[e,hc] at q
   exact q
  by_cases h1:1<=z.length
  ·refine iteTK (decide_eq_true (by omega)) ?_
   refine⟨_,_,rfl,rfl,_,rfl,?_⟩
   by_cases h2:z.length<=12
   ·refine iteFK (by rw[decide_eq_true (by omega)];rfl) ?_
    refine⟨_,rfl,MAR,z,rfl,tz,fun H1 s1=>⟨_,rfl,?_⟩⟩
    have ek:isMark z=(madeM MAR z&&!isItem z):=by
     unfold isMark
     rw[decide_eq_true ⟨h1,h2⟩,Bool.true_and]
    cases hm:madeM MAR z with
    |false=>
     have q:=k H1 s1
     rw[ek,hm] at q
     exact iteF q
    |true=>
     refine iteT ⟨_,rfl,z,rfl,tz,fun H2 s2=>⟨_,rfl,?_⟩⟩
     have q:=k H2 (s1.trans s2)
     rw[ek,hm,Bool.true_and] at q
     exact q
   ·refine iteTK (by rw[decide_eq_false (by omega)];rfl) ?_
    refine out _ rfl ?_
    unfold isMark
    rw[decide_eq_false (fun y=>h2 y.2)]
    rfl
  ·refine iteFK (decide_eq_false (by omega)) ⟨_,rfl,iteT ?_⟩
   refine out _ rfl ?_
   unfold isMark
   rw[decide_eq_false (fun y=>h1 y.1)]
   rfl
end
end SL
namespace SL
open PySem L2
theorem walk_tx (c:Nat):∀(l:List Nat) (s:List Str×Str) (n:Nat),(∀x∈l,x<128)->(∀p∈s.1,Tx n p)->Tx n s.2->(∀p∈(l.foldl (spStep c) s).1,Tx (n+l.length) p)/\Tx (n+l.length) (l.foldl (spStep c) s).2
 | [],s,n,_,h1,h2=>⟨h1,h2⟩
 |x::l,s,n,h,h1,h2=>by
  rw[List.foldl_cons,List.length_cons,show n+(l.length+1)=(n+1)+l.length by omega]
  refine walk_tx c l _ (n+1) (fun y hy=>h y (List.mem_cons_of_mem _ hy)) ?_ ?_
  ·unfold spStep
   split
   ·intro p hp
    rcases List.mem_append.mp hp with hp|hp
    ·exact(h1 p hp).mono (Nat.le_succ _)
    ·rw[List.mem_singleton] at hp
     subst hp
     exact h2.mono (Nat.le_succ _)
   ·exact fun p hp=>(h1 p hp).mono (Nat.le_succ _)
  ·unfold spStep
   split
   ·exact⟨Nat.zero_le _,fun y hy=>by cases hy⟩
   ·exact h2.app (Tx.one (h x (List.mem_cons_self ..)))
theorem spl_tx {n:Nat}{z:Str}(c:Nat)(h:Tx n z):∀p∈spl c z.cps.toList,Tx n p:=by
 have q:=walk_tx c z.cps.toList ([],Str.empty) 0 h.2 (fun p hp=>by cases hp) ⟨Nat.zero_le _,fun y hy=>by cases hy⟩
 have e:0+z.cps.toList.length<=n:=by
  rw[cps_len]
  have:=h.1
  omega
 intro p hp
 unfold spl at hp
 rcases List.mem_append.mp hp with hp|hp
 ·exact(q.1 p hp).mono e
 ·rw[List.mem_singleton] at hp
  subst hp
  exact q.2.mono e
section
variable {P:Program} {w:World} {K:W.Frag} {mg:Str->Option Value} {base:Heap}
theorem scIt:FnScope ["self","text","pieces"] ["self","text"] (defScope sIt):=.of (by decide +kernel)
def scopeI:Scope:=⟨.function,[(".0",.local),("piece",.local),("is_item",.globalImplicit)],false,false,[]⟩
theorem scI:BlkScope (defScope sIt) ["self","text","pieces"] ["piece"] [] [] scopeI:=.of (by decide +kernel)
theorem ok_it (F:Fun K "takes" "Items.takes" sIt f fd)(T:TS mg)
  (FI:Fun K "is_item" "is_item" sIi fI fdI) (bI:Binds K fdI ["text"] []) (gI:mg "is_item"=some (.ref fI)) (GI:FnOk P w K mg base CX0 3 fI fdI ["text"] spIi):FnOk P w K mg base CX0 4 f fd ["self","text"] (spTk isList):=by
 refine F.ok scIt (fun vs H Q E h=>?_) (fun cdv A outer s H vs Q E hr h=>?_)
 ·obtain⟨v,z,rfl,_⟩:=h
  rfl
 ·obtain⟨v,z,rfl,tz,k⟩:=h
  obtain⟨u1,g1,r1⟩:=T.mi
  refine⟨_,pss_cons (ps_if (pt_not (PW.pt (pw_and (pt_val (pe_bm PySem.F.plainAttrs_str PySem.F.slot_str_startswith PySem.F.type_str_startswith mt_starts (pv 1) (pa_cons pe_str pa_nil))) (pw_and1 (pt_val (pe_bm PySem.F.plainAttrs_str PySem.F.slot_str_endswith PySem.F.type_str_endswith mt_ends (pv 1) (pa_cons pe_str pa_nil))))))) (pss_one (ps_ret pe_bl)) pss_nil)
   (pss_cons (ps_if (pt_cmpR op_eq (pv 1) pe_str (nomark _)) (pss_one (ps_ret pe_bl)) pss_nil)
   (pss_cons (ps_set (i:=2) scIt.nd rfl (Or.inl rfl) (pe_bm PySem.F.plainAttrs_str PySem.F.slot_str_split PySem.F.type_str_split mt_split (pe_slice sl_str (pv 1) (po_some pe_int) (po_some (pe_un un_neg pe_int))) (pa_cons pe_str pa_nil)))
   (pss_one (ps_ret (pe_and (pe_cmpR op_le (pe_callB call_len_seq (by rfl) T.len PySem.boot_len (pa_cons (pv 2) pa_nil)) (pe_glob (v:=.int 4) (by rfl) g1 r1) (nomark _))
    (pe_one (pe_callB (call_allB rfl) (by rfl) T.all boot_all (pa_cons (pe_lc scI rfl rfl rfl (pi_list (pv 2)) (fun fp C s1 H1=>pg_name (i:=0) scI.nd rfl (Or.inl rfl)) (fun fp C s1 H1=>pts_nil)
     (fun fp C s1 H1=>pe_call GI hr rfl gI FI.kp bI .nil pass0 (pa_cons (pv 0) pa_nil))) pa_nil)))))))),?_⟩
  have fal:isList z=false->Q (.bl false) H:=fun e=>by
   have q:=k H (Same.refl H)
   rw[e] at q
   exact q
  refine⟨_,rfl,rfl,z,_,rfl,rfl,_,rfl,?_⟩
  cases e1:Txt.startswith z (Str.ofString "[") with
  |false=>
   refine iteF (iteT (fal ?_))
   unfold isList
   rw[e1]
   rfl
  |true=>
   refine iteT ⟨_,rfl,rfl,z,_,rfl,rfl,_,rfl,?_⟩
   cases e2:Txt.endswith z (Str.ofString "]") with
   |false=>
    refine iteT (fal ?_)
    unfold isList
    rw[e1,e2]
    rfl
   |true=>
    refine iteF ⟨_,rfl,rfl,_,rfl,?_⟩
    by_cases hz:z=Str.ofString "[]"
    ·refine iteTK (decide_eq_true (by rw[hz])) ?_
     have q:=k H (Same.refl H)
     have e:isList z=true:=by
      unfold isList
      rw[e1,e2,decide_eq_true hz]
      rfl
     rw[e] at q
     exact q
    ·refine iteFK (decide_eq_false (fun y=>hz (by injection y))) ?_
     have tz':Tx 1000 (Txt.slice z (some 1) (some (-1))):=tz.slice _ _
     have l1:=split_len (Txt.slice z (some 1) (some (-1))) (Str.ofString ",")
     have l2:=parts_len (Txt.slice z (some 1) (some (-1))) (Str.ofString ",")
     have l3:=tz'.1
     have big:1002<=sizeLine:=by decide
     refine⟨_,rfl,_,rfl,_,rfl,_,rfl,z,rfl,len_sm tz (by decide),rfl,_,_,rfl,rfl,rfl,len_sm tz' (by decide),by omega,by omega,fun p hp=>?_⟩
     have tl:∀y∈Txt.split (Txt.slice z (some 1) (some (-1))) (Str.ofString ","),Tx 1000 y:=fun y hy=>by
      rw[show Str.ofString ","=(⟨#[44]⟩:Str) from rfl,split_spl _ (by decide)] at hy
      exact spl_tx 44 tz' y hy
     have ek:isList z=(decide ((Txt.split (Txt.slice z (some 1) (some (-1))) (Str.ofString ",")).length<=4)&&(Txt.split (Txt.slice z (some 1) (some (-1))) (Str.ofString ",")).all isItem):=by
      unfold isList
      rw[e1,e2,decide_eq_false hz]
      rfl
     generalize hL:Txt.split (Txt.slice z (some 1) (some (-1))) (Str.ofString ",")=L at hp l1 tl ek ⊢
     have s0:Same H (upd H p (.lst (L.map V.str))):=(Same.refl H).upd_free hp
     refine⟨_,rfl,p,_,rfl,.inl (SqL.of upd_same),_,_,rfl,rfl,_,rfl,?_⟩
     by_cases h4:L.length<=4
     ·refine iteTK (decide_eq_true (by rw[List.length_map];omega)) ?_
      refine⟨_,rfl,p,rfl,⟨_,SqL.of upd_same⟩,fun D hD=>?_⟩
      refine lc_list (K:=K) (a:=p) (xs:=L.map V.str) (fun i ys H2=>ys=((L.take i).map isItem).map V.bl/\Same (upd H p (.lst (L.map V.str))) H2/\H2 D=some (.lst ys)) (by rw[List.length_map];omega) ⟨rfl,(Same.refl _).upd_free hD,upd_same⟩
       (fun i ys H2 h=>by rw[h.1,List.length_map,List.length_map,List.length_take];exact Nat.min_le_left _ _) (fun i ys H2 h=>SqL.of (h.2.1 _ _ upd_same)) ?_ ?_
      ·rintro i ys H2 x N M hx ⟨rfl,s2,hD2⟩ hN hM
       rw[List.getElem?_map] at hx
       cases el:L[i]? with
       |none=>rw[el] at hx;cases hx
       |some y=>
        rw[el] at hx
        cases hx
        refine⟨_,rfl,y,rfl,tl y (List.mem_of_getElem? el),fun H3 s3=>hN _ H3 (s3 _ _ hD2) ⟨?_,(s2.trans s3).upd_free hD,upd_same⟩⟩
        rw[List.take_add_one,el,List.map_append,List.map_append]
        rfl
      ·rintro ys H2 ⟨rfl,s2,hD2⟩
       refine⟨D,_,rfl,SqL.of hD2,?_⟩
       have q:=k H2 (s0.trans s2)
       rw[ek,decide_eq_true h4,Bool.true_and] at q
       rw[List.length_map,List.take_length,List.all_map]
       exact q
     ·refine iteFK (decide_eq_false (by rw[List.length_map];omega)) ?_
      have q:=k _ s0
      rw[ek,decide_eq_false h4] at q
      exact q
end
end SL
namespace SL
open PySem L2
def SoAt (H:Hp)(C p:Addr):Prop:=∃dx,H p=some (.ins C dx [])
theorem SoAt.same {H H':Hp}{C p:Addr}(h:SoAt H C p)(s:Same H H'):SoAt H' C p:=by
 obtain⟨dx,h⟩:=h
 exact⟨dx,s _ _ h⟩
def restM (z:Str):Nat->Option So
 |0=>sortM z
 |1=>if isName z then some .nam else if isList z then some .lis else if isMark z then some .mar else none
 |2=>if isList z then some .lis else if isMark z then some .mar else none
 |3=>if isMark z then some .mar else none
 |_=>none
def spAl (C1 C2 C3 C4:Addr):Sp:=fun vs H Q _=>vs=[]/\∀(a x1 x2 x3 x4:Addr) H',Same H H'->SoAt H' C1 x1->SoAt H' C2 x2->SoAt H' C3 x3->SoAt H' C4 x4->H' a=some (.tup [.ref x1,.ref x2,.ref x3,.ref x4])->Q (.ref a) H'
def spSo:Sp:=fun vs H Q _=>∃z:Str,vs=[.str z]/\Tx 1000 z/\∀H',Same H H'->Q (vS (sortM z)) H'
structure SK (P:Program)(w:World)(K:W.Frag)(mg:Str->Option Value)(base:Heap)(C:Addr)(p:Str->Bool)(x:Str):Prop where
 cls:Cls K C
 tk:∃f fd,Meth K C "takes" f/\Binds K fd ["self","text"] []/\FnOk P w K mg base CX0 4 f fd ["self","text"] (spTk p)
 wd:∃f fd,Meth K C "word" f/\Binds K fd ["self"] []/\FnOk P w K mg base CX0 4 f fd ["self"] (spWo x)
section
variable {P:Program} {w:World} {K:W.Frag} {mg:Str->Option Value} {base:Heap}
theorem ok_wo {n q:Str}{st:Stmt}{x:Str}{p1 p2:Pos}{k0:Nat}(F:Fun K n q st f fd)(sc:FnScope ["self"] ["self"] (defScope st))(hb:defBody st=[.Return (some (.Constant (.str x) k0 p1)) p2]):FnOk P w K mg base CX0 1 f fd ["self"] (spWo x):=by
 refine F.ok sc (fun vs H Q E h=>?_) (fun cdv A outer s H vs Q E hr h=>?_)
 ·obtain⟨v,rfl,_⟩:=h
  rfl
 ·obtain⟨v,rfl,k⟩:=h
  rw[hb]
  exact⟨_,pss_one (ps_ret pe_str),k⟩
theorem scAl:FnScope [] [] (defScope sAl):=.of (by decide +kernel)
theorem ok_al (F:Fun K "all_sorts" "all_sorts" sAl f fd)
  (N:Kd K mg "Number" C1 t1 w1 ft1 fw1) (A:Kd K mg "Name" C2 t2 w2 ft2 fw2) (I:Kd K mg "Items" C3 t3 w3 ft3 fw3) (M:Kd K mg "Mark" C4 t4 w4 ft4 fw4):FnOk P w K mg base CX0 1 f fd [] (spAl C1 C2 C3 C4):=by
 refine F.ok scAl (fun vs H Q E h=>?_) (fun cdv A1 outer s H vs Q E hr h=>?_)
 ·rw[h.1]
  rfl
 ·obtain⟨rfl,k⟩:=h
  refine⟨_,pss_one (ps_ret (pe_tup (pa_cons (pe_makeN N.mkn rfl N.g) (pa_cons (pe_makeN A.mkn rfl A.g) (pa_cons (pe_makeN I.mkn rfl I.g) (pa_cons (pe_makeN M.mkn rfl M.g) pa_nil)))))),?_⟩
  intro x1 d1 a1 b1 _ x2 d2 a2 b2 _ x3 d3 a3 b3 _ x4 d4 a4 b4 _
  refine⟨(by show 4<=sizeLine;decide),fun p hp=>?_⟩
  have s1:=((Same.refl H).upd_free (o:=.own x1) b1).upd_free (o:=.ins C1 d1 []) a1
  have s2:=((Same.refl _).upd_free (o:=.own x2) b2).upd_free (o:=.ins C2 d2 []) a2
  have s3:=((Same.refl _).upd_free (o:=.own x3) b3).upd_free (o:=.ins C3 d3 []) a3
  have s4:=((Same.refl _).upd_free (o:=.own x4) b4).upd_free (o:=.ins C4 d4 []) a4
  have s5:=(Same.refl _).upd_free (o:=.tup [.ref x1,.ref x2,.ref x3,.ref x4]) hp
  refine k p x1 x2 x3 x4 _ ((((s1.trans s2).trans s3).trans s4).trans s5) ⟨d1,((s2.trans s3).trans (s4.trans s5)) _ _ upd_same⟩ ⟨d2,(s3.trans (s4.trans s5)) _ _ upd_same⟩ ⟨d3,(s4.trans s5) _ _ upd_same⟩ ⟨d4,s5 _ _ upd_same⟩ upd_same
theorem scSo:FnScope ["text","sort"] ["text"] (defScope sSo):=.of (by decide +kernel)
theorem ok_so (F:Fun K "sort_of" "sort_of" sSo f fd)(FA:Fun K "all_sorts" "all_sorts" sAl fA fdA)(bA:Binds K fdA [] [])(gA:mg "all_sorts"=some (.ref fA))(GA:FnOk P w K mg base CX0 1 fA fdA [] (spAl C1 C2 C3 C4))
  (S1:SK P w K mg base C1 isNum (So.str .num)) (S2:SK P w K mg base C2 isName (So.str .nam)) (S3:SK P w K mg base C3 isList (So.str .lis)) (S4:SK P w K mg base C4 isMark (So.str .mar)):FnOk P w K mg base CX0 5 f fd ["text"] spSo:=by
 refine F.ok scSo (fun vs H Q E h=>?_) (fun cdv A outer s H vs Q E hr h=>?_)
 ·obtain⟨z,rfl,_⟩:=h
  rfl
 ·obtain⟨z,rfl,tz,k⟩:=h
  have hr1:Room 1 _:=hr.mono (by decide)
  refine⟨_,pss_cons (ps_for PassesOwn.never rfl (pi_tup (pe_call0 GA hr1 rfl gA FA.kp bA .nil pass0)) (pg_name (i:=1) scSo.nd rfl (Or.inl rfl))
    (pss_one (ps_if (pt_val (pe_methD (CX:=CX0) (pv 1) hr pass0 (pa_cons (pv 0) pa_nil))) (pss_one (ps_ret (pe_methD0 (CX:=CX0) (pv 1) hr pass0))) pss_nil)))
   (pss_one (ps_ret pe_non)),?_⟩
  refine⟨rfl,fun a x1 x2 x3 x4 H1 s1 y1 y2 y3 y4 ha=>?_⟩
  refine⟨a,rfl,⟨_,SqT.of ha⟩,?_⟩
  refine for_tup (xs:=[.ref x1,.ref x2,.ref x3,.ref x4]) (fun i σ H2=>(∃v,σ=[some (.str z),v])/\Same H1 H2/\sortM z=restM z i) ⟨⟨none,rfl⟩,Same.refl _,rfl⟩ (fun i σ H2 _ h=>SqT.of (h.2.1 _ _ ha)) ?_ ?_
  ·rintro i x σ H2 hx ⟨⟨v,rfl⟩,s2,er⟩
   have row:∃(C y:Addr) (p:Str->Bool) (o:So),x=.ref y/\SoAt H2 C y/\SK P w K mg base C p o.str/\(p z=true->restM z i=some o)/\(p z=false->restM z i=restM z (i+1)):=by
    rcases i with _|_|_|_|i
    ·cases hx
     exact⟨C1,x1,isNum,.num,rfl,y1.same s2,S1,fun e=>if_pos e,fun e=>if_neg (by rw[e];nofun)⟩
    ·cases hx
     exact⟨C2,x2,isName,.nam,rfl,y2.same s2,S2,fun e=>if_pos e,fun e=>if_neg (by rw[e];nofun)⟩
    ·cases hx
     exact⟨C3,x3,isList,.lis,rfl,y3.same s2,S3,fun e=>if_pos e,fun e=>if_neg (by rw[e];nofun)⟩
    ·cases hx
     exact⟨C4,x4,isMark,.mar,rfl,y4.same s2,S4,fun e=>if_pos e,fun e=>if_neg (by rw[e];nofun)⟩
    ·cases hx
   obtain⟨C,y,p,o,rfl,⟨dx,hy⟩,S,hT,hF⟩:=row
   obtain⟨ft,fdt,mt,bt,ot⟩:=S.tk
   obtain⟨fw,fdw,mw,bw,ow⟩:=S.wd
   refine⟨_,rfl,y,C,dx,[],ft,fdt,_,_,rfl,hy,rfl,S.cls,mt,ot,bt,_,rfl,.ref y,z,rfl,tz,fun H3 s3=>⟨_,rfl,?_⟩⟩
   cases e:p z with
   |true=>
    refine iteT ⟨_,rfl,y,C,dx,[],fw,fdw,_,_,rfl,s3 _ _ hy,rfl,S.cls,mw,ow,bw,.ref y,rfl,?_⟩
    have q:=k H3 ((s1.trans s2).trans s3)
    rw[er,hT e] at q
    exact q
   |false=>exact iteF ⟨⟨_,rfl⟩,s2.trans s3,er.trans (hF e)⟩
  ·rintro σ H2 ⟨⟨v,rfl⟩,s2,er⟩
   have q:=k H2 (s1.trans s2)
   rw[er] at q
   exact q
end
end SL
namespace SL
open PySem L2
section
variable {P:Program} {w:World} {K:W.Frag} {mg:Str->Option Value} {base:Heap}
theorem scNw:FnScope ["self"] ["self"] (defScope sNw):=.of (by decide +kernel)
theorem scAw:FnScope ["self"] ["self"] (defScope sAw):=.of (by decide +kernel)
theorem scIw:FnScope ["self"] ["self"] (defScope sIw):=.of (by decide +kernel)
theorem scKw:FnScope ["self"] ["self"] (defScope sKw):=.of (by decide +kernel)
theorem sorts_ok {C1 C2 C3 C4 t1 w1 t2 w2 t3 w3 t4 w4 fMo fIi fAl fSo:Addr}{ft1 fw1 ft2 fw2 ft3 fw3 ft4 fw4 fdMo fdIi fdAl fdSo:FuncData}(T:TS mg)
  (N:Kd K mg "Number" C1 t1 w1 ft1 fw1) (A:Kd K mg "Name" C2 t2 w2 ft2 fw2) (I:Kd K mg "Items" C3 t3 w3 ft3 fw3) (M:Kd K mg "Mark" C4 t4 w4 ft4 fw4)
  (F1:Fun K "takes" "Number.takes" sNt t1 ft1) (G1:Fun K "word" "Number.word" sNw w1 fw1) (F2:Fun K "takes" "Name.takes" sAt t2 ft2) (G2:Fun K "word" "Name.word" sAw w2 fw2)
  (F3:Fun K "takes" "Items.takes" sIt t3 ft3) (G3:Fun K "word" "Items.word" sIw w3 fw3) (F4:Fun K "takes" "Mark.takes" sKt t4 ft4) (G4:Fun K "word" "Mark.word" sKw w4 fw4)
  (FMo:Fun K "made_of" "made_of" sMo fMo fdMo) (bMo:Binds K fdMo ["signs","text"] []) (gMo:mg "made_of"=some (.ref fMo))
  (FIi:Fun K "is_item" "is_item" sIi fIi fdIi) (bIi:Binds K fdIi ["text"] []) (gIi:mg "is_item"=some (.ref fIi))
  (FAl:Fun K "all_sorts" "all_sorts" sAl fAl fdAl) (bAl:Binds K fdAl [] []) (gAl:mg "all_sorts"=some (.ref fAl))
  (FSo:Fun K "sort_of" "sort_of" sSo fSo fdSo):FnOk P w K mg base CX0 5 fSo fdSo ["text"] spSo:=by
 have k1:FnOk P w K mg base CX0 2 t1 ft1 ["self","text"] (spTk isNum):=ok_nt F1 T FMo bMo gMo
 have k2:FnOk P w K mg base CX0 2 t2 ft2 ["self","text"] (spTk isName):=ok_at F2 T FMo bMo gMo
 have kI:FnOk P w K mg base CX0 3 fIi fdIi ["text"] spIi:=ok_ii FIi N A k1 k2
 have k3:FnOk P w K mg base CX0 4 t3 ft3 ["self","text"] (spTk isList):=ok_it F3 T FIi bIi gIi kI
 have k4:FnOk P w K mg base CX0 4 t4 ft4 ["self","text"] (spTk isMark):=ok_kt F4 T FMo bMo gMo FIi bIi gIi kI
 have o1:FnOk P w K mg base CX0 1 w1 fw1 ["self"] (spWo (So.str .num)):=ok_wo G1 scNw rfl
 have o2:FnOk P w K mg base CX0 1 w2 fw2 ["self"] (spWo (So.str .nam)):=ok_wo G2 scAw rfl
 have o3:FnOk P w K mg base CX0 1 w3 fw3 ["self"] (spWo (So.str .lis)):=ok_wo G3 scIw rfl
 have o4:FnOk P w K mg base CX0 1 w4 fw4 ["self"] (spWo (So.str .mar)):=ok_wo G4 scKw rfl
 exact ok_so FSo FAl bAl gAl (ok_al FAl N A I M)
  ⟨N.cls,⟨t1,ft1,N.mt,N.bt,k1.mono (by decide)⟩,⟨w1,fw1,N.mw,N.bw,o1.mono (by decide)⟩⟩
  ⟨A.cls,⟨t2,ft2,A.mt,A.bt,k2.mono (by decide)⟩,⟨w2,fw2,A.mw,A.bw,o2.mono (by decide)⟩⟩
  ⟨I.cls,⟨t3,ft3,I.mt,I.bt,k3⟩,⟨w3,fw3,I.mw,I.bw,o3.mono (by decide)⟩⟩
  ⟨M.cls,⟨t4,ft4,M.mt,M.bt,k4⟩,⟨w4,fw4,M.mw,M.bw,o4.mono (by decide)⟩⟩
end
end SL
namespace SL
open PySem L2
def okMark (z:Str):Prop:=1<=z.length/\z.length<=12/\madeM MAR z=true
def lisOf (xs:List Str):Str:=Str.ofString "["++Str.join (Str.ofString ",") xs++Str.ofString "]"
inductive Wd (z:Str):Prop where
 |mar (h:okMark z)
 |lis (xs:List Str) (h:xs.length<=4) (hi:∀x∈xs,isItem x=true) (e:z=lisOf xs)
theorem app_list (y z:Str):(y++z).cps.toList=y.cps.toList++z.cps.toList:=by
 rw[Str.cps_append,Array.toList_append]
theorem one_inj {c d:Nat}(h:(⟨#[c]⟩:Str)=⟨#[d]⟩):c=d:=by
 injection h with h
 injection h with h
 injection h
theorem nam_or (c:Nat):hasC NAM c=(hasC SMA c||hasC FIG c):=by
 have e:NAM.cps.toList=SMA.cps.toList++FIG.cps.toList:=by decide +kernel
 unfold hasC
 rw[e]
 by_cases h1:c∈SMA.cps.toList
 ·rw[decide_eq_true h1,decide_eq_true (List.mem_append_left _ h1)]
  rfl
 ·by_cases h2:c∈FIG.cps.toList
  ·rw[decide_eq_true h2,decide_eq_true (List.mem_append_right _ h2),Bool.or_true]
  ·rw[decide_eq_false h1,decide_eq_false h2,decide_eq_false (fun y=>(List.mem_append.mp y).elim h1 h2)]
   rfl
theorem hd_mem {z:Str}(h:1<=z.length):hd z∈z.cps.toList:=by
 unfold hd
 have e:=cps_len z
 cases g:z.cps.toList with
 |nil=>
  rw[g] at e
  have:z.length=0:=e.symm
  omega
 |cons c r=>exact List.mem_cons_self ..
theorem made_hd {S z:Str}(h:1<=z.length)(m:madeM S z=true):hd z∈S.cps.toList:=of_decide_eq_true (List.all_eq_true.mp m _ (hd_mem h))
theorem item_plain {x:Str}(h:isItem x=true):1<=x.length/\x.length<=12/\madeM NAM x=true:=by
 unfold isItem at h
 rcases Bool.or_eq_true_iff.mp h with h|h
 ·unfold isNum at h
  have a:=of_decide_eq_true (Bool.and_eq_true_iff.mp h).1
  have b:=(Bool.and_eq_true_iff.mp (Bool.and_eq_true_iff.mp h).2).1
  refine⟨a.1,by omega,List.all_eq_true.mpr fun c hc=>?_⟩
  rw[nam_or,List.all_eq_true.mp b c hc,Bool.or_true]
 ·unfold isName at h
  have a:=of_decide_eq_true (Bool.and_eq_true_iff.mp h).1
  exact⟨a.1,a.2,(Bool.and_eq_true_iff.mp (Bool.and_eq_true_iff.mp h).2).2⟩
theorem walk_plain (c:Nat):∀(l:List Nat) (s:List Str×Str),(∀x∈l,x≠c)->l.foldl (spStep c) s=(s.1,s.2++⟨l.toArray⟩)
 | [],s,_=>by
  have e:s.2++(⟨#[]⟩:Str)=s.2:=Str.ext' (by rw[Str.cps_append];exact Array.append_empty)
  rw[show([]:List Nat).toArray=#[] from rfl,e]
  rfl
 |x::l,s,h=>by
  rw[List.foldl_cons,walk_plain c l _ fun y hy=>h y (List.mem_cons_of_mem _ hy)]
  unfold spStep
  rw[if_neg (h x (List.mem_cons_self ..))]
  refine Prod.ext rfl (Str.ext' ?_)
  show((s.2++⟨#[x]⟩)++(⟨l.toArray⟩:Str)).cps=(s.2++(⟨(x::l).toArray⟩:Str)).cps
  rw[Str.cps_append,Str.cps_append,Str.cps_append]
  apply Array.toList_inj.mp
  simp
theorem spl_join {c:Nat}:∀(xs:List Str) (d:List Str),xs≠[]->(∀x∈xs,∀k∈x.cps.toList,k≠c)→
  ((Str.join ⟨#[c]⟩ xs).cps.toList.foldl (spStep c) (d,Str.empty)).1++[((Str.join ⟨#[c]⟩ xs).cps.toList.foldl (spStep c) (d,Str.empty)).2]=d++xs
 | [],d,h,_=>absurd rfl h
 | [x],d,_,hx=>by
  rw[show Str.join ⟨#[c]⟩ [x]=x from rfl,walk_plain c _ _ (hx x (List.mem_cons_self ..))]
  have e:Str.empty++(⟨x.cps.toList.toArray⟩:Str)=x:=Str.ext' (by rw[Str.cps_append];exact(Array.empty_append).trans (Array.toArray_toList))
  show d++[Str.empty++(⟨x.cps.toList.toArray⟩:Str)]=_
  rw[e]
 |x::y::r,d,_,hx=>by
  have ej:Str.join ⟨#[c]⟩ (x::y::r)=x++⟨#[c]⟩++Str.join ⟨#[c]⟩ (y::r):=rfl
  have e:Str.empty++(⟨x.cps.toList.toArray⟩:Str)=x:=Str.ext' (by rw[Str.cps_append];exact(Array.empty_append).trans (Array.toArray_toList))
  rw[ej,app_list,app_list,List.foldl_append,List.foldl_append,walk_plain c _ _ (hx x (List.mem_cons_self ..))]
  have e2:([c]:List Nat).foldl (spStep c) (d,Str.empty++(⟨x.cps.toList.toArray⟩:Str))=(d++[x],Str.empty):=by
   rw[e]
   exact if_pos rfl
  rw[show(⟨#[c]⟩:Str).cps.toList=[c] from rfl,e2]
  have q:=spl_join (c:=c) (y::r) (d++[x]) (by nofun) fun z hz=>hx z (List.mem_cons_of_mem _ hz)
  rw[List.append_assoc] at q
  exact q
end SL
namespace SL
open PySem L2
def Tn (n:Nat)(z:Str):Prop:=z.length<=n/\∀c∈z.cps.toList,c<128/\c≠32
theorem Tn.mono {n m:Nat}{z:Str}(h:Tn n z)(k:n<=m):Tn m z:=⟨Nat.le_trans h.1 k,h.2⟩
theorem Tn.app {n m:Nat}{y z:Str}(h:Tn n y)(k:Tn m z):Tn (n+m) (y++z):=by
 refine⟨by rw[Str.length_append];exact Nat.add_le_add h.1 k.1,fun c hc=>?_⟩
 have e:(y++z).cps=y.cps++z.cps:=rfl
 rw[e,Array.toList_append] at hc
 rcases List.mem_append.mp hc with q|q
 ·exact h.2 c q
 ·exact k.2 c q
theorem join_tn (sep:Str){n m:Nat}(hs:Tn m sep):∀{ys:List Str},(∀y∈ys,Tn n y)->Tn (ys.length*(n+m)) (Str.join sep ys)
 | [],_=>⟨Nat.zero_le _,fun c hc=>by
  have:c∈([]:List Nat):=hc
  simp at this⟩
 | [x],h=>by
  have q:Tn n (Str.join sep [x]):=h x List.mem_cons_self
  exact q.mono (by rw[List.length_singleton];omega)
 |x::y::r,h=>by
  have q:=join_tn sep hs (ys:=y::r) fun z hz=>h z (List.mem_cons_of_mem _ hz)
  have e:Str.join sep (x::y::r)=x++sep++Str.join sep (y::r):=rfl
  rw[e]
  refine(((h x List.mem_cons_self).app hs).app q).mono ?_
  simp only[List.length_cons,Nat.succ_mul]
  omega
theorem Tn.tx {n:Nat}{z:Str}(h:Tn n z):Tx n z:=⟨h.1,fun c hc=>(h.2 c hc).1⟩
end SL
namespace SL
open PySem L2
def txB (n:Nat)(z:Str):Bool:=decide (z.length<=n)&&z.cps.toList.all fun c=>decide (c<128/\c≠32)
theorem txK {n:Nat}{z:Str}(h:txB n z=true):Tn n z:=by
 unfold txB at h
 rw[Bool.and_eq_true] at h
 exact⟨of_decide_eq_true h.1,fun c hc=>of_decide_eq_true (List.all_eq_true.mp h.2 c hc)⟩
end SL
namespace SL
open PySem L2
theorem made_mem {S z:Str}(h:madeM S z=true):∀c∈z.cps.toList,c∈S.cps.toList:=fun c hc=>of_decide_eq_true (List.all_eq_true.mp h c hc)
theorem made_of_mem {S z:Str}(h:∀c∈z.cps.toList,c∈S.cps.toList):madeM S z=true:=List.all_eq_true.mpr fun c hc=>decide_eq_true (h c hc)
theorem made_app {S y z:Str}(h:madeM S y=true)(k:madeM S z=true):madeM S (y++z)=true:=made_of_mem fun c hc=>by
 rw[app_list] at hc
 exact(List.mem_append.mp hc).elim (made_mem h c) (made_mem k c)
theorem made_one {S:Str}{c:Nat}(h:c∈S.cps.toList):madeM S (⟨#[c]⟩:Str)=true:=made_of_mem fun d hd=>by
 have:d=c:=by simpa using hd
 rw[this]
 exact h
theorem made_sub {A S z:Str}(hA:madeM S A=true)(h:madeM A z=true):madeM S z=true:=made_of_mem fun c hc=>made_mem hA c (made_mem h c hc)
theorem mar_plain:∀c∈MAR.cps.toList,c<128/\c≠32:=by
 have e:MAR.cps.toList.all (fun c=>decide (c<128/\c≠32))=true:=by decide +kernel
 exact fun c hc=>of_decide_eq_true (List.all_eq_true.mp e c hc)
theorem okMark.tn {z:Str}(h:okMark z):Tn 12 z:=⟨h.2.1,fun c hc=>mar_plain c (made_mem h.2.2 c hc)⟩
theorem nam_mar:madeM MAR NAM=true:=by decide +kernel
theorem item_mark {x:Str}(h:isItem x=true):okMark x:=by
 have q:=item_plain h
 exact⟨q.1,q.2.1,made_sub nam_mar q.2.2⟩
theorem Wd.tn {z:Str}(h:Wd z):Tn 60 z:=by
 cases h with
 |mar h=>exact h.tn.mono (by decide)
 |lis xs h hi e=>
  subst e
  have tc:Tn 1 (Str.ofString ","):=txK (by decide +kernel)
  have tl:Tn 1 (Str.ofString "["):=txK (by decide +kernel)
  have tr:Tn 1 (Str.ofString "]"):=txK (by decide +kernel)
  have tj:=(join_tn (Str.ofString ",") tc (fun x hx=>(item_mark (hi x hx)).tn)).mono (m:=52) (by omega)
  exact((tl.app tj).app tr).mono (by decide)
theorem Wd.item {z:Str}(h:isItem z=true):Wd z:=.mar (item_mark h)
theorem sl_mem {z:Str}{lo hi:Option Int}:∀c∈(Txt.slice z lo hi).cps.toList,c∈z.cps.toList:=by
 intro c hc
 unfold Txt.slice at hc
 split at hc
 ·exact hc
 ·have hc':c∈((Builtin.Str.strSliceIndices lo hi 1 z.length).filterMap (z.cps[·]?)):=by simpa using hc
  obtain⟨j,_,e⟩:=List.mem_filterMap.mp hc'
  have:=Array.mem_of_getElem? e
  simpa using this
theorem sl_to_len {z:Str}{a:Int}(h0:0<=a)(h1:a<=(z.length:Int)):(Txt.slice z none (some a)).length=a.toNat:=by
 have hl:z.cps.toList.length=z.length:=by simp[Str.length]
 have e1:Txt.slice z none (some a)=⟨((z.cps.toList.drop 0).take (a-0).toNat).toArray⟩:=StrLaws.sliceText_to ⟨h0,by rw[hl];exact h1⟩
 rw[e1]
 show((z.cps.toList.drop 0).take (a-0).toNat).toArray.size=_
 rw[List.size_toArray,List.length_take,List.length_drop,hl]
 omega
theorem sl_from_len {z:Str}{a:Int}(h0:0<=a)(h1:a<=(z.length:Int)):(Txt.slice z (some a) none).length=z.length-a.toNat:=by
 have hl:z.cps.toList.length=z.length:=by simp[Str.length]
 have e2:Txt.slice z (some a) none=⟨((z.cps.toList.drop a.toNat).take ((z.cps.toList.length:Int)-a).toNat).toArray⟩:=StrLaws.sliceText_from ⟨h0,by rw[hl];exact h1⟩
 rw[e2]
 show((z.cps.toList.drop a.toNat).take ((z.cps.toList.length:Int)-a).toNat).toArray.size=_
 rw[List.size_toArray,List.length_take,List.length_drop,hl]
 omega
theorem name_of {d:Nat}{y:Str}(hd:d∈SMA.cps.toList)(hy:madeM NAM y=true)(l:y.length<=11):isName ((⟨#[d]⟩:Str)++y)=true:=by
 have hF:madeM NAM SMA=true:=by decide +kernel
 have el:((⟨#[d]⟩:Str)++y).length=1+y.length:=by rw[Str.length_append];rfl
 have eh:SL.hd ((⟨#[d]⟩:Str)++y)=d:=by
  unfold SL.hd
  rw[app_list]
  rfl
 unfold isName
 rw[decide_eq_true ⟨by omega,by omega⟩,made_app (made_one (made_mem hF d hd)) hy,eh,show hasC SMA d=true from decide_eq_true hd]
 rfl
end SL
namespace L2
open PySem PyProof
theorem Same.noneW {H H':Hp}(s:Same H H'){b:PySem.Addr}(h:H' b=none):H b=none:=by
 cases e:H b with
 |none=>rfl
 |some o=>rw[s _ _ e] at h;cases h
end L2
namespace SL
open PySem L2
def spNi (CN:Addr):Sp:=fun vs H Q _=>∃(a:Addr) (x:V),vs=[.ref a,x]/\H a=some (.ext (ExcNew a CN none))/\∀d,H d=none->d≠a->Q .non (upd (upd H a (.ext (ExcNew a CN (some d)))) d (.xd [("at",x)]))
theorem raiseW {K:W.Frag}{CN:Addr}{H:Hp}{E:XK}{x:V}(rz:excRz K CN=true)(kE:∀d H',Same H H'->H' d=some (.xd [("at",x)])->E (.ref CN) (some d) H')(H2:Hp)(E0':XK)(s2:Same H H2):∀a,H2 a=none->spNi CN (.ref a::([x]++[])) (upd H2 a (.ext (ExcNew a CN none))) (fun v H3=>v=.non/\∃a' C dd,V.ref a=.ref a'/\H3 a'=some (.ext (ExcNew a' C dd))/\H a'=none/\excRz K C=true/\E (.ref C) dd (untr H3 a')) E0':=by
 intro a ha
 have haH:H a=none:=s2.noneW ha
 refine⟨a,_,rfl,upd_same,fun d hd hn=>⟨rfl,a,CN,some d,rfl,by rw[upd_ne (Ne.symm hn),upd_same],haH,rz,?_⟩⟩
 have hd2:H2 d=none:=by rw[upd_ne hn] at hd;exact hd
 refine kE d _ (fun b o e=>?_) ?_
 ·have nb:b≠a:=ne_of_none e haH
  rw[untr_ne nb,upd_ne (ne_of_none (s2 _ _ e) hd2),upd_ne nb,upd_ne nb]
  exact s2 _ _ e
 ·rw[untr_ne hn,upd_same]
end SL
namespace QL
open PySem L2
structure Txt (mg:Str->Option Value):Prop where
 len:mg "len"=none
 range:mg "range"=none
 tuple:mg "tuple"=none
 isin:mg "isinstance"=none
 str:mg "str"=none
 list:mg "list"=none
 int:mg "int"=none
 bool:mg "bool"=none
 all:mg "all"=none
 min:mg "min"=none
 max:mg "max"=none
theorem some_at {α:Type}(l:List α)(i:Int)(h0:0<=i)(h:i<(l.length:Int)):∃x,l[i.toNat]?=some x:=by
 have h':i.toNat<l.length:=by omega
 exact⟨l[i.toNat],by simp[h']⟩
theorem atI_some {α:Type}(l:List α)(i:Int)(h0:0<=i)(h:i<(l.length:Int)):∃x,x∈l/\atI l i=some x:=by
 obtain⟨x,e⟩:=some_at l i h0 h
 refine⟨x,List.mem_of_getElem? e,?_⟩
 have z:i=((i.toNat:Nat):Int):=by omega
 rw[z]
 exact atI_nat e
def txB (n:Nat)(z:Str):Bool:=decide (z.length<=n)&&z.cps.toList.all fun c=>decide (c<128)
theorem txK {n:Nat}{z:Str}(h:txB n z=true):Tx n z:=by
 unfold txB at h
 rw[Bool.and_eq_true] at h
 exact⟨of_decide_eq_true h.1,fun c hc=>of_decide_eq_true (List.all_eq_true.mp h.2 c hc)⟩
theorem ifb {c:Bool}{A B:Prop}(h1:A)(h2:B):if c=true then A else B:=by
 cases c with
 |true=>exact iteT h1
 |false=>exact iteF h2
theorem log_ok {i:Int}(h0:0<=i)(h1:i<10 ^ 10):i.natAbs.log2<1920:=by
 by_cases z:i.natAbs=0
 ·rw[z]
  decide
 ·have q:i.natAbs.log2<34:=(Nat.log2_lt z).mpr (by
   have:i.natAbs<10 ^ 10:=by omega
   exact Nat.lt_trans this (by decide))
  omega
theorem len_sm {n:Nat}{z:Str}(h:Tx n z)(hn:n<=1000):z.length<=sizeLine:=Nat.le_of_lt (small1000 (Nat.le_trans h.1 hn))
theorem len2_sm {n m:Nat}{y z:Str}(h:Tx n y)(k:Tx m z)(hn:n+m<=1000):y.length+z.length<=sizeLine:=Nat.le_of_lt (small1000 (Nat.le_trans (Nat.add_le_add h.1 k.1) hn))
theorem cps_len (z:Str):z.cps.toList.length=z.length:=by
 rw[Array.length_toList]
 rfl
theorem ints_at {K:W.Frag}{H:Hp}:∀ns:List Int,DsAt K H (ns.map V.int) (ns.map PyData.int)
 | []=>.nil
 |n::ns=>.cons (.int n) (ints_at ns)
theorem ints_lay:∀ns:List Int,PyData.canLayAll0 (ns.map PyData.int)=true
 | []=>rfl
 |n::ns=>by
  rw[List.map_cons,PyData.canLayAll0,ints_lay ns]
  rfl
theorem ints_depth:∀ns:List Int,PyData.depthAll (ns.map PyData.int)=0
 | []=>rfl
 |n::ns=>by
  rw[List.map_cons,PyData.depthAll,ints_depth ns]
  rfl
theorem intsL_ok (ns:List Int):DOk (.list (ns.map PyData.int)):=⟨ints_lay ns,by
 rw[PyData.depth,ints_depth]
 decide⟩
def spCe (K:W.Frag):Sp:=fun vs H Q _=>∃(a:Addr) (ns:List Int) (k:Int),vs=[.ref a,.int k]/\SqL K H a (ns.map V.int)/\ns.length<=1000/\0<=k/\k<=2000/\∀(z:Int) (H':Hp),Same H H'->Q (.int z) H'
def spMi:Sp:=fun vs H Q _=>∃(c k:Int),vs=[.int c,.int k]/\0<=k/\k<=1000/\∀z:Int,0<=z->Q (.int z) H
def spLe:Sp:=fun vs H Q _=>∃c:Int,vs=[.int c]/\∀(l:Addr) (ns:List Int) (H':Hp),Same H H'->H' l=some (.lst (ns.map V.int))->ns.length=3->(∀x∈ns,0<=x/\x<=8)->Q (.ref l) H'
section
variable {P:Program} {w:World} {K:W.Frag} {mg:Str->Option Value} {base:Heap}
theorem scCe:FnScope ["_law_script","_law_k"] ["_law_script","_law_k"] (defScope sCe):=.of (by decide +kernel)
theorem ok_ce (F:Fun K "_law_cell_at" "_law_cell_at" sCe f fd)(T:Txt mg):FnOk P w K mg base CX0 1 f fd ["_law_script","_law_k"] (spCe K):=by
 refine F.ok scCe (fun vs H Q E h=>?_) (fun cdv A outer s H vs Q E hr h=>?_)
 ·obtain⟨a,ns,k,rfl,_⟩:=h
  rfl
 ·obtain⟨a,ns,k,rfl,hS,hln,k0,k1,kk⟩:=h
  refine⟨_,pss_cons (ps_if (pt_cmpR op_lt (pv 1) (pe_callB call_len_seq (by rfl) T.len PySem.boot_len (pa_cons (pv 0) pa_nil)) (nomark _)) (pss_one (ps_ret (pe_ix ix_list (pv 0) (pv 1) (fun _ _=>rfl)))) pss_nil)
   (pss_one (ps_ret (pe_op op_mod (pe_op op_mul (pe_op op_add (pe_op op_mod (pe_ix ix_list (pe_op op_catL (pv 0) (pe_lst (pa_cons pe_int pa_nil))) pe_int (fun _ _=>rfl)) pe_int) pe_int) (pe_op op_add (pe_op op_mul (pv 1) (pv 1)) pe_int)) pe_int))),?_⟩
  refine⟨_,rfl,_,rfl,a,_,rfl,.inl hS,_,_,rfl,rfl,_,rfl,?_⟩
  refine ite2 (fun hlt=>?_) (fun hge=>?_)
  ·have hlt':k<((ns.map V.int).length:Int):=of_decide_eq_true hlt
   obtain⟨x,hx,ex⟩:=atI_some (ns.map V.int) k k0 hlt'
   obtain⟨z,_,rfl⟩:=List.mem_map.mp hx
   exact⟨_,rfl,_,rfl,a,_,_,_,rfl,rfl,hS,ex,kk z H (Same.refl H)⟩
  ·refine⟨_,rfl,(by show 1<=sizeLine;decide),fun l hl=>?_⟩
   have s1:Same H (upd H l (.lst [.int 0])):=(Same.refl H).upd_free hl
   refine⟨a,l,_,_,rfl,rfl,s1.seq hS,SqL.of upd_same,?_,fun p hp=>?_⟩
   ·rw[List.length_map]
    exact Nat.le_of_lt (small9 (by show ns.length+1<=100000;omega))
   have s2:Same H (upd (upd H l (.lst [.int 0])) p (.lst (ns.map V.int++[.int 0]))):=s1.upd_free (s1.free hp)
   obtain⟨x,hx,ex⟩:=atI_some (ns.map V.int++[V.int 0]) 0 (Int.le_refl 0) (by simp)
   obtain⟨z,rfl⟩:∃z,x=V.int z:=by
    rcases List.mem_append.mp hx with q|q
    ·obtain⟨z,_,e⟩:=List.mem_map.mp q
     exact⟨z,e.symm⟩
    ·exact⟨0,by simpa using q⟩
   refine⟨p,_,_,.int z,rfl,rfl,SqL.of upd_same,ex,_,_,rfl,rfl,(by show(0:Int)<1000003;decide),_,_,rfl,rfl,_,rfl,_,rfl,_,_,rfl,rfl,.inl ⟨by omega,by omega⟩,_,_,rfl,rfl,_,_,rfl,rfl,.inl ⟨by omega,by omega⟩,_,_,rfl,rfl,(by show(0:Int)<2147483647;decide),kk _ _ s2⟩
theorem scMi:FnScope ["_law_cell","_law_k"] ["_law_cell","_law_k"] (defScope sMi):=.of (by decide +kernel)
theorem ok_mi (F:Fun K "_law_mix" "_law_mix" sMi f fd):FnOk P w K mg base CX0 1 f fd ["_law_cell","_law_k"] spMi:=by
 refine F.ok scMi (fun vs H Q E h=>?_) (fun cdv A outer s H vs Q E hr h=>?_)
 ·obtain⟨c,k,rfl,_⟩:=h
  rfl
 ·obtain⟨c,k,rfl,k0,k1,kk⟩:=h
  refine⟨_,pss_one (ps_ret (pe_op op_mod (pe_op op_mul (pe_op op_add (pe_op op_mod (pv 0) pe_int) pe_int) (pe_op op_add pe_int (pe_op op_mul (pe_op op_mul pe_int (pv 1)) (pv 1)))) pe_int)),?_⟩
  refine⟨_,rfl,_,_,rfl,rfl,(by show(0:Int)<1000000007;decide),_,_,rfl,rfl,_,rfl,_,_,rfl,rfl,.inl ⟨by decide,by decide⟩,_,rfl,_,_,rfl,rfl,.inl ⟨by omega,by omega⟩,_,_,rfl,rfl,_,_,rfl,rfl,.inl ⟨by omega,by omega⟩,_,_,rfl,rfl,(by show(0:Int)<2147483647;decide),?_⟩
  exact kk _ (Int.emod_nonneg _ (by decide))
theorem scPo:FnScope ["_law_cell","_law_other","_law_small","_law_size","_law_name","_law_k","_law_at","_law_turned","_law_number","_law_items"] ["_law_cell","_law_other"] (defScope sPo):=.of (by decide +kernel)
theorem scLe:FnScope ["_law_cell","_law_first"] ["_law_cell"] (defScope sLe):=.of (by decide +kernel)
theorem ok_le (F:Fun K "_law_letters" "_law_letters" sLe f fd):FnOk P w K mg base CX0 1 f fd ["_law_cell"] spLe:=by
 refine F.ok scLe (fun vs H Q E h=>?_) (fun cdv A outer s H vs Q E hr h=>?_)
 ·obtain⟨c,rfl,_⟩:=h
  rfl
 ·obtain⟨c,rfl,k⟩:=h
  refine⟨_,pss_cons (ps_set (i:=1) scLe.nd rfl (Or.inl rfl) (pe_op op_mod (pv 0) pe_int))
   (pss_one (ps_ret (pe_lst (pa_cons (pv 1) (pa_cons (pe_op op_mod (pe_op op_add (pe_op op_add (pv 1) pe_int) (pe_op op_mod (pe_op op_fdiv (pv 0) pe_int) pe_int)) pe_int) (pa_cons (pe_op op_mod (pe_op op_fdiv (pv 0) pe_int) pe_int) pa_nil)))))),?_⟩
  refine⟨_,rfl,_,_,rfl,rfl,(by show(0:Int)<9;decide),?_⟩
  refine⟨_,rfl,_,rfl,_,_,rfl,rfl,_,rfl,_,_,rfl,rfl,⟨by decide,by decide⟩,_,_,rfl,rfl,(by show(0:Int)<8;decide),_,_,rfl,rfl,_,_,rfl,rfl,(by show(0:Int)<9;decide),_,rfl,_,_,rfl,rfl,⟨by decide,by decide⟩,_,_,rfl,rfl,(by show(0:Int)<9;decide),(by show 3<=sizeLine;decide),fun l hl=>?_⟩
  refine k l [c%9,(c%9+1+c / 9%8)%9,c / 72%9] _ ((Same.refl H).upd_free hl) upd_same rfl fun x hx=>?_
  simp only[List.mem_cons,List.not_mem_nil,or_false] at hx
  rcases hx with rfl|rfl|rfl<;>omega
end
end QL
namespace QL
open PySem L2
inductive Kd where
 |row|wit|beh|ahd|tim|bot|eit|non
 deriving DecidableEq
inductive Qn where
 |row (F:Int)|wit (F I:Int) (W:Str)|beh (F I G J:Int) (R:Nat)|ahd (F I G J:Int) (R:Nat)
 |tim (K C:Nat) (q:Qn)|bot (q r:Qn)|eit (q r:Qn)|non (q:Qn)
def Qn.kd:Qn->Kd
 |.row _=>.row | .wit _ _ _=>.wit | .beh _ _ _ _ _=>.beh | .ahd _ _ _ _ _=>.ahd | .tim _ _ _=>.tim | .bot _ _=>.bot | .eit _ _=>.eit | .non _=>.non
def Qn.dep:Qn->Nat
 |.tim _ _ q=>q.dep+1 | .bot q r=>max q.dep r.dep+1 | .eit q r=>max q.dep r.dep+1 | .non q=>q.dep+1|_=>0
def rng (lo hi:Nat):List Nat:=(List.range (hi-lo)).map (lo + ·)
def NoMeth (fs:List (Str×V)):Prop:=fs.lookup ("back":Str)=none/\fs.lookup ("on":Str)=none/\fs.lookup ("found":Str)=none
theorem NoMeth.nil:NoMeth []:=⟨rfl,rfl,rfl⟩
theorem NoMeth.put {fs:List (Str×V)}(h:NoMeth fs){f:Str}{v:V}(h1:¬("back":Str)=f)(h2:¬("on":Str)=f)(h3:¬("found":Str)=f):NoMeth (putF f v fs):=
 ⟨by rw[lookup_putF,if_neg h1];exact h.1,by rw[lookup_putF,if_neg h2];exact h.2.1,by rw[lookup_putF,if_neg h3];exact h.2.2⟩
def FarAt (C:Addr)(H:Hp)(p:Addr)(F I G J:Int)(R:Nat):Prop:=∃dx a b fs,H p=some (.ins C dx fs)/\fs.lookup ("here":Str)=some (.ref a)/\fs.lookup ("away":Str)=some (.ref b)/\fs.lookup ("reach":Str)=some (.int R)/\NoMeth fs∧
 H a=some (.tup [.int F,.int I])/\H b=some (.tup [.int G,.int J])
def QAt (cl:Kd->Addr)(H:Hp):Qn->Addr->Prop
 |.row F,p=>∃dx fs,H p=some (.ins (cl .row) dx fs)/\fs.lookup ("wanted":Str)=some (.int F)/\NoMeth fs
 |.wit F I W,p=>∃dx a fs,H p=some (.ins (cl .wit) dx fs)/\fs.lookup ("here":Str)=some (.ref a)/\fs.lookup ("wanted":Str)=some (.str W)/\NoMeth fs/\H a=some (.tup [.int F,.int I])
 |.beh F I G J R,p=>FarAt (cl .beh) H p F I G J R
 |.ahd F I G J R,p=>FarAt (cl .ahd) H p F I G J R
 |.tim K C q,p=>∃dx fs c,H p=some (.ins (cl .tim) dx fs)/\fs.lookup ("reach":Str)=some (.int K)/\fs.lookup ("least":Str)=some (.int C)/\fs.lookup ("inner":Str)=some (.ref c)/\NoMeth fs/\QAt cl H q c
 |.bot q r,p=>∃dx fs c e,H p=some (.ins (cl .bot) dx fs)/\fs.lookup ("one":Str)=some (.ref c)/\fs.lookup ("other":Str)=some (.ref e)/\NoMeth fs/\QAt cl H q c/\QAt cl H r e
 |.eit q r,p=>∃dx fs c e,H p=some (.ins (cl .eit) dx fs)/\fs.lookup ("one":Str)=some (.ref c)/\fs.lookup ("other":Str)=some (.ref e)/\NoMeth fs/\QAt cl H q c/\QAt cl H r e
 |.non q,p=>∃dx fs c,H p=some (.ins (cl .non) dx fs)/\fs.lookup ("one":Str)=some (.ref c)/\NoMeth fs/\QAt cl H q c
theorem FarAt.same {C:Addr}{H H':Hp}{p:Addr}{F I G J:Int}{R:Nat}(h:FarAt C H p F I G J R)(s:Same H H'):FarAt C H' p F I G J R:=by
 obtain⟨dx,a,b,fs,h1,h2,h3,h4,h5,h6,h7⟩:=h
 exact⟨dx,a,b,fs,s _ _ h1,h2,h3,h4,h5,s _ _ h6,s _ _ h7⟩
theorem QAt.same {cl:Kd->Addr}{H H':Hp}(s:Same H H'):∀{q:Qn} {p:Addr},QAt cl H q p->QAt cl H' q p
 |.row _,_,⟨dx,fs,h1,h2,h3⟩=>⟨dx,fs,s _ _ h1,h2,h3⟩
 |.wit _ _ _,_,⟨dx,a,fs,h1,h2,h3,h4,h5⟩=>⟨dx,a,fs,s _ _ h1,h2,h3,h4,s _ _ h5⟩
 |.beh _ _ _ _ _,_,h=>FarAt.same h s
 |.ahd _ _ _ _ _,_,h=>FarAt.same h s
 |.tim _ _ _,_,⟨dx,fs,c,h1,h2,h3,h4,h5,h6⟩=>⟨dx,fs,c,s _ _ h1,h2,h3,h4,h5,QAt.same s h6⟩
 |.bot _ _,_,⟨dx,fs,c,e,h1,h2,h3,h4,h5,h6⟩=>⟨dx,fs,c,e,s _ _ h1,h2,h3,h4,QAt.same s h5,QAt.same s h6⟩
 |.eit _ _,_,⟨dx,fs,c,e,h1,h2,h3,h4,h5,h6⟩=>⟨dx,fs,c,e,s _ _ h1,h2,h3,h4,QAt.same s h5,QAt.same s h6⟩
 |.non _,_,⟨dx,fs,c,h1,h2,h3,h4⟩=>⟨dx,fs,c,s _ _ h1,h2,h3,QAt.same s h4⟩
theorem QAt.ins {cl:Kd->Addr}{H:Hp}:∀{q:Qn} {p:Addr},QAt cl H q p->∃dx fs,H p=some (.ins (cl q.kd) dx fs)/\NoMeth fs
 |.row _,_,⟨dx,fs,h1,h2,h3⟩=>⟨dx,fs,h1,h3⟩
 |.wit _ _ _,_,⟨dx,a,fs,h1,h2,h3,h4,h5⟩=>⟨dx,fs,h1,h4⟩
 |.beh _ _ _ _ _,_,⟨dx,a,b,fs,h1,h2,h3,h4,h5,h6⟩=>⟨dx,fs,h1,h5⟩
 |.ahd _ _ _ _ _,_,⟨dx,a,b,fs,h1,h2,h3,h4,h5,h6⟩=>⟨dx,fs,h1,h5⟩
 |.tim _ _ _,_,⟨dx,fs,c,h1,h2,h3,h4,h5,h6⟩=>⟨dx,fs,h1,h5⟩
 |.bot _ _,_,⟨dx,fs,c,e,h1,h2,h3,h4,h5,h6⟩=>⟨dx,fs,h1,h4⟩
 |.eit _ _,_,⟨dx,fs,c,e,h1,h2,h3,h4,h5,h6⟩=>⟨dx,fs,h1,h4⟩
 |.non _,_,⟨dx,fs,c,h1,h2,h3,h4⟩=>⟨dx,fs,h1,h3⟩
section
variable {P:Program} {w:World} {K:W.Frag} {mg:Str->Option Value} {base:Heap} {ks:Kd->Bool} {cl:Kd->Addr} {d lev:Nat}
theorem vac {k f:Nat}{fd:FuncData}{ps:List Str}{sp:Sp}(h:∀vs H Q E,¬sp vs H Q E):FnOk P w K mg base CX0 k f fd ps sp:=
 ⟨fun vs H Q E q=>absurd q (h vs H Q E),fun A outer s H args us vs Q E _ _ _ _ q=>absurd q (h vs H Q E)⟩
end
end QL
namespace QL
open PySem L2
theorem iteTK {c:Bool}{A B:Prop}(h:c=true)(a:A):if c=true then A else B:=by
 rw[if_pos h]
 exact a
theorem iteFK {c:Bool}{A B:Prop}(h:c=false)(b:B):if c=true then A else B:=by
 rw[h]
 exact iteF b
def AAt (H:Hp):Qn->Addr->Prop
 |.row F,p=>H p=some (.tup [.str (Str.ofString "row"),.int F])
 |.wit F I W,p=>H p=some (.tup [.str (Str.ofString "with"),.int F,.int I,.str W])
 |.beh F I G J R,p=>H p=some (.tup [.str (Str.ofString "behind"),.int F,.int I,.int G,.int J,.int R])
 |.ahd F I G J R,p=>H p=some (.tup [.str (Str.ofString "ahead"),.int F,.int I,.int G,.int J,.int R])
 |.tim K C q,p=>∃c,H p=some (.tup [.str (Str.ofString "times"),.int K,.int C,.ref c])/\AAt H q c
 |.bot q r,p=>∃c e,H p=some (.tup [.str (Str.ofString "both"),.ref c,.ref e])/\AAt H q c/\AAt H r e
 |.eit q r,p=>∃c e,H p=some (.tup [.str (Str.ofString "either"),.ref c,.ref e])/\AAt H q c/\AAt H r e
 |.non q,p=>∃c,H p=some (.tup [.str (Str.ofString "not"),.ref c])/\AAt H q c
theorem AAt.same {H H':Hp}(s:Same H H'):∀{q:Qn} {p:Addr},AAt H q p->AAt H' q p
 |.row _,_,h=>s _ _ h
 |.wit _ _ _,_,h=>s _ _ h
 |.beh _ _ _ _ _,_,h=>s _ _ h
 |.ahd _ _ _ _ _,_,h=>s _ _ h
 |.tim _ _ _,_,⟨c,h1,h2⟩=>⟨c,s _ _ h1,AAt.same s h2⟩
 |.bot _ _,_,⟨c,e,h1,h2,h3⟩=>⟨c,e,s _ _ h1,AAt.same s h2,AAt.same s h3⟩
 |.eit _ _,_,⟨c,e,h1,h2,h3⟩=>⟨c,e,s _ _ h1,AAt.same s h2,AAt.same s h3⟩
 |.non _,_,⟨c,h1,h2⟩=>⟨c,s _ _ h1,AAt.same s h2⟩
def Old (H1 H:Hp)(p:Addr):Prop:=∀b o,H1 b=some o->b≠p/\H b=some o
def Kept (H H':Hp)(p:Addr):Prop:=∀b o,H b=some o->b≠p->H' b=some o
theorem Old.then {H1 H H':Hp}{p:Addr}(h:Old H1 H p)(k:Kept H H' p):Same H1 H':=fun b o e=>k b o (h b o e).2 (h b o e).1
theorem Old.new {H:Hp}{x dx:Addr}{C:Addr}{fs:List (Str×V)}(nx:H x=none)(ndx:H dx=none):Old H (upd (upd H dx (.own x)) x (.ins C dx fs)) x:=fun b o e=>⟨ne_of_none e nx,by
 rw[upd_ne (ne_of_none e nx),upd_ne (ne_of_none e ndx)]
 exact e⟩
def spRi (cl:Kd->Addr):Sp:=fun vs H Q _=>∃(p dx:Addr) (F:Int),vs=[.ref p,.int F]/\H p=some (.ins (cl .row) dx [])/\∀H',QAt cl H' (.row F) p->Kept H H' p->Q .non H'
def spWi (cl:Kd->Addr):Sp:=fun vs H Q _=>∃(p dx:Addr) (F I:Int) (W:Str),vs=[.ref p,.int F,.int I,.str W]/\H p=some (.ins (cl .wit) dx [])/\∀H',QAt cl H' (.wit F I W) p->Kept H H' p->Q .non H'
def spFi (C:Addr):Sp:=fun vs H Q _=>∃(p dx:Addr) (F I G J:Int) (R:Nat),vs=[.ref p,.int F,.int I,.int G,.int J,.int R]/\H p=some (.ins C dx [])/\∀H',FarAt C H' p F I G J R->Kept H H' p->Q .non H'
def spTi (cl:Kd->Addr):Sp:=fun vs H Q _=>∃(p dx c:Addr) (R M:Nat) (q:Qn) (H1:Hp),vs=[.ref p,.int R,.int M,.ref c]/\H p=some (.ins (cl .tim) dx [])/\QAt cl H1 q c/\Old H1 H p/\∀H',QAt cl H' (.tim R M q) p->Kept H H' p->Q .non H'
def spNi (cl:Kd->Addr):Sp:=fun vs H Q _=>∃(p dx c:Addr) (q:Qn) (H1:Hp),vs=[.ref p,.ref c]/\H p=some (.ins (cl .non) dx [])/\QAt cl H1 q c/\Old H1 H p/\∀H',QAt cl H' (.non q) p->Kept H H' p->Q .non H'
section
variable {P:Program} {w:World} {K:W.Frag} {mg:Str->Option Value} {base:Heap} {ks:Kd->Bool} {cl:Kd->Addr}
theorem scRi:FnScope ["self","letter"] ["self","letter"] (defScope sRi):=.of (by decide +kernel)
theorem ok_ri (F:Fun K "__init__" "Row.__init__" sRi f fd)(C:Cls K (cl .row))(nW:NoAttr K (cl .row) "wanted"):FnOk P w K mg base CX0 1 f fd ["self","letter"] (spRi cl):=by
 refine F.ok scRi (fun vs H Q E h=>?_) (fun cdv A outer s H vs Q E hr h=>?_)
 ·obtain⟨p,dx,F,rfl,_⟩:=h
  rfl
 ·obtain⟨p,dx,F,rfl,hp,k⟩:=h
  refine⟨_,pss_one (ps_fld (pv 0) (pv 1) rfl),?_⟩
  refine⟨_,rfl,_,rfl,p,_,dx,_,rfl,hp,C,nW,(by show 0<1000;decide),?_⟩
  refine k _ ⟨dx,_,upd_same,?_,NoMeth.nil.put (by decide +kernel) (by decide +kernel) (by decide +kernel)⟩ fun c o e hc=>?_
  ·rw[lookup_putF,if_pos rfl]
  ·rw[upd_ne hc]
   exact e
theorem scWi:FnScope ["self","letter","gap","word"] ["self","letter","gap","word"] (defScope sWi):=.of (by decide +kernel)
theorem ok_wi (F:Fun K "__init__" "With.__init__" sWi f fd)(C:Cls K (cl .wit))(nH:NoAttr K (cl .wit) "here")(nW:NoAttr K (cl .wit) "wanted"):FnOk P w K mg base CX0 1 f fd ["self","letter","gap","word"] (spWi cl):=by
 refine F.ok scWi (fun vs H Q E h=>?_) (fun cdv A outer s H vs Q E hr h=>?_)
 ·obtain⟨p,dx,F,I,W,rfl,_⟩:=h
  rfl
 ·obtain⟨p,dx,F,I,W,rfl,hp,k⟩:=h
  refine⟨_,pss_cons (ps_fld (pv 0) (pe_tup (pa_cons (pv 1) (pa_cons (pv 2) pa_nil))) rfl) (pss_one (ps_fld (pv 0) (pv 3) rfl)),?_⟩
  refine⟨_,rfl,_,rfl,(by show 2<=sizeLine;decide),fun a ha=>?_⟩
  have npa:p≠a:=ne_of_none hp ha
  refine⟨_,rfl,p,_,dx,_,rfl,(by rw[upd_ne npa];exact hp),C,nH,(by show 0<1000;decide),?_⟩
  refine⟨_,rfl,_,rfl,p,_,dx,_,rfl,upd_same,C,nW,(by show 1<1000;decide),?_⟩
  refine k _ ⟨dx,a,_,upd_same,?_,?_,(NoMeth.nil.put (by decide +kernel) (by decide +kernel) (by decide +kernel)).put (by decide +kernel) (by decide +kernel) (by decide +kernel),?_⟩ fun c o e hc=>?_
  ·rw[lookup_putF,if_neg (by decide +kernel),lookup_putF,if_pos rfl]
  ·rw[lookup_putF,if_pos rfl]
  ·rw[upd_ne (Ne.symm npa),upd_ne (Ne.symm npa),upd_same]
  ·rw[upd_ne hc,upd_ne hc,upd_ne (ne_of_none e ha)]
   exact e
theorem far_body {X:Cx}{C:Addr}{body:List Stmt}{t:TS}{H:Hp}{p dx:Addr}{F I G J:Int}{R:Nat}{Q:VK}(hK:X.K=K)(CC:Cls K C)(nH:NoAttr K C "here")(nA:NoAttr K C "away")(nR:NoAttr K C "reach")(hp:H p=some (.ins C dx []))
  (k:∀H',FarAt C H' p F I G J R->Kept H H' p->Q .non H')
  (ht:t=tSeq (sFld K (tVar 0) (tTup (tCons (tVar 1) (tCons (tVar 2) tNil))) "here") (tSeq (sFld K (tVar 0) (tTup (tCons (tVar 3) (tCons (tVar 4) tNil))) "away") (sFld K (tVar 0) (tVar 5) "reach"))):
  t { nx:=fun _ H'=>Q .non H',rt:=Q } [some (.ref p),some (.int F),some (.int I),some (.int G),some (.int J),some (.int R)] H:=by
 subst ht
 refine⟨_,rfl,_,rfl,(by show 2<=sizeLine;decide),fun a ha=>?_⟩
 have npa:p≠a:=ne_of_none hp ha
 refine⟨_,rfl,p,C,dx,_,rfl,(by rw[upd_ne npa];exact hp),CC,nH,(by show 0<1000;decide),?_⟩
 refine⟨_,rfl,_,rfl,(by show 2<=sizeLine;decide),fun b hb=>?_⟩
 have npb:p≠b:=fun e=>by rw[<- e,upd_same] at hb;cases hb
 have nab:a≠b:=fun e=>by rw[<- e,upd_ne (Ne.symm npa),upd_same] at hb;cases hb
 have hbH:H b=none:=by rw[upd_ne (Ne.symm npb),upd_ne (Ne.symm nab)] at hb;exact hb
 refine⟨_,rfl,p,C,dx,_,rfl,(by rw[upd_ne npb];exact upd_same),CC,nA,(by show 1<1000;decide),?_⟩
 refine⟨_,rfl,_,rfl,p,C,dx,_,rfl,upd_same,CC,nR,?_,?_⟩
 ·have:=length_putF "away" (.ref b) (putF "here" (.ref a) [])
  have e:(putF "here" (.ref a) []:List (Str×V)).length=1:=rfl
  omega
 refine k _ ⟨dx,a,b,_,upd_same,?_,?_,?_,((NoMeth.nil.put (by decide +kernel) (by decide +kernel) (by decide +kernel)).put (by decide +kernel) (by decide +kernel) (by decide +kernel)).put (by decide +kernel) (by decide +kernel) (by decide +kernel),?_,?_⟩ fun c o e hc=>?_
 ·rw[lookup_putF,if_neg (by decide +kernel),lookup_putF,if_neg (by decide +kernel),lookup_putF,if_pos rfl]
 ·rw[lookup_putF,if_neg (by decide +kernel),lookup_putF,if_pos rfl]
 ·rw[lookup_putF,if_pos rfl]
 ·rw[upd_ne (Ne.symm npa),upd_ne (Ne.symm npa),upd_ne nab,upd_ne (Ne.symm npa),upd_same]
 ·rw[upd_ne (Ne.symm npb),upd_ne (Ne.symm npb),upd_same]
 ·have na:=ne_of_none e ha
  have nb:=ne_of_none e hbH
  rw[upd_ne hc,upd_ne hc,upd_ne nb,upd_ne hc,upd_ne na]
  exact e
theorem scHi:FnScope ["self","letter","gap","other","there","reach"] ["self","letter","gap","other","there","reach"] (defScope sHi):=.of (by decide +kernel)
theorem ok_hi (F:Fun K "__init__" "Behind.__init__" sHi f fd)(CC:Cls K C)(nH:NoAttr K C "here")(nA:NoAttr K C "away")(nR:NoAttr K C "reach"):FnOk P w K mg base CX0 1 f fd ["self","letter","gap","other","there","reach"] (spFi C):=by
 refine F.ok scHi (fun vs H Q E h=>?_) (fun cdv A outer s H vs Q E hr h=>?_)
 ·obtain⟨p,dx,F,I,G,J,R,rfl,_⟩:=h
  rfl
 ·obtain⟨p,dx,F,I,G,J,R,rfl,hp,k⟩:=h
  exact⟨_,pss_cons (ps_fld (pv 0) (pe_tup (pa_cons (pv 1) (pa_cons (pv 2) pa_nil))) rfl) (pss_cons (ps_fld (pv 0) (pe_tup (pa_cons (pv 3) (pa_cons (pv 4) pa_nil))) rfl) (pss_one (ps_fld (pv 0) (pv 5) rfl))),far_body (X:=(cxOf CX0 P w K mg base _ _ _ f cdv A outer s H E).nox) (body:=[]) rfl CC nH nA nR hp k rfl⟩
theorem scAi:FnScope ["self","letter","gap","other","there","reach"] ["self","letter","gap","other","there","reach"] (defScope sAi):=.of (by decide +kernel)
theorem ok_ai (F:Fun K "__init__" "Ahead.__init__" sAi f fd)(CC:Cls K C)(nH:NoAttr K C "here")(nA:NoAttr K C "away")(nR:NoAttr K C "reach"):FnOk P w K mg base CX0 1 f fd ["self","letter","gap","other","there","reach"] (spFi C):=by
 refine F.ok scAi (fun vs H Q E h=>?_) (fun cdv A outer s H vs Q E hr h=>?_)
 ·obtain⟨p,dx,F,I,G,J,R,rfl,_⟩:=h
  rfl
 ·obtain⟨p,dx,F,I,G,J,R,rfl,hp,k⟩:=h
  exact⟨_,pss_cons (ps_fld (pv 0) (pe_tup (pa_cons (pv 1) (pa_cons (pv 2) pa_nil))) rfl) (pss_cons (ps_fld (pv 0) (pe_tup (pa_cons (pv 3) (pa_cons (pv 4) pa_nil))) rfl) (pss_one (ps_fld (pv 0) (pv 5) rfl))),far_body (X:=(cxOf CX0 P w K mg base _ _ _ f cdv A outer s H E).nox) (body:=[]) rfl CC nH nA nR hp k rfl⟩
theorem scNi:FnScope ["self","one"] ["self","one"] (defScope sNi):=.of (by decide +kernel)
theorem ok_ni (F:Fun K "__init__" "Not.__init__" sNi f fd)(C:Cls K (cl .non))(nO:NoAttr K (cl .non) "one"):FnOk P w K mg base CX0 1 f fd ["self","one"] (spNi cl):=by
 refine F.ok scNi (fun vs H Q E h=>?_) (fun cdv A outer s H vs Q E hr h=>?_)
 ·obtain⟨p,dx,c,q,H1,rfl,_⟩:=h
  rfl
 ·obtain⟨p,dx,c,q,H1,rfl,hp,hq,ho,k⟩:=h
  refine⟨_,pss_one (ps_fld (pv 0) (pv 1) rfl),?_⟩
  refine⟨_,rfl,_,rfl,p,_,dx,_,rfl,hp,C,nO,(by show 0<1000;decide),?_⟩
  have kp:Kept H (upd H p (.ins (cl .non) dx (putF "one" (.ref c) []))) p:=fun b o e hb=>by
   rw[upd_ne hb]
   exact e
  refine k _ ⟨dx,_,c,upd_same,?_,NoMeth.nil.put (by decide +kernel) (by decide +kernel) (by decide +kernel),QAt.same (ho.then kp) hq⟩ kp
  rw[lookup_putF,if_pos rfl]
theorem scTi:FnScope ["self","reach","least","question"] ["self","reach","least","question"] (defScope sTi):=.of (by decide +kernel)
theorem ok_ti (F:Fun K "__init__" "Times.__init__" sTi f fd)(C:Cls K (cl .tim))(nR:NoAttr K (cl .tim) "reach")(nL:NoAttr K (cl .tim) "least")(nI:NoAttr K (cl .tim) "inner"):FnOk P w K mg base CX0 1 f fd ["self","reach","least","question"] (spTi cl):=by
 refine F.ok scTi (fun vs H Q E h=>?_) (fun cdv A outer s H vs Q E hr h=>?_)
 ·obtain⟨p,dx,c,R,M,q,H1,rfl,_⟩:=h
  rfl
 ·obtain⟨p,dx,c,R,M,q,H1,rfl,hp,hq,ho,k⟩:=h
  refine⟨_,pss_cons (ps_fld (pv 0) (pv 1) rfl) (pss_cons (ps_fld (pv 0) (pv 2) rfl) (pss_one (ps_fld (pv 0) (pv 3) rfl))),?_⟩
  refine⟨_,rfl,_,rfl,p,_,dx,_,rfl,hp,C,nR,(by show 0<1000;decide),?_⟩
  refine⟨_,rfl,_,rfl,p,_,dx,_,rfl,upd_same,C,nL,(by show 1<1000;decide),?_⟩
  refine⟨_,rfl,_,rfl,p,_,dx,_,rfl,upd_same,C,nI,?_,?_⟩
  ·have:=length_putF "least" (.int M) (putF "reach" (.int R) [])
   have e:(putF "reach" (.int R) []:List (Str×V)).length=1:=rfl
   omega
  generalize hH':upd _ p _=H'
  have kp:Kept H H' p:=fun b o e hb=>by
   rw[<- hH',upd_ne hb,upd_ne hb,upd_ne hb]
   exact e
  refine k _ ⟨dx,_,c,by rw[<- hH'];exact upd_same,?_,?_,?_,((NoMeth.nil.put (by decide +kernel) (by decide +kernel) (by decide +kernel)).put (by decide +kernel) (by decide +kernel) (by decide +kernel)).put (by decide +kernel) (by decide +kernel) (by decide +kernel),QAt.same (ho.then kp) hq⟩ kp
  ·rw[lookup_putF,if_neg (by decide +kernel),lookup_putF,if_neg (by decide +kernel),lookup_putF,if_pos rfl]
  ·rw[lookup_putF,if_neg (by decide +kernel),lookup_putF,if_pos rfl]
  ·rw[lookup_putF,if_pos rfl]
end
end QL
namespace L2
open PySem PySem.Spec PyProof.Rows
theorem call_strA {X:Cx}:CallR X (.type "str") (fun xs H Q=>(∃n:Int,xs=[.int n]/\n.natAbs.log2<1920/\Q (.str (Str.ofString (toString n))) H)\/∃z,xs=[.str z]/\Q (.str z) H):=by
 intro pins s σ H xs us Q I r h
 rcases h with h|⟨z,rfl,q⟩
 ·exact call_strI pins s σ H xs us Q I r h
 ·obtain⟨u,rfl,rx⟩:=vals1 r
  obtain⟨t,rfl⟩:=rx
  exact PySem.P.str_of_str ⟨.str _,H,I,⟨_,rfl⟩,q⟩
end L2
namespace SL
open PySem L2
theorem dig_lead:∀n:Nat,0<n->∃c r,Nat.toDigits 10 n=c::r/\c≠'0':=by
 intro n
 induction n using Nat.strongRecOn with
 |ind n ih=>
  intro h
  by_cases hn:n<10
  ·rw[Nat.toDigits_of_lt_base hn]
   refine⟨_,_,rfl,?_⟩
   have:∀m:Nat,m<10->0<m->m.digitChar≠'0':=by decide
   exact this n hn h
  ·rw[Nat.toDigits_of_base_le (by decide) (by omega)]
   obtain⟨c,r,e,hc⟩:=ih (n / 10) (by omega) (by omega)
   exact⟨c,_,by rw[e];rfl,hc⟩
theorem num_isNum {n:Nat}(h:n<10 ^ 9):isNum (Str.ofString (toString (n:Int)))=true:=by
 have hs:=W.KIN.signs_num n
 have hl:(Str.ofString (toString (n:Int))).length<=9:=PyProof.Rows.toString_length_le (by omega) (by decide) (by omega)
 have h1:1<=(Str.ofString (toString (n:Int))).length:=W.KLn.one_le (by omega)
 have hm:madeM FIG (Str.ofString (toString (n:Int)))=true:=made_of_mem fun c hc=>by
  rw[hs] at hc
  obtain⟨ch,hch,e⟩:=List.mem_map.mp hc
  have r:=Nat.isDigit_of_mem_toDigits (by decide) (by decide) hch
  unfold Char.isDigit at r
  simp only[Bool.and_eq_true,decide_eq_true_eq] at r
  have r2:ch.toNat<=57:=r.2
  have r1:48<=ch.toNat:=r.1
  have fig:∀c:Nat,c<58->48<=c->c∈FIG.cps.toList:=by decide +kernel
  exact fig c (by omega) (by omega)
 unfold isNum
 rw[decide_eq_true ⟨h1,hl⟩,hm,Bool.true_and,Bool.true_and,Bool.or_eq_true]
 by_cases h0:n=0
 ·subst h0
  exact .inl (by decide +kernel)
 ·refine .inr ?_
  obtain⟨c,r,e,hc⟩:=dig_lead n (by omega)
  have eh:hd (Str.ofString (toString (n:Int)))=c.toNat:=by
   unfold hd
   rw[hs,e]
   rfl
  have hne:¬(⟨#[hd (Str.ofString (toString (n:Int)))]⟩:Str)=Str.ofString "0":=fun z=>by
   rw[eh] at z
   have z2:c.toNat=48:=one_inj z
   exact hc (Char.ext (UInt32.toNat_inj.mp (by simpa using z2)))
  rw[decide_eq_false hne]
  rfl
theorem num_isNumI {m:Int}(h0:0<=m)(h1:m<10 ^ 9):isNum (Str.ofString (toString m))=true:=by
 obtain⟨k,rfl⟩:=Int.eq_ofNat_of_zero_le h0
 exact num_isNum (by omega)
theorem sort_isNum {z:Str}(h:isNum z=true):sortM z=some .num:=by
 unfold sortM
 rw[if_pos h]
end SL
namespace QL
open PySem L2
def SP:Str:=⟨#[32]⟩
def nS (n:Int):Str:=Str.ofString (toString n)
inductive Nk where
 |le|ga|co
def Nk.str:Nk->Str
 |.le=>Str.ofString "letter" | .ga=>Str.ofString "gap" | .co=>Str.ofString "count"
def Nk.lo:Nk->Int
 |.co=>1|_=>0
def Nk.hi:Nk->Int
 |.le=>8 | .ga=>7 | .co=>20
inductive Pa where
 |num (k:Nk) (n:Int)|wrd (W:Str)|que (q:Qn)
def Qn.word:Qn->Str
 |.row _=>Str.ofString "row" | .wit _ _ _=>Str.ofString "with" | .beh _ _ _ _ _=>Str.ofString "behind" | .ahd _ _ _ _ _=>Str.ofString "ahead"
 |.tim _ _ _=>Str.ofString "times" | .bot _ _=>Str.ofString "both" | .eit _ _=>Str.ofString "either" | .non _=>Str.ofString "not"
def Qn.parts:Qn->List Pa
 |.row F=>[.num .le F] | .wit F I W=>[.num .le F,.num .ga I,.wrd W]
 |.beh F I G J R=>[.num .le F,.num .ga I,.num .le G,.num .ga J,.num .co R] | .ahd F I G J R=>[.num .le F,.num .ga I,.num .le G,.num .ga J,.num .co R]
 |.tim K C q=>[.num .co K,.num .co C,.que q] | .bot q r=>[.que q,.que r] | .eit q r=>[.que q,.que r] | .non q=>[.que q]
def Qn.pcs:Qn->List Str
 |.row F=>[Str.ofString "row",nS F] | .wit F I W=>[Str.ofString "with",nS F,nS I,W]
 |.beh F I G J R=>[Str.ofString "behind",nS F,nS I,nS G,nS J,nS R] | .ahd F I G J R=>[Str.ofString "ahead",nS F,nS I,nS G,nS J,nS R]
 |.tim K C q=>Str.ofString "times"::nS K::nS C::q.pcs | .bot q r=>Str.ofString "both"::(q.pcs++r.pcs) | .eit q r=>Str.ofString "either"::(q.pcs++r.pcs) | .non q=>Str.ofString "not"::q.pcs
def Pa.pcs:Pa->List Str
 |.num _ n=>[nS n] | .wrd W=>[W] | .que q=>q.pcs
theorem pcs_eq (q:Qn):q.pcs=q.word::q.parts.flatMap Pa.pcs:=by
 cases q<;>simp[Qn.pcs,Qn.word,Qn.parts,Pa.pcs]
theorem pcs_pos (q:Qn):1<=q.pcs.length:=by
 rw[pcs_eq,List.length_cons]
 omega
def Qn.Ok2:Bool->Qn->Prop
 |_,.row F=>0<=F/\F<=8
 |_,.wit F I W=>(0<=F/\F<=8)/\(0<=I/\I<=7)/\SL.Wd W
 |_,.beh F I G J R=>(0<=F/\F<=8)/\(0<=I/\I<=7)/\(0<=G/\G<=8)/\(0<=J/\J<=7)/\1<=R/\R<=20
 |_,.ahd F I G J R=>(0<=F/\F<=8)/\(0<=I/\I<=7)/\(0<=G/\G<=8)/\(0<=J/\J<=7)/\1<=R/\R<=20
 |wi,.tim K C q=>wi=false/\(1<=K/\K<=20)/\(1<=C/\C<=20)/\q.Ok2 true
 |wi,.bot q r=>q.Ok2 wi/\r.Ok2 wi
 |wi,.eit q r=>q.Ok2 wi/\r.Ok2 wi
 |wi,.non q=>q.Ok2 wi
def Pa.Ok2 (wi:Bool):Pa->Prop
 |.num k n=>k.lo<=n/\n<=k.hi | .wrd W=>SL.Wd W | .que q=>q.Ok2 wi
def Qn.wit' (wi:Bool):Qn->Bool
 |.tim _ _ _=>true|_=>wi
theorem parts_ok:∀{wi:Bool} {q:Qn},q.Ok2 wi->∀p∈q.parts,p.Ok2 (q.wit' wi)
 |_,.row _,h,p,hp=>by
  simp only[Qn.parts,List.mem_cons,List.not_mem_nil,or_false] at hp
  subst hp
  exact h
 |_,.wit _ _ _,h,p,hp=>by
  simp only[Qn.parts,List.mem_cons,List.not_mem_nil,or_false] at hp
  rcases hp with rfl|rfl|rfl
  ·exact h.1
  ·exact h.2.1
  ·exact h.2.2
 |_,.beh _ _ _ _ R,h,p,hp=>by
  simp only[Qn.parts,List.mem_cons,List.not_mem_nil,or_false] at hp
  rcases hp with rfl|rfl|rfl|rfl|rfl
  ·exact h.1
  ·exact h.2.1
  ·exact h.2.2.1
  ·exact h.2.2.2.1
  ·exact⟨by show(1:Int)<=R;have:=h.2.2.2.2.1;omega,by show(R:Int)<=20;have:=h.2.2.2.2.2;omega⟩
 |_,.ahd _ _ _ _ R,h,p,hp=>by
  simp only[Qn.parts,List.mem_cons,List.not_mem_nil,or_false] at hp
  rcases hp with rfl|rfl|rfl|rfl|rfl
  ·exact h.1
  ·exact h.2.1
  ·exact h.2.2.1
  ·exact h.2.2.2.1
  ·exact⟨by show(1:Int)<=R;have:=h.2.2.2.2.1;omega,by show(R:Int)<=20;have:=h.2.2.2.2.2;omega⟩
 |_,.tim K C q,h,p,hp=>by
  simp only[Qn.parts,List.mem_cons,List.not_mem_nil,or_false] at hp
  rcases hp with rfl|rfl|rfl
  ·exact⟨by show(1:Int)<=K;have:=h.2.1.1;omega,by show(K:Int)<=20;have:=h.2.1.2;omega⟩
  ·exact⟨by show(1:Int)<=C;have:=h.2.2.1.1;omega,by show(C:Int)<=20;have:=h.2.2.1.2;omega⟩
  ·exact h.2.2.2
 |_,.bot _ _,h,p,hp=>by
  simp only[Qn.parts,List.mem_cons,List.not_mem_nil,or_false] at hp
  rcases hp with rfl|rfl
  ·exact h.1
  ·exact h.2
 |_,.eit _ _,h,p,hp=>by
  simp only[Qn.parts,List.mem_cons,List.not_mem_nil,or_false] at hp
  rcases hp with rfl|rfl
  ·exact h.1
  ·exact h.2
 |_,.non _,h,p,hp=>by
  simp only[Qn.parts,List.mem_cons,List.not_mem_nil,or_false] at hp
  subst hp
  exact h
def Pa.dep:Pa->Nat
 |.que q=>q.dep+1|_=>0
theorem parts_dep (q:Qn):∀p∈q.parts,p.dep<=q.dep:=by
 intro p hp
 cases q<;>simp only[Qn.parts,List.mem_cons,List.not_mem_nil,or_false] at hp<;>(rcases hp with rfl|rfl|rfl|rfl|rfl|rfl)<;>simp only[Pa.dep,Qn.dep]<;>omega
theorem nS_num {n:Int}(h0:0<=n)(h1:n<=20):SL.isNum (nS n)=true:=SL.num_isNumI h0 (by omega)
theorem nk_pos (k:Nk):0<=k.lo:=by cases k<;>decide
theorem nk_top (k:Nk):k.hi<=20:=by cases k<;>decide
theorem word_tn:∀q:Qn,SL.Tn 60 q.word
 |.row _=>(SL.txK (by decide +kernel):SL.Tn 60 (Str.ofString "row"))
 |.wit _ _ _=>(SL.txK (by decide +kernel):SL.Tn 60 (Str.ofString "with"))
 |.beh _ _ _ _ _=>(SL.txK (by decide +kernel):SL.Tn 60 (Str.ofString "behind"))
 |.ahd _ _ _ _ _=>(SL.txK (by decide +kernel):SL.Tn 60 (Str.ofString "ahead"))
 |.tim _ _ _=>(SL.txK (by decide +kernel):SL.Tn 60 (Str.ofString "times"))
 |.bot _ _=>(SL.txK (by decide +kernel):SL.Tn 60 (Str.ofString "both"))
 |.eit _ _=>(SL.txK (by decide +kernel):SL.Tn 60 (Str.ofString "either"))
 |.non _=>(SL.txK (by decide +kernel):SL.Tn 60 (Str.ofString "not"))
theorem pcs_tn:∀{wi:Bool} {q:Qn},q.Ok2 wi->∀p∈q.pcs,SL.Tn 60 p:=by
 have nt:∀{n:Int},0<=n->n<=20->SL.Tn 60 (nS n):=fun h0 h1=>(SL.Wd.item (by unfold SL.isItem;rw[nS_num h0 h1];rfl)).tn
 intro wi q
 induction q generalizing wi with
 |row F=>
  intro h p hp
  simp only[Qn.pcs,List.mem_cons,List.not_mem_nil,or_false] at hp
  rcases hp with rfl|rfl
  ·exact word_tn (.row 0)
  ·exact nt h.1 (by have:=h.2;omega)
 |wit F I W=>
  intro h p hp
  simp only[Qn.pcs,List.mem_cons,List.not_mem_nil,or_false] at hp
  rcases hp with rfl|rfl|rfl|rfl
  ·exact word_tn (.wit 0 0 Str.empty)
  ·exact nt h.1.1 (by have:=h.1.2;omega)
  ·exact nt h.2.1.1 (by have:=h.2.1.2;omega)
  ·exact h.2.2.tn
 |beh F I G J R=>
  intro h p hp
  simp only[Qn.pcs,List.mem_cons,List.not_mem_nil,or_false] at hp
  rcases hp with rfl|rfl|rfl|rfl|rfl|rfl
  ·exact word_tn (.beh 0 0 0 0 0)
  ·exact nt h.1.1 (by have:=h.1.2;omega)
  ·exact nt h.2.1.1 (by have:=h.2.1.2;omega)
  ·exact nt h.2.2.1.1 (by have:=h.2.2.1.2;omega)
  ·exact nt h.2.2.2.1.1 (by have:=h.2.2.2.1.2;omega)
  ·exact nt (by omega) (by have:=h.2.2.2.2.2;omega)
 |ahd F I G J R=>
  intro h p hp
  simp only[Qn.pcs,List.mem_cons,List.not_mem_nil,or_false] at hp
  rcases hp with rfl|rfl|rfl|rfl|rfl|rfl
  ·exact word_tn (.ahd 0 0 0 0 0)
  ·exact nt h.1.1 (by have:=h.1.2;omega)
  ·exact nt h.2.1.1 (by have:=h.2.1.2;omega)
  ·exact nt h.2.2.1.1 (by have:=h.2.2.1.2;omega)
  ·exact nt h.2.2.2.1.1 (by have:=h.2.2.2.1.2;omega)
  ·exact nt (by omega) (by have:=h.2.2.2.2.2;omega)
 |tim K C q ih=>
  intro h p hp
  simp only[Qn.pcs,List.mem_cons] at hp
  rcases hp with rfl|rfl|rfl|hp
  ·exact word_tn (.tim 0 0 (.row 0))
  ·exact nt (by omega) (by have:=h.2.1.2;omega)
  ·exact nt (by omega) (by have:=h.2.2.1.2;omega)
  ·exact ih h.2.2.2 p hp
 |bot q r ih1 ih2=>
  intro h p hp
  simp only[Qn.pcs,List.mem_cons,List.mem_append] at hp
  rcases hp with rfl|hp|hp
  ·exact word_tn (.bot (.row 0) (.row 0))
  ·exact ih1 h.1 p hp
  ·exact ih2 h.2 p hp
 |eit q r ih1 ih2=>
  intro h p hp
  simp only[Qn.pcs,List.mem_cons,List.mem_append] at hp
  rcases hp with rfl|hp|hp
  ·exact word_tn (.eit (.row 0) (.row 0))
  ·exact ih1 h.1 p hp
  ·exact ih2 h.2 p hp
 |non q ih=>
  intro h p hp
  simp only[Qn.pcs,List.mem_cons] at hp
  rcases hp with rfl|hp
  ·exact word_tn (.non (.row 0))
  ·exact ih h p hp
theorem join_app:∀(xs ys:List Str),xs≠[]->ys≠[]->Str.join SP (xs++ys)=Str.join SP xs++SP++Str.join SP ys
 | [],_,h,_=>absurd rfl h
 | [x],ys,_,h=>by
  cases ys with
  |nil=>exact absurd rfl h
  |cons y r=>rfl
 |x::x'::r,ys,_,h=>by
  have ih:=join_app (x'::r) ys (by nofun) h
  show x++SP++Str.join SP ((x'::r)++ys)=(x++SP++Str.join SP (x'::r))++SP++Str.join SP ys
  rw[ih]
  refine Str.ext' ?_
  simp only[Str.cps_append,Array.append_assoc]
theorem join_flat:∀(xss:List (List Str)),(∀xs∈xss,xs≠[])->Str.join SP (xss.map (Str.join SP))=Str.join SP xss.flatten
 | [],_=>rfl
 | [xs],_=>by
  show Str.join SP xs=Str.join SP (xs++[])
  rw[List.append_nil]
 |xs::ys::r,h=>by
  have ih:=join_flat (ys::r) fun z hz=>h z (List.mem_cons_of_mem _ hz)
  have hy:ys≠[]:=h ys (by simp)
  rw[List.flatten_cons,join_app _ _ (h xs List.mem_cons_self) (by
   rw[List.flatten_cons]
   intro e
   exact hy (List.append_eq_nil_iff.mp e).1),<- ih]
  rfl
def Pa.tx (p:Pa):Str:=Str.join SP p.pcs
def Qn.tx (q:Qn):Str:=Str.join SP q.pcs
theorem pa_pcs (p:Pa):p.pcs≠[]:=by
 cases p with
 |num k n=>nofun
 |wrd W=>nofun
 |que q=>
  intro e
  have:=pcs_pos q
  rw[show q.pcs=[] from e] at this
  exact absurd this (by decide)
theorem tx_eq (q:Qn):Str.join SP (q.word::q.parts.map Pa.tx)=q.tx:=by
 unfold Qn.tx
 rw[pcs_eq]
 have h:=join_flat ([q.word]::q.parts.map Pa.pcs) (fun xs hx=>by
  rcases List.mem_cons.mp hx with rfl|hx
  ·nofun
  ·obtain⟨p,_,rfl⟩:=List.mem_map.mp hx
   exact pa_pcs p)
 rw[List.map_cons,List.map_map] at h
 exact h
theorem split_tx {wi:Bool}{q:Qn}(h:q.Ok2 wi):Txt.split q.tx SP=q.pcs:=by
 unfold SP
 rw[SL.split_spl _ (by decide)]
 exact SL.spl_join q.pcs [] (fun e=>by have:=pcs_pos q;rw[e] at this;exact absurd this (by decide)) fun x hx k hk=>((pcs_tn h x hx).2 k hk).2
end QL
namespace QL
open PySem L2
def spPo2:Sp:=fun vs H Q _=>∃(c o:Int),vs=[.int c,.int o]/\∀(l:Addr) (ws:List Str) (H':Hp),Same H H'->H' l=some (.lst (ws.map V.str))->ws.length=5->(∀x∈ws,SL.Wd x)->Q (.ref l) H'
section
variable {P:Program} {w:World} {K:W.Frag} {mg:Str->Option Value} {base:Heap}
theorem ok_po2 (F:Fun K "_law_pool" "_law_pool" sPo f fd)(T:Txt mg)(FM:Fun K "_law_mix" "_law_mix" sMi fM fdM)(bM:Binds K fdM ["_law_cell","_law_k"] [])(gM:mg "_law_mix"=some (.ref fM)):
  FnOk P w K mg base CX0 2 f fd ["_law_cell","_law_other"] spPo2:=by
 have GM:FnOk P w K mg base CX0 1 fM fdM ["_law_cell","_law_k"] spMi:=ok_mi FM
 refine F.ok scPo (fun vs H Q E h=>?_) (fun cdv A outer s H vs Q E hr h=>?_)
 ·obtain⟨c,o,rfl,_⟩:=h
  rfl
 ·obtain⟨c,o,rfl,k⟩:=h
  refine⟨_,pss_cons (ps_set (i:=2) scPo.nd rfl (Or.inl rfl) pe_str)
   (pss_cons (ps_set (i:=3) scPo.nd rfl (Or.inl rfl) (pe_op op_add pe_int (pe_op op_mod (pv 0) pe_int)))
   (pss_cons (ps_set (i:=4) scPo.nd rfl (Or.inl rfl) (pe_ix ix_str (pv 2) (pe_op op_mod (pe_op op_fdiv (pv 0) pe_int) pe_int) (fun _ _=>rfl)))
   (pss_cons (ps_for PassesOwn.never rfl (pi_range1 rfl T.range (pa_cons (pe_op op_sub (pv 3) pe_int) pa_nil)) (pg_name (i:=5) scPo.nd rfl (Or.inl rfl))
    (pss_one (ps_set (i:=4) scPo.nd rfl (Or.inl rfl) (pe_op op_add_str (pv 4) (pe_ix ix_str (pe_op op_add_str (pv 2) pe_str) (pe_op op_mod (pe_call GM hr rfl gM FM.kp bM .nil pass0 (pa_cons (pv 0) (pa_cons (pe_op op_add (pv 5) pe_int) pa_nil))) pe_int) (fun _ _=>rfl))))))
   (pss_cons (ps_set (i:=6) scPo.nd rfl (Or.inl rfl) (pe_op op_mod (pv 1) (pv 3)))
   (pss_cons (ps_set (i:=7) scPo.nd rfl (Or.inl rfl) (pe_op op_mod (pe_op op_fdiv (pv 1) pe_int) pe_int))
   (pss_cons (ps_cut (ps_if (pt_cmpR op_eq (pe_ix ix_str (pv 2) (pv 7) (fun _ _=>rfl)) (pe_ix ix_str (pv 4) (pv 6) (fun _ _=>rfl)) (nomark _)) (pss_one (ps_set (i:=7) scPo.nd rfl (Or.inl rfl) (pe_op op_mod (pe_op op_add (pv 7) pe_int) pe_int))) pss_nil))
   (pss_cons (ps_set (i:=8) scPo.nd rfl (Or.inl rfl) (pe_callTy call_str_int (by rfl) T.str PyProof.Rows.boot_str (pa_cons (pe_op op_mod (pe_op op_fdiv (pv 1) pe_int) pe_int) pa_nil)))
   (pss_cons (ps_cut (ps_set (i:=9) scPo.nd rfl (Or.inl rfl) (pe_ix ix_list (pe_lst (pa_cons (pe_op op_add_str (pe_op op_add_str (pe_op op_add_str (pe_op op_add_str pe_str (pv 4)) pe_str) (pv 8)) pe_str) (pa_cons pe_str pa_nil))) (pe_op op_mod (pv 1) pe_int) (fun _ _=>rfl))))
   (pss_one (ps_ret (pe_lst (pa_cons (pv 4) (pa_cons (pe_op op_add_str (pe_op op_add_str (pe_slice sl_str (pv 4) po_none (po_some (pv 6))) (pe_ix ix_str (pv 2) (pv 7) (fun _ _=>rfl))) (pe_slice sl_str (pv 4) (po_some (pe_op op_add (pv 6) pe_int)) po_none))
    (pa_cons (pv 8) (pa_cons (pv 9) (pa_cons (pe_op op_add_str (pe_slice sl_str (pv 4) po_none (po_some pe_int)) pe_str) pa_nil)))))))))))))))),?_⟩
  have nam36:Str.ofString "abcdefghijklmnopqrstuvwxyz"++Str.ofString "0123456789"=SL.NAM:=by decide +kernel
  have dig:Tx 10 (Str.ofString "0123456789"):=txK (by decide +kernel)
  have sml:Tx 26 (Str.ofString "abcdefghijklmnopqrstuvwxyz"):=txK (by decide +kernel)
  have e26:(Str.ofString "abcdefghijklmnopqrstuvwxyz").length=26:=by decide +kernel
  have e36:(Str.ofString "abcdefghijklmnopqrstuvwxyz"++Str.ofString "0123456789").length=36:=by decide +kernel
  obtain⟨ch,hch,ech⟩:=atI_some (Str.ofString "abcdefghijklmnopqrstuvwxyz").cps.toList (c / 12%26) (by omega) (by rw[cps_len,e26];omega)
  refine⟨_,rfl,_,_,rfl,rfl,(by show(0:Int)<12;decide),_,_,rfl,rfl,?_⟩
  refine⟨_,rfl,_,rfl,_,_,rfl,rfl,⟨by decide,by decide⟩,_,_,rfl,rfl,(by show(0:Int)<26;decide),_,_,ch,rfl,rfl,len_sm sml (by decide),ech,?_⟩
  refine⟨_,rfl,_,_,rfl,rfl,_,rfl,by omega,by omega,?_⟩
  refine for_range (n:=(1+c%12-1).toNat) (fun i σ H2=>∃(nm:Str) (v:Option V),H2=H/\σ=[some (.int c),some (.int o),some (.str (Str.ofString "abcdefghijklmnopqrstuvwxyz")),some (.int (1+c%12)),some (.str nm),v,none,none,none,none]/\Tx (i+1) nm/\nm.length=i+1/\∃y,nm=⟨#[ch]⟩++y/\SL.madeM SL.NAM y=true/\y.length=i)
   ⟨⟨#[ch]⟩,none,rfl,rfl,sml.sign ech,rfl,Str.empty,Str.ext' (by rw[Str.cps_append];rfl),rfl,rfl⟩ ?_ ?_
  ·rintro i σ H2 hi ⟨nm,v,rfl,rfl,tn,ln,y,ey,my,ly⟩
   refine⟨_,rfl,_,rfl,_,_,rfl,rfl,len2_sm sml dig (by decide),_,rfl,_,rfl,_,_,rfl,rfl,c,_,rfl,by omega,by omega,fun z z0=>?_⟩
   obtain⟨ch2,hch2,ech2⟩:=atI_some (Str.ofString "abcdefghijklmnopqrstuvwxyz"++Str.ofString "0123456789").cps.toList (z%36) (by omega) (by rw[cps_len,e36];omega)
   have tc:Tx 1 (⟨#[ch2]⟩:Str):=(sml.app dig).sign ech2
   refine⟨_,_,rfl,rfl,(by show(0:Int)<36;decide),_,_,ch2,rfl,rfl,len_sm (sml.app dig) (by decide),ech2,_,_,rfl,rfl,len2_sm tn tc (by omega),?_⟩
   refine⟨nm++⟨#[ch2]⟩,_,rfl,rfl,tn.app tc,?_,y++⟨#[ch2]⟩,?_,SL.made_app my (SL.made_one (by rw[nam36] at hch2;exact hch2)),?_⟩
   ·rw[Str.length_append,ln]
    rfl
   ·rw[ey]
    refine Str.ext' ?_
    simp only[Str.cps_append,Array.append_assoc]
   ·rw[Str.length_append,ly]
    rfl
  ·rintro σ H2 ⟨nm,v,rfl,rfl,tn,ln,y,ey,my,ly⟩
   have hNm:SL.isItem nm=true:=by
    unfold SL.isItem
    rw[ey,SL.name_of hch my (by omega),Bool.or_true]
   have mNm:=(SL.item_mark hNm).2.2
   have tn':Tx 12 nm:=tn.mono (by omega)
   have lz:(nm.length:Int)=1+c%12:=by omega
   refine⟨_,rfl,_,rfl,_,_,rfl,rfl,(by omega),?_⟩
   refine⟨_,rfl,_,_,rfl,rfl,⟨by decide,by decide⟩,_,_,rfl,rfl,(by show(0:Int)<26;decide),?_⟩
   have a0:0<=o%(1+c%12):=Int.emod_nonneg _ (by omega)
   have a1:o%(1+c%12)<nm.length:=by rw[lz];exact Int.emod_lt_of_pos _ (by omega)
   refine⟨fun σ' H'=>∃t:Int,0<=t/\t<26/\H'=H2/\σ'=[some (.int c),some (.int o),some (.str (Str.ofString "abcdefghijklmnopqrstuvwxyz")),some (.int (1+c%12)),some (.str nm),v,some (.int (o%(1+c%12))),some (.int t),none,none],?_,?_⟩
   ·obtain⟨ch3,_,ech3⟩:=atI_some (Str.ofString "abcdefghijklmnopqrstuvwxyz").cps.toList (o / 12%26) (by omega) (by rw[cps_len,e26];omega)
    obtain⟨ch4,_,ech4⟩:=atI_some nm.cps.toList (o%(1+c%12)) a0 (by rw[cps_len];exact a1)
    refine⟨_,rfl,_,rfl,_,_,ch3,rfl,rfl,len_sm sml (by decide),ech3,_,rfl,_,rfl,_,_,ch4,rfl,rfl,len_sm tn' (by decide),ech4,rfl,_,rfl,?_⟩
    refine ifb ?_ ?_
    ·exact⟨_,rfl,_,_,rfl,rfl,_,_,rfl,rfl,(by show(0:Int)<26;decide),(o / 12%26+1)%26,by omega,by omega,rfl,rfl⟩
    ·exact⟨o / 12%26,by omega,by omega,rfl,rfl⟩
   rintro σ' H' ⟨t,t0,t1,rfl,rfl⟩
   have nu:=Tx.num (m:=o / 7%1000000000) (by omega) (by omega)
   have nuI:=SL.num_isNumI (m:=o / 7%1000000000) (by omega) (by omega)
   refine⟨_,rfl,_,_,rfl,rfl,⟨by decide,by decide⟩,_,_,rfl,rfl,(by show(0:Int)<1000000000;decide),_,rfl,log_ok (by omega) (by omega),?_⟩
   generalize hnum:Str.ofString (toString (o / 7%1000000000))=num at nu nuI
   have hNu:SL.isItem num=true:=by
    unfold SL.isItem
    rw[nuI]
    rfl
   have tl:Tx 1 (Str.ofString "["):=txK (by decide +kernel)
   have tr:Tx 1 (Str.ofString "]"):=txK (by decide +kernel)
   have tc:Tx 1 (Str.ofString ","):=txK (by decide +kernel)
   have te:Tx 1 (Str.ofString "="):=txK (by decide +kernel)
   have tb:Tx 2 (Str.ofString "[]"):=txK (by decide +kernel)
   refine⟨fun σ' H3=>∃it:Str,SL.Wd it/\Same H' H3/\σ'=[some (.int c),some (.int o),some (.str (Str.ofString "abcdefghijklmnopqrstuvwxyz")),some (.int (1+c%12)),some (.str nm),v,some (.int (o%(1+c%12))),some (.int t),some (.str num),some (.str it)],?_,?_⟩
   ·refine⟨_,rfl,_,_,rfl,rfl,len2_sm tl tn' (by decide),_,_,rfl,rfl,len2_sm (tl.app tn') tc (by decide),_,rfl,_,_,rfl,rfl,len2_sm ((tl.app tn').app tc) nu (by decide),_,_,rfl,rfl,len2_sm (((tl.app tn').app tc).app nu) tr (by decide),(by show 2<=sizeLine;decide),fun l hl=>?_⟩
    have s1:=(Same.refl H').upd_free (o:=.lst [V.str (Str.ofString "["++nm++Str.ofString ","++num++Str.ofString "]"),V.str (Str.ofString "[]")]) hl
    obtain⟨x,hx,ex⟩:=atI_some [V.str (Str.ofString "["++nm++Str.ofString ","++num++Str.ofString "]"),V.str (Str.ofString "[]")] (o%2) (by omega) (by show o%2<2;omega)
    obtain⟨it,rfl,ti⟩:∃it:Str,x=.str it/\SL.Wd it:=by
     simp only[List.mem_cons,List.not_mem_nil,or_false] at hx
     rcases hx with rfl|rfl
     ·refine⟨_,rfl,.lis [nm,num] (by show 2<=4;decide) (fun x hx=>?_) ?_⟩
      ·simp only[List.mem_cons,List.not_mem_nil,or_false] at hx
       rcases hx with rfl|rfl
       ·exact hNm
       ·exact hNu
      ·unfold SL.lisOf
       show _=Str.ofString "["++(nm++Str.ofString ","++num)++Str.ofString "]"
       refine Str.ext' ?_
       simp only[Str.cps_append,Array.append_assoc]
     ·exact⟨_,rfl,.lis [] (by decide) (fun x hx=>by simp at hx) (by decide +kernel)⟩
    exact⟨_,rfl,_,_,rfl,rfl,(by show(0:Int)<2;decide),l,_,_,_,rfl,rfl,SqL.of upd_same,ex,it,ti,s1,rfl⟩
   rintro σ' H3 ⟨it,ti,s3,rfl⟩
   obtain⟨ch5,hch5,ech5⟩:=atI_some (Str.ofString "abcdefghijklmnopqrstuvwxyz").cps.toList t t0 (by rw[cps_len,e26];omega)
   have tch:Tx 1 (⟨#[ch5]⟩:Str):=sml.sign ech5
   have ta:=tn'.slice none (some (o%(1+c%12)))
   have tz:=tn'.slice (some (o%(1+c%12)+1)) none
   have t11:=tn'.slice none (some 11)
   refine⟨_,rfl,_,rfl,_,rfl,_,rfl,nm,rfl,len_sm tn' (by decide),_,rfl,_,rfl,_,_,ch5,rfl,rfl,len_sm sml (by decide),ech5,_,_,rfl,rfl,len2_sm ta tch (by decide),?_⟩
   refine⟨_,rfl,_,rfl,_,_,rfl,rfl,_,rfl,nm,rfl,len_sm tn' (by decide),_,_,rfl,rfl,len2_sm (ta.app tch) tz (by decide),_,rfl,_,rfl,_,rfl,_,rfl,nm,rfl,len_sm tn' (by decide),_,_,rfl,rfl,len2_sm t11 te (by decide),(by show 5<=sizeLine;decide),fun l hl=>?_⟩
   refine k l [nm,Txt.slice nm none (some (o%(1+c%12)))++⟨#[ch5]⟩++Txt.slice nm (some (o%(1+c%12)+1)) none,num,it,Txt.slice nm none (some 11)++Str.ofString "="] _ (s3.upd_free (s3.free hl)) upd_same rfl fun x hx=>?_
   simp only[List.mem_cons,List.not_mem_nil,or_false] at hx
   rcases hx with rfl|rfl|rfl|rfl|rfl
   ·exact SL.Wd.item hNm
   ·refine .mar ⟨?_,?_,?_⟩
    ·rw[Str.length_append,Str.length_append]
     show 1<=_+1+_
     omega
    ·rw[Str.length_append,Str.length_append,SL.sl_to_len a0 (by omega),SL.sl_from_len (by omega) (by omega)]
     show _+1+_<=12
     omega
    ·exact SL.made_app (SL.made_app (SL.made_of_mem fun d hd=>SL.made_mem mNm d (SL.sl_mem d hd)) (SL.made_one (by have q:=SL.made_mem (S:=SL.MAR) (z:=SL.SMA) (by decide +kernel);exact q ch5 hch5))) (SL.made_of_mem fun d hd=>SL.made_mem mNm d (SL.sl_mem d hd))
   ·exact SL.Wd.item hNu
   ·exact ti
   ·refine .mar ⟨?_,?_,SL.made_app (SL.made_of_mem fun d hd=>SL.made_mem mNm d (SL.sl_mem d hd)) (by decide +kernel)⟩
    ·rw[Str.length_append]
     show 1<=_+1
     omega
    ·rw[Str.length_append]
     show _+1<=12
     by_cases q:11<=nm.length
     ·rw[SL.sl_to_len (by decide) (by omega)]
      decide
     ·have:=Txt.slice_le nm none (some 11)
      omega
end
end QL
namespace QL
open PySem L2
def spCo:Sp:=fun vs H Q _=>∃(c k:Int),vs=[.int c,.int k]/\0<=k/\k<=900/\∀(R:Nat) (H':Hp),1<=R->R<=20->Same H H'->Q (.int (R:Nat)) H'
def spSh:Sp:=fun vs H Q _=>∃(c:Int) (a b:Addr) (ns:List Int) (ws:List Str),vs=[.int c,.ref a,.ref b]/\H a=some (.lst (ns.map V.int))/\ns.length=3/\(∀x∈ns,0<=x/\x<=8)/\H b=some (.lst (ws.map V.str))/\ws.length=5/\(∀x∈ws,SL.Wd x)∧
 ∀(p:Addr) (q:Qn) (H':Hp),Same H H'->AAt H' q p->q.dep=0->(∀wi,q.Ok2 wi)->q.pcs.length<=6->Q (.ref p) H'
theorem pick7 (y:Int)(hy:0<=y):∃g:Int,0<=g/\g<=7/\atI [V.int 0,V.int 0,V.int 1,V.int 2,V.int 7] (y%5)=some (.int g):=by
 obtain⟨x,hx,ex⟩:=atI_some [V.int 0,V.int 0,V.int 1,V.int 2,V.int 7] (y%5) (by omega) (by show y%5<5;omega)
 simp only[List.mem_cons,List.not_mem_nil,or_false] at hx
 rcases hx with rfl|rfl|rfl|rfl|rfl
 ·exact⟨_,by decide,by decide,ex⟩
 ·exact⟨_,by decide,by decide,ex⟩
 ·exact⟨_,by decide,by decide,ex⟩
 ·exact⟨_,by decide,by decide,ex⟩
 ·exact⟨_,by decide,by decide,ex⟩
section
variable {P:Program} {w:World} {K:W.Frag} {mg:Str->Option Value} {base:Heap} {ks:Kd->Bool} {cl:Kd->Addr}
theorem scCo:FnScope ["_law_cell","_law_k"] ["_law_cell","_law_k"] (defScope sCo):=.of (by decide +kernel)
theorem ok_co (F:Fun K "_law_count" "_law_count" sCo f fd)(FM:Fun K "_law_mix" "_law_mix" sMi fM fdM)(bM:Binds K fdM ["_law_cell","_law_k"] [])(gM:mg "_law_mix"=some (.ref fM)):
  FnOk P w K mg base CX0 2 f fd ["_law_cell","_law_k"] spCo:=by
 have GM:FnOk P w K mg base CX0 1 fM fdM ["_law_cell","_law_k"] spMi:=ok_mi FM
 refine F.ok scCo (fun vs H Q E h=>?_) (fun cdv A outer s H vs Q E hr h=>?_)
 ·obtain⟨c,k,rfl,_⟩:=h
  rfl
 ·obtain⟨c,k,rfl,k0,k1,kk⟩:=h
  refine⟨_,pss_one (ps_ret (pe_op op_add pe_int (pe_op op_mod (pe_call GM hr rfl gM FM.kp bM .nil pass0 (pa_cons (pv 0) (pa_cons (pv 1) pa_nil))) (pe_ix ix_list (pe_lst (pa_cons pe_int (pa_cons pe_int pa_nil))) (pe_op op_fdiv (pe_op op_mod (pe_call GM hr rfl gM FM.kp bM .nil pass0 (pa_cons (pv 0) (pa_cons (pe_op op_add (pv 1) pe_int) pa_nil))) pe_int) pe_int) (fun _ _=>rfl))))),?_⟩
  refine⟨_,rfl,_,rfl,c,k,rfl,k0,by omega,fun z z0=>⟨(by show 2<=sizeLine;decide),fun l hl=>?_⟩⟩
  refine⟨_,rfl,_,rfl,_,_,rfl,rfl,c,_,rfl,by omega,by omega,fun y y0=>⟨_,_,rfl,rfl,(by show(0:Int)<4;decide),_,_,rfl,rfl,⟨by decide,by decide⟩,?_⟩⟩
  obtain⟨x,hx,ex⟩:=atI_some [V.int 3,V.int 20] (y%4 / 3) (by omega) (by show y%4 / 3<2;omega)
  obtain⟨r,rfl,r0,r1⟩:∃r:Int,x=.int r/\0<r/\r<=20:=by
   simp only[List.mem_cons,List.not_mem_nil,or_false] at hx
   rcases hx with rfl|rfl
   ·exact⟨3,rfl,by decide,by decide⟩
   ·exact⟨20,rfl,by decide,by decide⟩
  have m0:=Int.emod_nonneg z (Int.ne_of_gt r0)
  have m1:=Int.emod_lt_of_pos z r0
  refine⟨l,_,_,_,rfl,rfl,SqL.of upd_same,ex,_,_,rfl,rfl,r0,_,_,rfl,rfl,?_⟩
  have e:1+z%r=(((1+z%r).toNat:Nat):Int):=by omega
  have q:=kk (1+z%r).toNat _ (by omega) (by omega) ((Same.refl H).upd_free (o:=.lst [.int 3,.int 20]) hl)
  rw[<- e] at q
  exact q
theorem scSh:FnScope ["_law_cell","_law_letters_here","_law_pool_here","_law_kind","_law_letter",pGap,"_law_other"] ["_law_cell","_law_letters_here","_law_pool_here"] (defScope sSh):=.of (by decide +kernel)
theorem ok_sh (F:Fun K "_law_short" "_law_short" sSh f fd)(FM:Fun K "_law_mix" "_law_mix" sMi fM fdM)(bM:Binds K fdM ["_law_cell","_law_k"] [])(gM:mg "_law_mix"=some (.ref fM))
  (FC:Fun K "_law_count" "_law_count" sCo fC fdC) (bC:Binds K fdC ["_law_cell","_law_k"] []) (gC:mg "_law_count"=some (.ref fC)):
  FnOk P w K mg base CX0 3 f fd ["_law_cell","_law_letters_here","_law_pool_here"] spSh:=by
 have GM:FnOk P w K mg base CX0 1 fM fdM ["_law_cell","_law_k"] spMi:=ok_mi FM
 have GC:FnOk P w K mg base CX0 2 fC fdC ["_law_cell","_law_k"] spCo:=ok_co FC FM bM gM
 refine F.ok scSh (fun vs H Q E h=>?_) (fun cdv A outer s H vs Q E hr h=>?_)
 ·obtain⟨c,a,b,ns,ws,rfl,_⟩:=h
  rfl
 ·obtain⟨c,a,b,ns,ws,rfl,hA,nl,nb,hB,wl,wt,k⟩:=h
  have hr1:Room 1 _:=hr.mono (by decide)
  refine⟨_,pss_cons (ps_cut (ps_set (i:=3) scSh.nd rfl (Or.inl rfl) (pe_ix ix_list (pe_lst (pa_cons pe_str (pa_cons pe_str (pa_cons pe_str (pa_cons pe_str pa_nil))))) (pe_op op_mod (pe_op op_mod (pv 0) pe_int) pe_int) (fun _ _=>rfl))))
   (pss_cons (ps_cut (ps_set (i:=4) scSh.nd rfl (Or.inl rfl) (pe_ix ix_list (pv 1) (pe_op op_mod (pe_call GM hr1 rfl gM FM.kp bM .nil pass0 (pa_cons (pv 0) (pa_cons pe_int pa_nil))) pe_int) (fun _ _=>rfl))))
   (pss_cons (ps_cut (ps_set (i:=5) scSh.nd rfl (Or.inl rfl) (pe_ix ix_list (pe_lst (pa_cons pe_int (pa_cons pe_int (pa_cons pe_int (pa_cons pe_int (pa_cons pe_int pa_nil)))))) (pe_op op_mod (pe_call GM hr1 rfl gM FM.kp bM .nil pass0 (pa_cons (pv 0) (pa_cons pe_int pa_nil))) pe_int) (fun _ _=>rfl))))
   (pss_cons (ps_if (pt_cmpR op_eq (pv 3) pe_str (nomark _)) (pss_one (ps_ret (pe_tup (pa_cons (pv 3) (pa_cons (pv 4) pa_nil))))) pss_nil)
   (pss_cons (ps_if (pt_cmpR op_eq (pv 3) pe_str (nomark _)) (pss_one (ps_ret (pe_tup (pa_cons (pv 3) (pa_cons (pv 4) (pa_cons (pv 5) (pa_cons (pe_ix ix_list (pv 2) (pe_op op_mod (pe_call GM hr1 rfl gM FM.kp bM .nil pass0 (pa_cons (pv 0) (pa_cons pe_int pa_nil))) pe_int) (fun _ _=>rfl)) pa_nil))))))) pss_nil)
   (pss_cons (ps_cut (ps_set (i:=6) scSh.nd rfl (Or.inl rfl) (pe_ix ix_list (pv 1) (pe_op op_mod (pe_call GM hr1 rfl gM FM.kp bM .nil pass0 (pa_cons (pv 0) (pa_cons pe_int pa_nil))) pe_int) (fun _ _=>rfl))))
   (pss_one (ps_ret (pe_tup (pa_cons (pv 3) (pa_cons (pv 4) (pa_cons (pv 5) (pa_cons (pv 6) (pa_cons (pe_ix ix_list (pe_lst (pa_cons pe_int (pa_cons pe_int (pa_cons pe_int (pa_cons pe_int (pa_cons pe_int pa_nil)))))) (pe_op op_mod (pe_call GM hr1 rfl gM FM.kp bM .nil pass0 (pa_cons (pv 0) (pa_cons pe_int pa_nil))) pe_int) (fun _ _=>rfl))
    (pa_cons (pe_call GC hr rfl gC FC.kp bC .nil pass0 (pa_cons (pv 0) (pa_cons pe_int pa_nil))) pa_nil)))))))))))))),?_⟩
  refine⟨fun σ' H'=>∃kd:String,(kd="row"\/kd="with"\/kd="behind"\/kd="ahead")/\Same H H'/\σ'=[some (.int c),some (.ref a),some (.ref b),some (.str (Str.ofString kd)),none,none,none],?_,?_⟩
  ·refine⟨(by show 4<=sizeLine;decide),fun l hl=>?_⟩
   obtain⟨x,hx,ex⟩:=atI_some [V.str (Str.ofString "row"),V.str (Str.ofString "with"),V.str (Str.ofString "behind"),V.str (Str.ofString "ahead")] (c%8%4) (by omega) (by show c%8%4<4;omega)
   obtain⟨kd,rfl,hkd⟩:∃kd:String,x=.str (Str.ofString kd)/\(kd="row"\/kd="with"\/kd="behind"\/kd="ahead"):=by
    simp only[List.mem_cons,List.not_mem_nil,or_false] at hx
    rcases hx with rfl|rfl|rfl|rfl
    ·exact⟨_,rfl,.inl rfl⟩
    ·exact⟨_,rfl,.inr (.inl rfl)⟩
    ·exact⟨_,rfl,.inr (.inr (.inl rfl))⟩
    ·exact⟨_,rfl,.inr (.inr (.inr rfl))⟩
   exact⟨_,rfl,_,_,rfl,rfl,(by show(0:Int)<8;decide),_,_,rfl,rfl,(by show(0:Int)<4;decide),l,_,_,_,rfl,rfl,SqL.of upd_same,ex,kd,hkd,(Same.refl H).upd_free hl,rfl⟩
  rintro σ' H1 ⟨kd,hkd,s1,rfl⟩
  refine⟨fun σ' H'=>∃F:Int,(0<=F/\F<=8)/\H'=H1/\σ'=[some (.int c),some (.ref a),some (.ref b),some (.str (Str.ofString kd)),some (.int F),none,none],?_,?_⟩
  ·refine⟨_,rfl,_,rfl,c,1,rfl,by decide,by decide,fun z z0=>?_⟩
   obtain⟨x,hx,ex⟩:=atI_some (ns.map V.int) (z%2) (by omega) (by rw[List.length_map,nl];omega)
   obtain⟨F,hF,rfl⟩:=List.mem_map.mp hx
   exact⟨_,_,rfl,rfl,(by show(0:Int)<2;decide),a,_,_,_,rfl,rfl,SqL.of (s1 _ _ hA),ex,F,nb F hF,rfl,rfl⟩
  rintro σ' H' ⟨F,bF,rfl,rfl⟩
  refine⟨fun σ' H2=>∃I:Int,(0<=I/\I<=7)/\Same H' H2/\σ'=[some (.int c),some (.ref a),some (.ref b),some (.str (Str.ofString kd)),some (.int F),some (.int I),none],?_,?_⟩
  ·refine⟨(by show 5<=sizeLine;decide),fun l hl=>?_⟩
   refine⟨_,rfl,c,2,rfl,by decide,by decide,fun y y0=>⟨_,_,rfl,rfl,(by show(0:Int)<5;decide),?_⟩⟩
   obtain⟨g,g0,g7,eg⟩:=pick7 y y0
   exact⟨l,_,_,_,rfl,rfl,SqL.of upd_same,eg,g,⟨g0,g7⟩,(Same.refl H').upd_free hl,rfl⟩
  rintro σ' H2 ⟨I,i0,s2,rfl⟩
  have t2:=s1.trans s2
  refine⟨_,rfl,rfl,_,rfl,?_⟩
  rcases hkd with rfl|hkd
  ·refine iteTK (by decide +kernel) ?_
   refine⟨_,rfl,_,rfl,(by show 2<=sizeLine;decide),fun p hp=>?_⟩
   exact k p (.row F) _ (t2.upd_free (t2.free hp)) upd_same rfl (fun _=>bF) (by show 2<=6;decide)
  have n1:decide (V.str (Str.ofString kd)=V.str (Str.ofString "row"))=false:=by
   rcases hkd with rfl|rfl|rfl<;>decide +kernel
  refine iteFK n1 ?_
  refine⟨_,rfl,rfl,_,rfl,?_⟩
  rcases hkd with rfl|hkd
  ·refine iteTK (by decide +kernel) ?_
   refine⟨_,rfl,_,rfl,_,rfl,_,rfl,_,rfl,c,3,rfl,by decide,by decide,fun z z0=>⟨_,_,rfl,rfl,(by show(0:Int)<5;decide),?_⟩⟩
   obtain⟨x,hx,ex⟩:=atI_some (ws.map V.str) (z%5) (by omega) (by rw[List.length_map,wl];omega)
   obtain⟨W,hW,rfl⟩:=List.mem_map.mp hx
   refine⟨b,_,_,_,rfl,rfl,SqL.of (t2 _ _ hB),ex,(by show 4<=sizeLine;decide),fun p hp=>?_⟩
   exact k p (.wit F I W) _ (t2.upd_free (t2.free hp)) upd_same rfl (fun _=>⟨bF,i0,wt W hW⟩) (by show 4<=6;decide)
  have n2:decide (V.str (Str.ofString kd)=V.str (Str.ofString "with"))=false:=by
   rcases hkd with rfl|rfl<;>decide +kernel
  refine iteFK n2 ?_
  refine⟨fun σ' H'=>∃G:Int,(0<=G/\G<=8)/\H'=H2/\σ'=[some (.int c),some (.ref a),some (.ref b),some (.str (Str.ofString kd)),some (.int F),some (.int I),some (.int G)],?_,?_⟩
  ·refine⟨_,rfl,_,rfl,c,4,rfl,by decide,by decide,fun z z0=>?_⟩
   obtain⟨x,hx,ex⟩:=atI_some (ns.map V.int) (z%2) (by omega) (by rw[List.length_map,nl];omega)
   obtain⟨G,hG,rfl⟩:=List.mem_map.mp hx
   exact⟨_,_,rfl,rfl,(by show(0:Int)<2;decide),a,_,_,_,rfl,rfl,SqL.of (t2 _ _ hA),ex,G,nb G hG,rfl,rfl⟩
  rintro σ' H3 ⟨G,bG,rfl,rfl⟩
  refine⟨_,rfl,_,rfl,_,rfl,_,rfl,(by show 5<=sizeLine;decide),fun l hl=>?_⟩
  have s3:=t2.upd_free (o:=.lst [.int 0,.int 0,.int 1,.int 2,.int 7]) (t2.free hl)
  refine⟨_,rfl,c,5,rfl,by decide,by decide,fun y y0=>⟨_,_,rfl,rfl,(by show(0:Int)<5;decide),?_⟩⟩
  obtain⟨J,j0,j7,eg⟩:=pick7 y y0
  refine⟨l,_,_,_,rfl,rfl,SqL.of upd_same,eg,_,rfl,c,6,rfl,by decide,by decide,fun R H4 r1 r2 s4=>⟨(by show 6<=sizeLine;decide),fun p hp=>?_⟩⟩
  have t4:=s3.trans s4
  rcases hkd with rfl|rfl
  ·exact k p (.beh F I G J R) _ (t4.upd_free (t4.free hp)) upd_same rfl (fun _=>⟨bF,i0,bG,⟨j0,j7⟩,r1,r2⟩) (by show 6<=6;decide)
  ·exact k p (.ahd F I G J R) _ (t4.upd_free (t4.free hp)) upd_same rfl (fun _=>⟨bF,i0,bG,⟨j0,j7⟩,r1,r2⟩) (by show 6<=6;decide)
structure Mk4 (P:Program)(w:World)(K:W.Frag)(mg:Str->Option Value)(base:Heap)(cl:Kd->Addr)(fR fW fH fA:Addr)(dR dW dH dA:FuncData):Prop where
 mR:Mk K (cl .row) fR
 mW:Mk K (cl .wit) fW
 mH:Mk K (cl .beh) fH
 mA:Mk K (cl .ahd) fA
 gR:mg "Row"=some (.ref (cl .row))
 gW:mg "With"=some (.ref (cl .wit))
 gH:mg "Behind"=some (.ref (cl .beh))
 gA:mg "Ahead"=some (.ref (cl .ahd))
 bR:Binds K dR ["self","letter"] []
 bW:Binds K dW ["self","letter","gap","word"] []
 bH:Binds K dH ["self","letter","gap","other","there","reach"] []
 bA:Binds K dA ["self","letter","gap","other","there","reach"] []
 oR:FnOk P w K mg base CX0 1 fR dR ["self","letter"] (spRi cl)
 oW:FnOk P w K mg base CX0 1 fW dW ["self","letter","gap","word"] (spWi cl)
 oH:FnOk P w K mg base CX0 1 fH dH ["self","letter","gap","other","there","reach"] (spFi (cl .beh))
 oA:FnOk P w K mg base CX0 1 fA dA ["self","letter","gap","other","there","reach"] (spFi (cl .ahd))
end
end QL
namespace QL
open PySem L2
section
variable {P:Program} {w:World} {K:W.Frag} {mg:Str->Option Value} {base:Heap} {ks:Kd->Bool} {cl:Kd->Addr} {d lev:Nat}
def jq (b:Bool)(q r:Qn):Qn:=if b then .bot q r else .eit q r
def jk (b:Bool):Kd:=if b then .bot else .eit
def spJi (cl:Kd->Addr)(b:Bool):Sp:=fun vs H Q _=>∃(p dx c e:Addr) (q r:Qn) (H1:Hp),vs=[.ref p,.ref c,.ref e]/\H p=some (.ins (cl (jk b)) dx [])/\QAt cl H1 q c/\QAt cl H1 r e/\Old H1 H p/\∀H',QAt cl H' (jq b q r) p->Kept H H' p->Q .non H'
theorem scJi:FnScope ["self","one","other"] ["self","one","other"] (defScope sJi):=.of (by decide +kernel)
theorem ok_ji (b:Bool)(F:Fun K "__init__" "Joint.__init__" sJi f fd)(C:Cls K (cl (jk b)))(nO:NoAttr K (cl (jk b)) "one")(nR:NoAttr K (cl (jk b)) "other"):FnOk P w K mg base CX0 1 f fd ["self","one","other"] (spJi cl b):=by
 refine F.ok scJi (fun vs H Q E h=>?_) (fun cdv A outer s H vs Q E hr h=>?_)
 ·obtain⟨p,dx,c,e,q,r,H1,rfl,_⟩:=h
  rfl
 ·obtain⟨p,dx,c,e,q,r,H1,rfl,hp,hq,hq',ho,k⟩:=h
  refine⟨_,pss_cons (ps_fld (pv 0) (pv 1) rfl) (pss_one (ps_fld (pv 0) (pv 2) rfl)),?_⟩
  refine⟨_,rfl,_,rfl,p,_,dx,_,rfl,hp,C,nO,(by show 0<1000;decide),?_⟩
  refine⟨_,rfl,_,rfl,p,_,dx,_,rfl,upd_same,C,nR,(by show 1<1000;decide),?_⟩
  generalize hH':upd _ p _=H'
  have kp:Kept H H' p:=fun b o e hb=>by
   rw[<- hH',upd_ne hb,upd_ne hb]
   exact e
  have at':∃fs:List (Str×V),H' p=some (.ins (cl (jk b)) dx fs)/\fs.lookup ("one":Str)=some (.ref c)/\fs.lookup ("other":Str)=some (.ref e)/\NoMeth fs:=by
   refine⟨_,by rw[<- hH'];exact upd_same,?_,?_,(NoMeth.nil.put (by decide +kernel) (by decide +kernel) (by decide +kernel)).put (by decide +kernel) (by decide +kernel) (by decide +kernel)⟩
   ·rw[lookup_putF,if_neg (by decide +kernel),lookup_putF,if_pos rfl]
   ·rw[lookup_putF,if_pos rfl]
  obtain⟨fs,a1,a2,a3,a4⟩:=at'
  refine k H' ?_ kp
  cases b with
  |true=>exact⟨dx,fs,c,e,a1,a2,a3,a4,QAt.same (ho.then kp) hq,QAt.same (ho.then kp) hq'⟩
  |false=>exact⟨dx,fs,c,e,a1,a2,a3,a4,QAt.same (ho.then kp) hq,QAt.same (ho.then kp) hq'⟩
end
end QL
namespace QL
open PySem L2
theorem AAt.tsame {H H':Hp}(s:TSame H H'):∀{q:Qn} {p:Addr},AAt H q p->AAt H' q p
 |.row _,_,h=>s _ _ h
 |.wit _ _ _,_,h=>s _ _ h
 |.beh _ _ _ _ _,_,h=>s _ _ h
 |.ahd _ _ _ _ _,_,h=>s _ _ h
 |.tim _ _ _,_,⟨c,h1,h2⟩=>⟨c,s _ _ h1,AAt.tsame s h2⟩
 |.bot _ _,_,⟨c,e,h1,h2,h3⟩=>⟨c,e,s _ _ h1,AAt.tsame s h2,AAt.tsame s h3⟩
 |.eit _ _,_,⟨c,e,h1,h2,h3⟩=>⟨c,e,s _ _ h1,AAt.tsame s h2,AAt.tsame s h3⟩
 |.non _,_,⟨c,h1,h2⟩=>⟨c,s _ _ h1,AAt.tsame s h2⟩
theorem str_ok {z:Str}{n:Nat}(h:Tx n z):DOk (.str z):=⟨h.ok,by rw[PyData.depth];decide⟩
def spNr:Sp:=fun vs H Q _=>∃(p:Addr) (q:Qn) (wi:Bool),vs=[.ref p,.bl wi]/\AAt H q p/\q.dep=0/\(∀w,q.Ok2 w)/\q.pcs.length<=6/\∀(p':Addr) (q':Qn) (H':Hp),Same H H'->AAt H' q' p'->q'.dep=0->(∀w,q'.Ok2 w)->q'.pcs.length<=6->Q (.ref p') H'
section
variable {P:Program} {w:World} {K:W.Frag} {mg:Str->Option Value} {base:Heap} {cl:Kd->Addr}
theorem scNr:FnScope ["_law_asked","_law_within"] ["_law_asked","_law_within"] (defScope sNr):=.of (by decide +kernel)
theorem ok_nr (F:Fun K "_law_nearer" "_law_nearer" sNr f fd):FnOk P w K mg base CX0 1 f fd ["_law_asked","_law_within"] spNr:=by
 refine F.ok scNr (fun vs H Q E h=>?_) (fun cdv A outer s H vs Q E hr h=>?_)
 ·obtain⟨p,q,wi,rfl,_⟩:=h
  rfl
 ·obtain⟨p,q,wi,rfl,hA,hd,hok,hpl,k⟩:=h
  have hu:=hr.units
  refine⟨_,pss_cons (ps_if (PW.pt (pw_and (pt_val (pv 1)) (pw_and1 (pt_cmpR (op_inD hu) (pe_ix ix_tup (pv 0) pe_int (fun _ _=>rfl)) (pe_lst (pa_cons pe_str (pa_cons pe_str pa_nil))) (by with_unfolding_all rfl)))))
    (pss_one (ps_ret (pe_op op_catA (pe_slice sl_tupA (pv 0) po_none (po_some pe_int)) (pe_tup (pa_cons (pe_op op_add pe_int (pe_op op_mod (pe_ix ix_tup (pv 0) pe_int (fun _ _=>rfl)) pe_int)) pa_nil))))) pss_nil)
   (pss_one (ps_ret (pv 0))),?_⟩
  cases wi with
  |false=>exact⟨_,rfl,false,rfl,iteF (iteF ⟨_,rfl,k p q H (Same.refl H) hA hd hok hpl⟩)⟩
  |true=>
   refine⟨_,rfl,true,rfl,iteT ?_⟩
   have inn:∀(z:Str),PyData.canLayAll0 [PyData.str (Str.ofString "behind"),.str (Str.ofString "ahead")]=true:=fun z=>by decide +kernel
   have two:∀l,DsAt K (upd H l (.lst [.str (Str.ofString "behind"),.str (Str.ofString "ahead")])) [V.str (Str.ofString "behind"),.str (Str.ofString "ahead")] [PyData.str (Str.ofString "behind"),.str (Str.ofString "ahead")]:=fun l=>.cons (.str _) (.cons (.str _) .nil)
   cases q<;>cases hd
   ·rename_i F
    refine⟨_,rfl,p,_,_,_,rfl,rfl,SqT.of hA,rfl,(by show 2<=sizeLine;decide),fun l hl=>?_⟩
    refine⟨l,_,_,_,rfl,.inl (SqL.of upd_same),two l,.str _,by exact str_ok (n:=10) (txK (by decide +kernel)),inn Str.empty,_,rfl,?_⟩
    refine iteFK (by decide +kernel) ?_
    have s1:Same H (upd H l (.lst [.str (Str.ofString "behind"),.str (Str.ofString "ahead")])):=(Same.refl H).upd_free hl
    exact⟨_,rfl,k p (.row F) _ s1 (AAt.same (q:=.row F) s1 hA) rfl hok hpl⟩
   ·rename_i F I W
    refine⟨_,rfl,p,_,_,_,rfl,rfl,SqT.of hA,rfl,(by show 2<=sizeLine;decide),fun l hl=>?_⟩
    refine⟨l,_,_,_,rfl,.inl (SqL.of upd_same),two l,.str _,by exact str_ok (n:=10) (txK (by decide +kernel)),inn Str.empty,_,rfl,?_⟩
    refine iteFK (by decide +kernel) ?_
    have s1:Same H (upd H l (.lst [.str (Str.ofString "behind"),.str (Str.ofString "ahead")])):=(Same.refl H).upd_free hl
    exact⟨_,rfl,k p (.wit F I W) _ s1 (AAt.same (q:=.wit F I W) s1 hA) rfl hok hpl⟩
   ·rename_i F I G J R
    refine⟨_,rfl,p,_,_,_,rfl,rfl,SqT.of hA,rfl,(by show 2<=sizeLine;decide),fun l hl=>?_⟩
    refine⟨l,_,_,_,rfl,.inl (SqL.of upd_same),two l,.str _,by exact str_ok (n:=10) (txK (by decide +kernel)),inn Str.empty,_,rfl,?_⟩
    refine iteTK (by decide +kernel) ?_
    have s1:Same H (upd H l (.lst [.str (Str.ofString "behind"),.str (Str.ofString "ahead")])):=(Same.refl H).upd_free hl
    generalize upd H l (.lst [.str (Str.ofString "behind"),.str (Str.ofString "ahead")])=H1 at s1
    have hA1:=s1 _ _ hA
    refine⟨_,rfl,_,rfl,p,_,rfl,hA1,fun c H2 s2 hc=>?_⟩
    refine⟨_,rfl,p,_,_,_,rfl,rfl,SqT.of (s2 _ _ hA1),rfl,_,_,rfl,rfl,(by show(0:Int)<6;decide),_,_,rfl,rfl,(by show 1<=sizeLine;decide),fun d hd=>?_⟩
    have s3:Same H2 (upd H2 d (.tup [.int (1+(R:Int)%6)])):=(Same.refl H2).upd_free hd
    refine⟨c,d,_,_,rfl,rfl,s3 _ _ hc,upd_same,(by show 6<=sizeLine;decide),fun e H4 s4 he=>?_⟩
    have eR:(1+(R:Int)%6)=((1+R%6:Nat):Int):=by omega
    replace he:H4 e=some (.tup [.str (Str.ofString "behind"),.int F,.int I,.int G,.int J,.int (1+(R:Int)%6)]):=he
    rw[eR] at he
    exact k e (.beh F I G J (1+R%6)) H4 ((s1.trans s2).trans (s3.trans s4)) he rfl (fun w=>⟨(hok w).1,(hok w).2.1,(hok w).2.2.1,(hok w).2.2.2.1,by omega,by omega⟩) (by show 6<=6;decide)
   ·rename_i F I G J R
    refine⟨_,rfl,p,_,_,_,rfl,rfl,SqT.of hA,rfl,(by show 2<=sizeLine;decide),fun l hl=>?_⟩
    refine⟨l,_,_,_,rfl,.inl (SqL.of upd_same),two l,.str _,by exact str_ok (n:=10) (txK (by decide +kernel)),inn Str.empty,_,rfl,?_⟩
    refine iteTK (by decide +kernel) ?_
    have s1:Same H (upd H l (.lst [.str (Str.ofString "behind"),.str (Str.ofString "ahead")])):=(Same.refl H).upd_free hl
    generalize upd H l (.lst [.str (Str.ofString "behind"),.str (Str.ofString "ahead")])=H1 at s1
    have hA1:=s1 _ _ hA
    refine⟨_,rfl,_,rfl,p,_,rfl,hA1,fun c H2 s2 hc=>?_⟩
    refine⟨_,rfl,p,_,_,_,rfl,rfl,SqT.of (s2 _ _ hA1),rfl,_,_,rfl,rfl,(by show(0:Int)<6;decide),_,_,rfl,rfl,(by show 1<=sizeLine;decide),fun d hd=>?_⟩
    have s3:Same H2 (upd H2 d (.tup [.int (1+(R:Int)%6)])):=(Same.refl H2).upd_free hd
    refine⟨c,d,_,_,rfl,rfl,s3 _ _ hc,upd_same,(by show 6<=sizeLine;decide),fun e H4 s4 he=>?_⟩
    have eR:(1+(R:Int)%6)=((1+R%6:Nat):Int):=by omega
    replace he:H4 e=some (.tup [.str (Str.ofString "ahead"),.int F,.int I,.int G,.int J,.int (1+(R:Int)%6)]):=he
    rw[eR] at he
    exact k e (.ahd F I G J (1+R%6)) H4 ((s1.trans s2).trans (s3.trans s4)) he rfl (fun w=>⟨(hok w).1,(hok w).2.1,(hok w).2.2.1,(hok w).2.2.2.1,by omega,by omega⟩) (by show 6<=6;decide)
end
end QL
namespace QL
open PySem L2
theorem eqv_nilZ (cs:List Int):PyData.eqv (.list (cs.map PyData.int)) (.list [])=decide (cs=[]):=by
 cases cs with
 |nil=>rfl
 |cons a r=>rfl
theorem pop0 (n:Nat):seqIndex? 0 (n+1)=some 0:=by
 unfold seqIndex?
 have h:(0:Int)<((n+1:Nat):Int):=by omega
 simp[h]
def spGw (m:Nat):Sp:=fun vs H Q _=>∃(c a b:Addr) (wi:Bool) (cs ns:List Int) (ws:List Str),vs=[.ref c,.ref a,.ref b,.bl wi]/\H c=some (.lst (cs.map V.int))/\1<=cs.length/\cs.length<=m/\cs.length<=60/\c≠a/\c≠b/\H a=some (.lst (ns.map V.int))/\ns.length=3/\(∀x∈ns,0<=x/\x<=8)/\H b=some (.lst (ws.map V.str))/\ws.length=5/\(∀x∈ws,SL.Wd x)∧
 ∀(p:Addr) (q:Qn) (cs':List Int) (H':Hp),Kept H H' c->H' c=some (.lst (cs'.map V.int))->cs'.length<cs.length->AAt H' q p->q.dep<cs.length->q.Ok2 wi->q.pcs.length+7*cs'.length+1<=7*cs.length->Q (.ref p) H'
theorem Kept.trans {H H1 H2:Hp}{c:Addr}(a:Kept H H1 c)(b:Kept H1 H2 c):Kept H H2 c:=fun x o e n=>b x o (a x o e n) n
theorem Kept.same {H H1:Hp}{c:Addr}(a:Same H H1):Kept H H1 c:=fun x o e _=>a x o e
theorem Kept.tups {H H':Hp}{c:Addr}{ys:List V}(k:Kept H H' c)(h:H c=some (.lst ys)):TSame H H':=fun b xs e=>k b _ e fun z=>by
 subst z
 rw[h] at e
 cases e
section
variable {P:Program} {w:World} {K:W.Frag} {mg:Str->Option Value} {base:Heap} {cl:Kd->Addr}
theorem scGw:FnScope ["_law_cells","_law_letters_here","_law_pool_here","_law_within","_law_cell","_law_counts","_law_one","_law_other"] ["_law_cells","_law_letters_here","_law_pool_here","_law_within"] (defScope sGw):=.of (by decide +kernel)
theorem ok_gw (F:Fun K "_law_grown" "_law_grown" sGw f fd)(bF:Binds K fd ["_law_cells","_law_letters_here","_law_pool_here","_law_within"] [])(gF:mg "_law_grown"=some (.ref f))
  (FM:Fun K "_law_mix" "_law_mix" sMi fM dM) (bM:Binds K dM ["_law_cell","_law_k"] []) (gM:mg "_law_mix"=some (.ref fM))
  (FCo:Fun K "_law_count" "_law_count" sCo fC dC) (bCo:Binds K dC ["_law_cell","_law_k"] []) (gCo:mg "_law_count"=some (.ref fC))
  (FSh:Fun K "_law_short" "_law_short" sSh fS dS) (bSh:Binds K dS ["_law_cell","_law_letters_here","_law_pool_here"] []) (gSh:mg "_law_short"=some (.ref fS))
  (FNr:Fun K "_law_nearer" "_law_nearer" sNr fN dN) (bNr:Binds K dN ["_law_asked","_law_within"] []) (gNr:mg "_law_nearer"=some (.ref fN)):
  ∀m:Nat,FnOk P w K mg base CX0 (m+3) f fd ["_law_cells","_law_letters_here","_law_pool_here","_law_within"] (spGw m)
 |0=>vac fun vs H Q E h=>by
  obtain⟨c,a,b,wi,cs,ns,ws,_,_,h1,h2,_⟩:=h
  omega
 |m+1=>by
  have GG:FnOk P w K mg base CX0 (m+3) f fd ["_law_cells","_law_letters_here","_law_pool_here","_law_within"] (spGw m):=ok_gw F bF gF FM bM gM FCo bCo gCo FSh bSh gSh FNr bNr gNr m
  have GCo:FnOk P w K mg base CX0 2 fC dC ["_law_cell","_law_k"] spCo:=ok_co FCo FM bM gM
  have GSh:FnOk P w K mg base CX0 3 fS dS ["_law_cell","_law_letters_here","_law_pool_here"] spSh:=ok_sh FSh FM bM gM FCo bCo gCo
  have GNr:FnOk P w K mg base CX0 1 fN dN ["_law_asked","_law_within"] spNr:=ok_nr FNr
  refine F.ok (k:=m+3) scGw (fun vs H Q E h=>?_) (fun cdv A outer s H vs Q E hr h=>?_)
  ·obtain⟨c,a,b,wi,cs,ns,ws,rfl,_⟩:=h
   rfl
  ·obtain⟨c,a,b,wi,cs,ns,ws,rfl,hC,l1,l2,l3,ca,cb,hA,nl,nb,hB,wl,wt,k⟩:=h
   have hu:=hr.units
   have hr1:Room 1 _:=hr.mono (by omega)
   have hr2:Room 2 _:=hr.mono (by omega)
   have hr3:Room 3 _:=hr.mono (by omega)
   refine⟨_,pss_cons (ps_set (i:=4) scGw.nd rfl (Or.inl rfl) (pe_bm PySem.F.plainAttrs_list PySem.F.slot_list_pop PySem.F.type_list_pop mt_popAt (pv 0) (pa_cons pe_int pa_nil)))
    (pss_cons (ps_if (pt_cut (PW.pt (pw_or (pt_cmpR op_lt (pe_op op_mod (pv 4) pe_int) pe_int (nomark _)) (pw_or (pt_cmpR (op_eqD hu) (pv 0) (pe_lst pa_nil) (nomark _)) (pw_or1 (PW.pt (pw_and (pt_cmpR op_eq (pe_op op_mod (pv 4) pe_int) pe_int (nomark _)) (pw_and1 (pt_val (pv 3))))))))))
     (pss_one (ps_ret (pe_call GNr hr1 rfl gNr FNr.kp bNr .nil pass0 (pa_cons (pe_call GSh hr3 rfl gSh FSh.kp bSh .nil pass0 (pa_cons (pe_op op_fdiv (pv 4) pe_int) (pa_cons (pv 1) (pa_cons (pv 2) pa_nil)))) (pa_cons (pv 3) pa_nil))))) pss_nil)
    (pss_cons (ps_if (pt_cmpR op_eq (pe_op op_mod (pv 4) pe_int) pe_int (nomark _))
     (pss_cons (ps_set (i:=5) scGw.nd rfl (Or.inl rfl) (pe_tup (pa_cons (pe_call GCo hr2 rfl gCo FCo.kp bCo .nil pass0 (pa_cons (pe_op op_fdiv (pv 4) pe_int) (pa_cons pe_int pa_nil))) (pa_cons (pe_call GCo hr2 rfl gCo FCo.kp bCo .nil pass0 (pa_cons (pe_op op_fdiv (pv 4) pe_int) (pa_cons pe_int pa_nil))) pa_nil))))
     (pss_one (ps_ret (pe_tup (pa_cons pe_str (pa_cons (pe_ix ix_tup (pv 5) pe_int (fun _ _=>rfl)) (pa_cons (pe_ix ix_tup (pv 5) pe_int (fun _ _=>rfl)) (pa_cons (pe_call GG hr rfl gF F.kp bF .nil pass0 (pa_cons (pv 0) (pa_cons (pv 1) (pa_cons (pv 2) (pa_cons pe_bl pa_nil))))) pa_nil)))))))) pss_nil)
    (pss_cons (ps_if (pt_cmpR op_eq (pe_op op_mod (pv 4) pe_int) pe_int (nomark _))
     (pss_one (ps_ret (pe_tup (pa_cons pe_str (pa_cons (pe_call GG hr rfl gF F.kp bF .nil pass0 (pa_cons (pv 0) (pa_cons (pv 1) (pa_cons (pv 2) (pa_cons (pv 3) pa_nil))))) pa_nil))))) pss_nil)
    (pss_cons (ps_set (i:=6) scGw.nd rfl (Or.inl rfl) (pe_call GG hr rfl gF F.kp bF .nil pass0 (pa_cons (pv 0) (pa_cons (pv 1) (pa_cons (pv 2) (pa_cons (pv 3) pa_nil))))))
    (pss_cons (ps_set (i:=7) scGw.nd rfl (Or.inl rfl) (pe_call GNr hr1 rfl gNr FNr.kp bNr .nil pass0 (pa_cons (pe_call GSh hr3 rfl gSh FSh.kp bSh .nil pass0 (pa_cons (pe_op op_fdiv (pv 4) pe_int) (pa_cons (pv 1) (pa_cons (pv 2) pa_nil)))) (pa_cons (pv 3) pa_nil))))
    (pss_cons (ps_cut (ps_if (pt_cmpR (op_neD hu) (pv 0) (pe_lst pa_nil) (nomark _)) (pss_one (ps_set (i:=7) scGw.nd rfl (Or.inl rfl) (pe_call GG hr rfl gF F.kp bF .nil pass0 (pa_cons (pv 0) (pa_cons (pv 1) (pa_cons (pv 2) (pa_cons (pv 3) pa_nil))))))) pss_nil))
    (pss_one (ps_ret (pe_tup (pa_cons (pe_ix ix_list (pe_lst (pa_cons pe_str (pa_cons pe_str pa_nil))) (pe_op op_mod (pv 4) pe_int) (fun _ _=>rfl)) (pa_cons (pv 6) (pa_cons (pv 7) pa_nil)))))))))))),?_⟩
   obtain⟨c0,cs1,rfl⟩:∃c0 cs1,cs=c0::cs1:=by
    cases cs with
    |nil=>exact absurd l1 (by decide)
    |cons x y=>exact⟨x,y,rfl⟩
   rw[List.length_cons] at l1 l2 l3
   refine⟨_,rfl,.inl ⟨rfl,_,SqL.of hC⟩,c,_,_,0,_,rfl,rfl,hC,by decide,by decide,(by rw[List.length_map,List.length_cons];exact pop0 _),rfl,?_⟩
   have kp1:Kept H (upd H c (.lst (((c0::cs1).map V.int).eraseIdx 0))) c:=fun x o e n=>by
    rw[upd_ne n]
    exact e
   have hC1:upd H c (.lst (((c0::cs1).map V.int).eraseIdx 0)) c=some (.lst (cs1.map V.int)):=upd_same
   generalize upd H c (.lst (((c0::cs1).map V.int).eraseIdx 0))=H1 at kp1 hC1
   have hA1:=kp1 _ _ hA (Ne.symm ca)
   have hB1:=kp1 _ _ hB (Ne.symm cb)
   refine⟨fun b' H'=>Same H1 H'/\(b'=false->cs1≠[]/\(c0%8=4->wi=false)),?_,?_⟩
   ·refine⟨_,rfl,_,_,rfl,rfl,(by show(0:Int)<8;decide),_,_,rfl,rfl,_,rfl,?_⟩
    refine ifb ⟨Same.refl H1,fun z=>by cases z⟩ ?_
    refine⟨_,rfl,(by show 0<=sizeLine;decide),fun l hl=>?_⟩
    have s2:Same H1 (upd H1 l (.lst [])):=(Same.refl H1).upd_free hl
    refine⟨.list (cs1.map PyData.int),.list [],.lst (SqL.of (s2 _ _ hC1)) (ints_at cs1),.lst (SqL.of upd_same) .nil,intsL_ok cs1,intsL_ok [],_,rfl,?_⟩
    rw[eqv_nilZ]
    by_cases e:cs1=[]
    ·exact iteTK (by simp[e]) ⟨s2,fun z=>by cases z⟩
    ·refine iteFK (by simp[e]) ?_
     refine⟨_,rfl,_,_,rfl,rfl,(by show(0:Int)<8;decide),rfl,_,rfl,?_⟩
     exact ite2 (fun _=>⟨_,rfl,wi,rfl,s2,fun hw=>⟨e,fun _=>hw⟩⟩) (fun h4=>⟨s2,fun _=>⟨e,fun e4=>absurd (decide_eq_true (congrArg V.int e4)) h4⟩⟩)
   rintro b' H2 ⟨s2,hne⟩
   have kp2:=kp1.trans (Kept.same s2)
   have hC2:=s2 _ _ hC1
   have hA2:=s2 _ _ hA1
   have hB2:=s2 _ _ hB1
   cases b' with
   |true=>
    refine iteT ⟨_,rfl,_,_,rfl,rfl,⟨by decide,by decide⟩,_,rfl,_,rfl,_,a,b,ns,ws,rfl,hA2,nl,nb,hB2,wl,wt,fun p q H3 s3 hp hd hok hpl=>?_⟩
    refine⟨_,rfl,p,q,wi,rfl,hp,hd,hok,hpl,fun p' q' H4 s4 hp' hd' hok' hpl'=>?_⟩
    refine k p' q' cs1 H4 (kp2.trans (Kept.same (s3.trans s4))) (s4 _ _ (s3 _ _ hC2)) (Nat.lt_succ_self _) hp' ?_ (hok' wi) (by rw[List.length_cons];omega)
    rw[hd',List.length_cons]
    exact Nat.succ_pos _
   |false=>
    refine iteF ?_
    obtain⟨hne,hwi⟩:=hne rfl
    have l1':1<=cs1.length:=by
     cases cs1 with
     |nil=>exact absurd rfl hne
     |cons x y=>exact Nat.succ_le_succ (Nat.zero_le _)
    refine⟨_,rfl,_,_,rfl,rfl,(by show(0:Int)<8;decide),rfl,_,rfl,ite2 (fun h4=>?_) (fun _=>?_)⟩
    ·have hwf:wi=false:=hwi (by have q:=of_decide_eq_true h4;injection q)
     refine⟨_,rfl,_,_,rfl,rfl,⟨by decide,by decide⟩,_,1,rfl,by decide,by decide,fun R H3 r1 r2 s3=>?_⟩
     refine⟨_,rfl,_,_,rfl,rfl,⟨by decide,by decide⟩,_,4,rfl,by decide,by decide,fun M H4 m1 m2 s4=>?_⟩
     refine⟨(by show 2<=sizeLine;decide),fun pt hpt=>?_⟩
     have s5:Same H4 (upd H4 pt (.tup [.int (R:Nat),.int (M:Nat)])):=(Same.refl H4).upd_free hpt
     have hT5:upd H4 pt (.tup [.int (R:Nat),.int (M:Nat)]) pt=some (.tup [.int (R:Nat),.int (M:Nat)]):=upd_same
     generalize upd H4 pt (.tup [.int (R:Nat),.int (M:Nat)])=H5 at s5 hT5
     have t5:=(s3.trans s4).trans s5
     refine⟨_,rfl,pt,_,_,_,rfl,rfl,SqT.of hT5,rfl,_,rfl,pt,_,_,_,rfl,rfl,SqT.of hT5,rfl,_,rfl,_,rfl,_,rfl,c,a,b,true,cs1,ns,ws,rfl,t5 _ _ hC2,l1',by omega,by omega,ca,cb,t5 _ _ hA2,nl,nb,t5 _ _ hB2,wl,wt,fun p q cs' H6 kp6 hC6 lt6 hp hd hok hpl=>?_⟩
     refine⟨(by show 4<=sizeLine;decide),fun pp hpp=>?_⟩
     have s7:Same H6 (upd H6 pp (.tup [.str (Str.ofString "times"),.int (R:Nat),.int (M:Nat),.ref p])):=(Same.refl H6).upd_free hpp
     refine k pp (.tim R M q) cs' _ ((kp2.trans (Kept.same t5)).trans (kp6.trans (Kept.same s7))) (s7 _ _ hC6) (Nat.lt_succ_of_lt lt6) ⟨p,upd_same,AAt.same s7 hp⟩ ?_ ⟨hwf,⟨r1,r2⟩,⟨m1,m2⟩,hok⟩ (by show(Str.ofString "times"::nS R::nS M::q.pcs).length+_+_<=7*(cs1.length+1);rw[List.length_cons,List.length_cons,List.length_cons];omega)
     show q.dep+1<cs1.length+1
     omega
    refine⟨_,rfl,_,_,rfl,rfl,(by show(0:Int)<8;decide),rfl,_,rfl,ifb ?_ ?_⟩
    ·refine⟨_,rfl,_,rfl,_,rfl,_,rfl,c,a,b,wi,cs1,ns,ws,rfl,hC2,l1',by omega,by omega,ca,cb,hA2,nl,nb,hB2,wl,wt,fun p q cs' H6 kp6 hC6 lt6 hp hd hok hpl=>?_⟩
     refine⟨(by show 2<=sizeLine;decide),fun pp hpp=>?_⟩
     have s7:Same H6 (upd H6 pp (.tup [.str (Str.ofString "not"),.ref p])):=(Same.refl H6).upd_free hpp
     refine k pp (.non q) cs' _ (kp2.trans (kp6.trans (Kept.same s7))) (s7 _ _ hC6) (Nat.lt_succ_of_lt lt6) ⟨p,upd_same,AAt.same s7 hp⟩ ?_ hok (by show(Str.ofString "not"::q.pcs).length+_+_<=7*(cs1.length+1);rw[List.length_cons];omega)
     show q.dep+1<cs1.length+1
     omega
    refine⟨_,rfl,_,rfl,_,rfl,_,rfl,c,a,b,wi,cs1,ns,ws,rfl,hC2,l1',by omega,by omega,ca,cb,hA2,nl,nb,hB2,wl,wt,fun p1 q1 cs2 H3 kp3 hC3 lt3 hp1 hd1 hok1 hpl1=>?_⟩
    have hA3:=kp3 _ _ hA2 (Ne.symm ca)
    have hB3:=kp3 _ _ hB2 (Ne.symm cb)
    refine⟨_,rfl,_,_,rfl,rfl,⟨by decide,by decide⟩,_,rfl,_,rfl,_,a,b,ns,ws,rfl,hA3,nl,nb,hB3,wl,wt,fun p2 q2 H4 s4 hp2 hd2 hok2 hpl2=>?_⟩
    refine⟨_,rfl,p2,q2,wi,rfl,hp2,hd2,hok2,hpl2,fun p3 q3 H5 s5 hp3 hd3 hok3 hpl3=>?_⟩
    have s35:=s4.trans s5
    have hC5:=s35 _ _ hC3
    refine⟨fun σ' H'=>∃(p4:Addr) (q4:Qn) (cs3:List Int),Kept H5 H' c/\H' c=some (.lst (cs3.map V.int))/\cs3.length<=cs2.length/\AAt H' q4 p4/\q4.dep<=cs2.length/\q4.Ok2 wi/\q4.pcs.length+7*cs3.length<=7*cs2.length+6/\σ'=[some (.ref c),some (.ref a),some (.ref b),some (.bl wi),some (.int c0),none,some (.ref p1),some (.ref p4)],?_,?_⟩
    ·refine⟨_,rfl,(by show 0<=sizeLine;decide),fun l hl=>?_⟩
     have s6:Same H5 (upd H5 l (.lst [])):=(Same.refl H5).upd_free hl
     refine⟨.list (cs2.map PyData.int),.list [],.lst (SqL.of (s6 _ _ hC5)) (ints_at cs2),.lst (SqL.of upd_same) .nil,intsL_ok cs2,intsL_ok [],_,rfl,?_⟩
     rw[eqv_nilZ]
     by_cases e:cs2=[]
     ·refine iteFK (by simp[e]) ?_
      exact⟨p3,q3,cs2,Kept.same s6,s6 _ _ hC5,Nat.le_refl _,AAt.same s6 hp3,by omega,hok3 wi,by omega,rfl⟩
     ·refine iteTK (by simp[e]) ?_
      have l4:1<=cs2.length:=by
       cases cs2 with
       |nil=>exact absurd rfl e
       |cons x y=>exact Nat.succ_le_succ (Nat.zero_le _)
      refine⟨_,rfl,_,rfl,_,rfl,_,rfl,c,a,b,wi,cs2,ns,ws,rfl,s6 _ _ hC5,l4,by omega,by omega,ca,cb,s6 _ _ (s35 _ _ hA3),nl,nb,s6 _ _ (s35 _ _ hB3),wl,wt,fun p4 q4 cs3 H7 kp7 hC7 lt7 hp4 hd4 hok4 hpl4=>?_⟩
      exact⟨p4,q4,cs3,(Kept.same s6).trans kp7,hC7,Nat.le_of_lt lt7,hp4,Nat.le_of_lt hd4,hok4,by omega,rfl⟩
    rintro σ' H6 ⟨p4,q4,cs3,kp6,hC6,l6,hp4,hd4,hok4,hpl4,rfl⟩
    have hp1':AAt H6 q1 p1:=AAt.tsame (kp6.tups hC5) (AAt.same s35 hp1)
    refine⟨(by show 2<=sizeLine;decide),fun l hl=>?_⟩
    have s7:Same H6 (upd H6 l (.lst [.str (Str.ofString "both"),.str (Str.ofString "either")])):=(Same.refl H6).upd_free hl
    have hL7:upd H6 l (.lst [.str (Str.ofString "both"),.str (Str.ofString "either")]) l=some (.lst [.str (Str.ofString "both"),.str (Str.ofString "either")]):=upd_same
    generalize upd H6 l (.lst [.str (Str.ofString "both"),.str (Str.ofString "either")])=H7 at s7 hL7
    have d2:c0%2=0\/c0%2=1:=by omega
    refine⟨_,rfl,_,_,rfl,rfl,(by show(0:Int)<2;decide),?_⟩
    have kall:Kept H H7 c:=(kp2.trans kp3).trans ((Kept.same s35).trans (kp6.trans (Kept.same s7)))
    have hdm:max q1.dep q4.dep+1<cs1.length+1:=by omega
    rcases d2 with e|e
    ·refine⟨l,_,_,.str (Str.ofString "both"),rfl,rfl,SqL.of hL7,by rw[e];rfl,_,rfl,_,rfl,(by show 3<=sizeLine;decide),fun pp hpp=>?_⟩
     have s8:Same H7 (upd H7 pp (.tup [.str (Str.ofString "both"),.ref p1,.ref p4])):=(Same.refl H7).upd_free hpp
     exact k pp (.bot q1 q4) cs3 _ (kall.trans (Kept.same s8)) (s8 _ _ (s7 _ _ hC6)) (by rw[List.length_cons];omega) ⟨p1,p4,upd_same,AAt.same (s7.trans s8) hp1',AAt.same (s7.trans s8) hp4⟩ hdm ⟨hok1,hok4⟩ (by rw[pcs_eq];show(_::(q1.pcs++(q4.pcs++[]))).length+_+_<=7*(cs1.length+1);rw[List.length_cons,List.length_append,List.length_append,List.length_nil];omega)
    ·refine⟨l,_,_,.str (Str.ofString "either"),rfl,rfl,SqL.of hL7,by rw[e];rfl,_,rfl,_,rfl,(by show 3<=sizeLine;decide),fun pp hpp=>?_⟩
     have s8:Same H7 (upd H7 pp (.tup [.str (Str.ofString "either"),.ref p1,.ref p4])):=(Same.refl H7).upd_free hpp
     exact k pp (.eit q1 q4) cs3 _ (kall.trans (Kept.same s8)) (s8 _ _ (s7 _ _ hC6)) (by rw[List.length_cons];omega) ⟨p1,p4,upd_same,AAt.same (s7.trans s8) hp1',AAt.same (s7.trans s8) hp4⟩ hdm ⟨hok1,hok4⟩ (by rw[pcs_eq];show(_::(q1.pcs++(q4.pcs++[]))).length+_+_<=7*(cs1.length+1);rw[List.length_cons,List.length_append,List.length_append,List.length_nil];omega)
end
end QL
namespace QL
open PySem L2
section
variable {P:Program} {w:World} {K:W.Frag} {mg:Str->Option Value} {base:Heap} {cl:Kd->Addr}
structure Mk5 (P:Program)(w:World)(K:W.Frag)(mg:Str->Option Value)(base:Heap)(cl:Kd->Addr)(fT fJ fN:Addr)(dT dJ dN:FuncData):Prop where
 mT:Mk K (cl .tim) fT
 mB:Mk K (cl .bot) fJ
 mE:Mk K (cl .eit) fJ
 mN:Mk K (cl .non) fN
 gT:mg "Times"=some (.ref (cl .tim))
 gB:mg "Both"=some (.ref (cl .bot))
 gE:mg "Either"=some (.ref (cl .eit))
 gN:mg "Not"=some (.ref (cl .non))
 bT:Binds K dT ["self","reach","least","question"] []
 bJ:Binds K dJ ["self","one","other"] []
 bN:Binds K dN ["self","one"] []
 oT:FnOk P w K mg base CX0 1 fT dT ["self","reach","least","question"] (spTi cl)
 oB:FnOk P w K mg base CX0 1 fJ dJ ["self","one","other"] (spJi cl true)
 oE:FnOk P w K mg base CX0 1 fJ dJ ["self","one","other"] (spJi cl false)
 oN:FnOk P w K mg base CX0 1 fN dN ["self","one"] (spNi cl)
end
end QL
namespace QL
open PySem L2
def PaAsk (H:Hp):Pa->V->Prop
 |.num _ n,v=>v=.int n
 |.wrd W,v=>v=.str W
 |.que q,v=>∃c,v=.ref c/\AAt H q c
inductive AskAt (H:Hp):List Pa->List V->Prop
 |nil:AskAt H [] []
 |cons {pa:Pa} {v:V} {ps:List Pa} {vs:List V} (h:PaAsk H pa v) (t:AskAt H ps vs):AskAt H (pa::ps) (v::vs)
theorem AskAt.get {H:Hp}{ps:List Pa}{vs:List V}(h:AskAt H ps vs):∀{i:Nat} {v:V},vs[i]?=some v->∃pa,ps[i]?=some pa/\PaAsk H pa v:=by
 induction h with
 |nil=>intro i v e;simp at e
 |@cons pa v ps vs h t ih=>
  intro i u e
  cases i with
  |zero=>cases e;exact⟨pa,rfl,h⟩
  |succ i=>exact ih e
theorem AskAt.len {H:Hp}{ps:List Pa}{vs:List V}(h:AskAt H ps vs):vs.length=ps.length:=by
 induction h with
 |nil=>rfl
 |cons h t ih=>rw[List.length_cons,List.length_cons,ih]
theorem AAt.gen {H:Hp}:∀{q:Qn} {p:Addr},AAt H q p->∃vs,H p=some (.tup (.str q.word::vs))/\AskAt H q.parts vs
 |.row _,_,h=>⟨_,h,.cons rfl .nil⟩
 |.wit _ _ _,_,h=>⟨_,h,.cons rfl (.cons rfl (.cons rfl .nil))⟩
 |.beh _ _ _ _ _,_,h=>⟨_,h,.cons rfl (.cons rfl (.cons rfl (.cons rfl (.cons rfl .nil))))⟩
 |.ahd _ _ _ _ _,_,h=>⟨_,h,.cons rfl (.cons rfl (.cons rfl (.cons rfl (.cons rfl .nil))))⟩
 |.tim _ _ _,_,⟨c,h1,h2⟩=>⟨_,h1,.cons rfl (.cons rfl (.cons ⟨c,rfl,h2⟩ .nil))⟩
 |.bot _ _,_,⟨c,e,h1,h2,h3⟩=>⟨_,h1,.cons ⟨c,rfl,h2⟩ (.cons ⟨e,rfl,h3⟩ .nil)⟩
 |.eit _ _,_,⟨c,e,h1,h2,h3⟩=>⟨_,h1,.cons ⟨c,rfl,h2⟩ (.cons ⟨e,rfl,h3⟩ .nil)⟩
 |.non _,_,⟨c,h1,h2⟩=>⟨_,h1,.cons ⟨c,rfl,h2⟩ .nil⟩
theorem part_sub {q:Qn}{p:Pa}(h:p∈q.parts):p.pcs.length<q.pcs.length/\∀x∈p.pcs,x∈q.pcs:=by
 rw[pcs_eq]
 refine⟨?_,fun x hx=>List.mem_cons_of_mem _ (List.mem_flatMap.mpr ⟨p,h,hx⟩)⟩
 rw[List.length_cons]
 have:p.pcs.length<=(q.parts.flatMap Pa.pcs).length:=(List.sublist_flatten_of_mem (List.mem_map.mpr ⟨p,h,rfl⟩)).length_le
 omega
theorem sum_lenL {n:Nat}:∀{ys:List Str},(∀y∈ys,y.length<=n)->(ys.map (·.length)).sum<=ys.length*n
 | [],_=>Nat.zero_le _
 |y::ys,h=>by
  have:=sum_lenL (n:=n) fun z hz=>h z (List.mem_cons_of_mem y hz)
  have:=h y List.mem_cons_self
  rw[List.map_cons,List.sum_cons,List.length_cons,Nat.succ_mul]
  omega
theorem parts_le (q:Qn):q.parts.length<=5:=by
 cases q<;>simp[Qn.parts]
def txs (q:Qn):List Str:=q.word::q.parts.map Pa.tx
theorem txs_len {wi:Bool}{q:Qn}(h:q.Ok2 wi)(hl:q.pcs.length<=100):∀y∈txs q,y.length<=6200:=by
 intro y hy
 rcases List.mem_cons.mp hy with rfl|hy
 ·have:=(word_tn q).1
  omega
 ·obtain⟨p,hp,rfl⟩:=List.mem_map.mp hy
  have ps:=part_sub hp
  have:=(join_tx (n:=60) (m:=1) SP ⟨Nat.le_refl 1,fun c hc=>by
   have:c=32:=by simpa [SP] using hc
   omega⟩ (ys:=p.pcs) fun x hx=>(pcs_tn h x (ps.2 x hx)).tx).1
  unfold Pa.tx
  have:p.pcs.length*61<=100*61:=Nat.mul_le_mul_right _ (by omega)
  omega
theorem take_str {ys:List Str}{i:Nat}{y:Str}(h:ys[i]?=some y):(ys.take (i+1)).map V.str=(ys.take i).map V.str++[V.str y]:=by
 rw[List.take_add_one,h,List.map_append]
 rfl
def spTe (d:Nat):Sp:=fun vs H Q _=>∃(p:Addr) (q:Qn) (wi:Bool),vs=[.ref p]/\AAt H q p/\q.dep<d/\q.Ok2 wi/\q.pcs.length<=100/\∀H':Hp,Same H H'->Q (.str q.tx) H'
section
variable {P:Program} {w:World} {K:W.Frag} {mg:Str->Option Value} {base:Heap} {cl:Kd->Addr}
theorem scTe:FnScope ["_law_asked","_law_parts","_law_part"] ["_law_asked"] (defScope sTe):=.of (by decide +kernel)
theorem ok_te (F:Fun K "_law_text" "_law_text" sTe f fd)(T:Txt mg)(bF:Binds K fd ["_law_asked"] [])(gF:mg "_law_text"=some (.ref f)):
  ∀d:Nat,FnOk P w K mg base CX0 (d+1) f fd ["_law_asked"] (spTe d)
 |0=>vac fun vs H Q E h=>by
  obtain⟨p,q,wi,_,_,hd,_⟩:=h
  exact Nat.not_lt_zero _ hd
 |d+1=>by
  have GT:FnOk P w K mg base CX0 (d+1) f fd ["_law_asked"] (spTe d):=ok_te F T bF gF d
  refine F.ok (k:=d+1) scTe (fun vs H Q E h=>?_) (fun cdv A outer s H vs Q E hr h=>?_)
  ·obtain⟨p,q,wi,rfl,_⟩:=h
   rfl
  ·obtain⟨p,q,wi,rfl,hA,hd,hok,hl,k⟩:=h
   refine⟨_,pss_cons (ps_set (i:=1) scTe.nd rfl (Or.inl rfl) (pe_lst pa_nil))
    (pss_cons (ps_for PassesOwn.never rfl (pi_tup (pv 0)) (pg_name (i:=2) scTe.nd rfl (Or.inl rfl))
     (pss_one (ps_if (pt_val (pe_callB call_isinst (by rfl) T.isin PyProof.Rows.boot_isinstance (pa_cons (pv 2) (pa_cons (pe_bltn (v:=.ty "tuple") (by rfl) T.tuple PyProof.Rows.boot_tuple rfl) pa_nil))))
      (pss_one (ps_expr (pe_bm PySem.F.plainAttrs_list PySem.F.slot_list_append PySem.F.type_list_append mt_append (pv 1) (pa_cons (pe_call GT hr rfl gF F.kp bF .nil pass0 (pa_cons (pv 2) pa_nil)) pa_nil))))
      (pss_one (ps_expr (pe_bm PySem.F.plainAttrs_list PySem.F.slot_list_append PySem.F.type_list_append mt_append (pv 1) (pa_cons (pe_callTy call_strA (by rfl) T.str PyProof.Rows.boot_str (pa_cons (pv 2) pa_nil)) pa_nil)))))))
    (pss_one (ps_ret (pe_bm PySem.F.plainAttrs_str PySem.F.slot_str_join PySem.F.type_str_join mt_join pe_str (pa_cons (pv 1) pa_nil))))),?_⟩
   obtain⟨vs,hp,ha⟩:=hA.gen
   refine⟨(by show 0<=sizeLine;decide),fun l hl0=>?_⟩
   have s1:Same H (upd H l (.lst [])):=(Same.refl H).upd_free hl0
   have hln:vs.length<=5:=by rw[ha.len];exact parts_le q
   refine⟨_,rfl,p,rfl,⟨_,SqT.of (s1 _ _ hp)⟩,?_⟩
   refine for_tup (K:=K) (a:=p) (xs:=.str q.word::vs) (fun i σ H3=>∃v,Same H H3/\H3 l=some (.lst (((txs q).take i).map V.str))/\σ=[some (.ref p),some (.ref l),v])
    ⟨none,s1,upd_same,rfl⟩ (fun i σ H3 _ ⟨v,s3,_⟩=>SqT.of (s3 _ _ hp)) ?_ ?_
   ·rintro i x σ H3 hx ⟨v,s3,hL,rfl⟩
    have hi:i<6:=by
     have:=(List.getElem?_eq_some_iff.mp hx).1
     rw[List.length_cons] at this
     omega
    have fin:∀(y:Str) (H4:Hp),(txs q)[i]?=some y->Same H3 H4->∃v,Same H (upd H4 l (.lst (((txs q).take i).map V.str++[V.str y])))/\upd H4 l (.lst (((txs q).take i).map V.str++[V.str y])) l=some (.lst (((txs q).take (i+1)).map V.str))/\[some (V.ref p),some (V.ref l),some x]=[some (.ref p),some (.ref l),v]:=fun y H4 hy s4=>
     ⟨some x,(s3.trans s4).upd_free hl0,by rw[upd_same,take_str hy],rfl⟩
    have sz:(((txs q).take i).map V.str).length<sizeLine:=by
     rw[List.length_map,List.length_take]
     exact small1000 (by omega)
    cases i with
    |zero=>
     cases hx
     refine⟨_,rfl,_,_,_,false,rfl,.str _,rfl,false,rfl,iteF ?_⟩
     refine⟨_,rfl,.inl ⟨rfl,_,SqL.of hL⟩,_,rfl,.inr ⟨_,rfl,?_⟩⟩
     exact⟨l,_,_,rfl,rfl,hL,sz,fin q.word H3 rfl (Same.refl H3)⟩
    |succ j=>
     obtain⟨pa,hpa,hpv⟩:=ha.get (i:=j) (v:=x) hx
     have hmem:=List.mem_of_getElem? hpa
     have hty:(txs q)[j+1]?=some pa.tx:=by
      show(q.parts.map Pa.tx)[j]?=_
      rw[List.getElem?_map,hpa]
      rfl
     cases pa with
     |num kk n=>
      cases hpv
      have hb:kk.lo<=n/\n<=kk.hi:=parts_ok hok _ hmem
      have b0:=nk_pos kk
      have b1:=nk_top kk
      refine⟨_,rfl,_,_,_,false,rfl,.int _,rfl,false,rfl,iteF ?_⟩
      refine⟨_,rfl,.inl ⟨rfl,_,SqL.of hL⟩,_,rfl,.inl ⟨n,rfl,log_ok (by omega) (by omega),?_⟩⟩
      exact⟨l,_,_,rfl,rfl,hL,sz,fin _ H3 hty (Same.refl H3)⟩
     |wrd W=>
      cases hpv
      refine⟨_,rfl,_,_,_,false,rfl,.str _,rfl,false,rfl,iteF ?_⟩
      refine⟨_,rfl,.inl ⟨rfl,_,SqL.of hL⟩,_,rfl,.inr ⟨W,rfl,?_⟩⟩
      exact⟨l,_,_,rfl,rfl,hL,sz,fin _ H3 hty (Same.refl H3)⟩
     |que q'=>
      obtain⟨c,rfl,hc⟩:=hpv
      have hc3:=AAt.same s3 hc
      obtain⟨vs',hp',_⟩:=hc3.gen
      have hdp:q'.dep+1<=q.dep:=parts_dep q _ hmem
      refine⟨_,rfl,_,_,_,true,rfl,.tup hp',rfl,true,rfl,iteT ?_⟩
      refine⟨_,rfl,.inl ⟨rfl,_,SqL.of hL⟩,_,rfl,c,q',q.wit' wi,rfl,hc3,by omega,parts_ok hok _ hmem,?_,fun H4 s4=>?_⟩
      ·have:=(part_sub hmem).1
       exact Nat.le_trans (Nat.le_of_lt this) hl
      ·exact⟨l,_,_,rfl,rfl,s4 _ _ hL,sz,fin _ H4 hty s4⟩
   ·rintro σ H3 ⟨v,s3,hL,rfl⟩
    have e6:(txs q).take (V.str q.word::vs).length=txs q:=List.take_of_length_le (by
     unfold txs
     rw[List.length_cons,List.length_cons,List.length_map,ha.len]
     exact Nat.le_refl _)
    rw[e6] at hL
    refine⟨rfl,_,rfl,SP,l,txs q,rfl,rfl,SqL.of hL,?_,?_⟩
    ·have h1:=sum_lenL (txs_len hok hl)
     have h2:(txs q).length<=6:=by
      unfold txs
      rw[List.length_cons,List.length_map]
      have:=parts_le q
      omega
     have h3:(txs q).length*6200<=6*6200:=Nat.mul_le_mul_right _ h2
     show _+(txs q).length*1<=_
     omega
    ·rw[show Str.join SP (txs q)=q.tx from tx_eq q]
     exact k H3 s3
end
end QL
namespace QL
open PySem L2
def PaVal (cl:Kd->Addr)(H:Hp):Pa->V->Prop
 |.num _ n,v=>v=.int n
 |.wrd W,v=>v=.str W
 |.que q,v=>∃o,v=.ref o/\QAt cl H q o
inductive ValAt (cl:Kd->Addr) (H:Hp):List Pa->List V->Prop
 |nil:ValAt cl H [] []
 |cons {pa:Pa} {v:V} {ps:List Pa} {vs:List V} (h:PaVal cl H pa v) (t:ValAt cl H ps vs):ValAt cl H (pa::ps) (v::vs)
theorem PaVal.same {cl:Kd->Addr}{H H':Hp}(s:Same H H'):∀{pa:Pa} {v:V},PaVal cl H pa v->PaVal cl H' pa v
 |.num _ _,_,h=>h
 |.wrd _,_,h=>h
 |.que _,_,⟨o,h1,h2⟩=>⟨o,h1,QAt.same s h2⟩
theorem ValAt.same {cl:Kd->Addr}{H H':Hp}(s:Same H H'){ps:List Pa}{vs:List V}(h:ValAt cl H ps vs):ValAt cl H' ps vs:=by
 induction h with
 |nil=>exact .nil
 |cons h t ih=>exact .cons (h.same s) ih
theorem ValAt.snoc {cl:Kd->Addr}{H:Hp}{ps:List Pa}{vs:List V}{pa:Pa}{v:V}(h:ValAt cl H ps vs)(hv:PaVal cl H pa v):ValAt cl H (ps++[pa]) (vs++[v]):=by
 induction h with
 |nil=>exact .cons hv .nil
 |cons h t ih=>exact .cons h ih
theorem ValAt.inv {cl:Kd->Addr}{H:Hp}{pa:Pa}{ps:List Pa}{us:List V}(h:ValAt cl H (pa::ps) us):∃v vs,us=v::vs/\PaVal cl H pa v/\ValAt cl H ps vs:=by
 cases h with
 |cons h t=>exact⟨_,_,rfl,h,t⟩
theorem ValAt.inv0 {cl:Kd->Addr}{H:Hp}{us:List V}(h:ValAt cl H [] us):us=[]:=by
 cases h
 rfl
def kindsOf:Kd->List Str
 |.row=>[Str.ofString "letter"] | .wit=>[Str.ofString "letter",Str.ofString "gap",Str.ofString "word"]
 |.beh=>[Str.ofString "letter",Str.ofString "gap",Str.ofString "letter",Str.ofString "gap",Str.ofString "count"] | .ahd=>[Str.ofString "letter",Str.ofString "gap",Str.ofString "letter",Str.ofString "gap",Str.ofString "count"]
 |.tim=>[Str.ofString "count",Str.ofString "count",Str.ofString "question"] | .bot=>[Str.ofString "question",Str.ofString "question"] | .eit=>[Str.ofString "question",Str.ofString "question"] | .non=>[Str.ofString "question"]
def kindsT (as:Kd->Addr):List (Str×V):=[(Str.ofString "row",.ref (as .row)),(Str.ofString "with",.ref (as .wit)),(Str.ofString "behind",.ref (as .beh)),(Str.ofString "ahead",.ref (as .ahd)),(Str.ofString "times",.ref (as .tim)),(Str.ofString "both",.ref (as .bot)),(Str.ofString "either",.ref (as .eit)),(Str.ofString "not",.ref (as .non))]
def leastT:List (Str×V):=[(Str.ofString "letter",.int 0),(Str.ofString "gap",.int 0),(Str.ofString "count",.int 1)]
def greatT:List (Str×V):=[(Str.ofString "letter",.int 8),(Str.ofString "gap",.int 7),(Str.ofString "count",.int 20)]
theorem least_at (k:Nk):valV leastT k.str=some (.int k.lo):=by cases k<;>rfl
theorem great_at (k:Nk):valV greatT k.str=some (.int k.hi):=by cases k<;>rfl
structure TK (w:World)(K:W.Frag)(mg:Str->Option Value)(aK aL aG:Addr)(as:Kd->Addr):Prop where
 gK:mg "KINDS"=some (.ref aK)
 gL:mg "LEAST"=some (.ref aL)
 gG:mg "GREATEST"=some (.ref aG)
 gM:∃u,mg "MOST_PIECES"=some u/\RelV (.int 40) u
 dK:KD w K aK (kindsT as)
 dL:KD w K aL leastT
 dG:KD w K aG greatT
 tup:∀k,∃(o:Obj) (its:Array Value) (n:Nat),K.lookup (as k)=some o/\o.cls=.type "tuple"/\o.data=.seq its n/\its.size<=sizeLine/\Vals ((kindsOf k).map V.str) its.toList
def spMd (cl:Kd->Addr):Sp:=fun vs H Q _=>∃(W:Str) (l:Addr) (q:Qn) (us:List V),vs=[.str W,.ref l]/\W=q.word/\H l=some (.lst us)/\ValAt cl H q.parts us/\∀(o:Addr) (H':Hp),Same H H'->QAt cl H' q o->Q (.ref o) H'
section
variable {P:Program} {w:World} {K:W.Frag} {mg:Str->Option Value} {base:Heap} {cl:Kd->Addr}
theorem scPi:FnScope ["pieces","at"] ["pieces","at"] (defScope sPi):=.of (by decide +kernel)
theorem scVo:FnScope ["kind","piece","sort"] ["kind","piece"] (defScope sVo):=.of (by decide +kernel)
theorem scMd:FnScope ["word","parts"] ["word","parts"] (defScope sMd):=.of (by decide +kernel)
theorem ok_md (F:Fun K "made" "made" sMd f fd)(M:Mk4 P w K mg base cl fR fW fH fA dR dW dH dA)(N:Mk5 P w K mg base cl fT fJ fN dT dJ dN):
  FnOk P w K mg base CX0 3 f fd ["word","parts"] (spMd cl):=by
 refine F.ok scMd (fun vs H Q E h=>?_) (fun cdv A outer s H vs Q E hr h=>?_)
 ·obtain⟨W,l,q,us,rfl,_⟩:=h
  rfl
 ·obtain⟨W,l,q,us,rfl,hW,hL,hv,k⟩:=h
  refine⟨_,pss_cons (ps_if (pt_cmpR op_eq (pv 0) pe_str (nomark _)) (pss_one (ps_ret (pe_make M.mR M.oR hr rfl M.gR M.bR .nil pass0 (pa_cons (pe_ix ix_list (pv 1) pe_int (fun _ _=>rfl)) pa_nil)))) pss_nil)
    (pss_cons (ps_if (pt_cmpR op_eq (pv 0) pe_str (nomark _)) (pss_one (ps_ret (pe_make M.mW M.oW hr rfl M.gW M.bW .nil pass0 (pa_cons (pe_ix ix_list (pv 1) pe_int (fun _ _=>rfl)) (pa_cons (pe_ix ix_list (pv 1) pe_int (fun _ _=>rfl)) (pa_cons (pe_ix ix_list (pv 1) pe_int (fun _ _=>rfl)) pa_nil)))))) pss_nil)
    (pss_cons (ps_if (pt_cmpR op_eq (pv 0) pe_str (nomark _)) (pss_one (ps_ret (pe_make M.mH M.oH hr rfl M.gH M.bH .nil pass0 (pa_cons (pe_ix ix_list (pv 1) pe_int (fun _ _=>rfl)) (pa_cons (pe_ix ix_list (pv 1) pe_int (fun _ _=>rfl)) (pa_cons (pe_ix ix_list (pv 1) pe_int (fun _ _=>rfl)) (pa_cons (pe_ix ix_list (pv 1) pe_int (fun _ _=>rfl)) (pa_cons (pe_ix ix_list (pv 1) pe_int (fun _ _=>rfl)) pa_nil)))))))) pss_nil)
    (pss_cons (ps_if (pt_cmpR op_eq (pv 0) pe_str (nomark _)) (pss_one (ps_ret (pe_make M.mA M.oA hr rfl M.gA M.bA .nil pass0 (pa_cons (pe_ix ix_list (pv 1) pe_int (fun _ _=>rfl)) (pa_cons (pe_ix ix_list (pv 1) pe_int (fun _ _=>rfl)) (pa_cons (pe_ix ix_list (pv 1) pe_int (fun _ _=>rfl)) (pa_cons (pe_ix ix_list (pv 1) pe_int (fun _ _=>rfl)) (pa_cons (pe_ix ix_list (pv 1) pe_int (fun _ _=>rfl)) pa_nil)))))))) pss_nil)
    (pss_cons (ps_if (pt_cmpR op_eq (pv 0) pe_str (nomark _)) (pss_one (ps_ret (pe_make N.mT N.oT hr rfl N.gT N.bT .nil pass0 (pa_cons (pe_ix ix_list (pv 1) pe_int (fun _ _=>rfl)) (pa_cons (pe_ix ix_list (pv 1) pe_int (fun _ _=>rfl)) (pa_cons (pe_ix ix_list (pv 1) pe_int (fun _ _=>rfl)) pa_nil)))))) pss_nil)
    (pss_cons (ps_if (pt_cmpR op_eq (pv 0) pe_str (nomark _)) (pss_one (ps_ret (pe_make N.mB N.oB hr rfl N.gB N.bJ .nil pass0 (pa_cons (pe_ix ix_list (pv 1) pe_int (fun _ _=>rfl)) (pa_cons (pe_ix ix_list (pv 1) pe_int (fun _ _=>rfl)) pa_nil))))) pss_nil)
    (pss_cons (ps_if (pt_cmpR op_eq (pv 0) pe_str (nomark _)) (pss_one (ps_ret (pe_make N.mE N.oE hr rfl N.gE N.bJ .nil pass0 (pa_cons (pe_ix ix_list (pv 1) pe_int (fun _ _=>rfl)) (pa_cons (pe_ix ix_list (pv 1) pe_int (fun _ _=>rfl)) pa_nil))))) pss_nil)
    (pss_one (ps_ret (pe_make N.mN N.oN hr rfl N.gN N.bN .nil pass0 (pa_cons (pe_ix ix_list (pv 1) pe_int (fun _ _=>rfl)) pa_nil)))))))))),?_⟩
  cases q with
  |row F=>
   replace hW:W=Str.ofString "row":=hW
   subst hW
   obtain⟨v0,r0,rfl,h0,t0⟩:=hv.inv
   obtain rfl:=t0.inv0
   cases h0
   refine⟨_,rfl,rfl,_,rfl,iteTK (by decide +kernel) ?_⟩
   refine⟨_,rfl,l,_,_,_,rfl,rfl,SqL.of hL,rfl,fun x dx nx ndx nex=>?_⟩
   exact⟨x,dx,F,rfl,upd_same,fun H' q kp=>⟨rfl,k x H' ((Old.new nx ndx).then kp) q⟩⟩
  |wit F I W'=>
   replace hW:W=Str.ofString "with":=hW
   subst hW
   obtain⟨v0,r0,rfl,h0,t0⟩:=hv.inv
   obtain⟨v1,r1,rfl,h1,t1⟩:=t0.inv
   obtain⟨v2,r2,rfl,h2,t2⟩:=t1.inv
   obtain rfl:=t2.inv0
   cases h0
   cases h1
   cases h2
   refine⟨_,rfl,rfl,_,rfl,iteFK (by decide +kernel) ⟨_,rfl,rfl,_,rfl,iteTK (by decide +kernel) ?_⟩⟩
   refine⟨_,rfl,l,_,_,_,rfl,rfl,SqL.of hL,rfl,_,rfl,l,_,_,_,rfl,rfl,SqL.of hL,rfl,_,rfl,l,_,_,_,rfl,rfl,SqL.of hL,rfl,fun x dx nx ndx nex=>?_⟩
   exact⟨x,dx,F,I,W',rfl,upd_same,fun H' q kp=>⟨rfl,k x H' ((Old.new nx ndx).then kp) q⟩⟩
  |beh F I G J R=>
   replace hW:W=Str.ofString "behind":=hW
   subst hW
   obtain⟨v0,r0,rfl,h0,t0⟩:=hv.inv
   obtain⟨v1,r1,rfl,h1,t1⟩:=t0.inv
   obtain⟨v2,r2,rfl,h2,t2⟩:=t1.inv
   obtain⟨v3,r3,rfl,h3,t3⟩:=t2.inv
   obtain⟨v4,r4,rfl,h4,t4⟩:=t3.inv
   obtain rfl:=t4.inv0
   cases h0
   cases h1
   cases h2
   cases h3
   cases h4
   refine⟨_,rfl,rfl,_,rfl,iteFK (by decide +kernel) ⟨_,rfl,rfl,_,rfl,iteFK (by decide +kernel) ⟨_,rfl,rfl,_,rfl,iteTK (by decide +kernel) ?_⟩⟩⟩
   refine⟨_,rfl,l,_,_,_,rfl,rfl,SqL.of hL,rfl,_,rfl,l,_,_,_,rfl,rfl,SqL.of hL,rfl,_,rfl,l,_,_,_,rfl,rfl,SqL.of hL,rfl,_,rfl,l,_,_,_,rfl,rfl,SqL.of hL,rfl,_,rfl,l,_,_,_,rfl,rfl,SqL.of hL,rfl,fun x dx nx ndx nex=>?_⟩
   exact⟨x,dx,F,I,G,J,R,rfl,upd_same,fun H' q kp=>⟨rfl,k x H' ((Old.new nx ndx).then kp) q⟩⟩
  |ahd F I G J R=>
   replace hW:W=Str.ofString "ahead":=hW
   subst hW
   obtain⟨v0,r0,rfl,h0,t0⟩:=hv.inv
   obtain⟨v1,r1,rfl,h1,t1⟩:=t0.inv
   obtain⟨v2,r2,rfl,h2,t2⟩:=t1.inv
   obtain⟨v3,r3,rfl,h3,t3⟩:=t2.inv
   obtain⟨v4,r4,rfl,h4,t4⟩:=t3.inv
   obtain rfl:=t4.inv0
   cases h0
   cases h1
   cases h2
   cases h3
   cases h4
   refine⟨_,rfl,rfl,_,rfl,iteFK (by decide +kernel) ⟨_,rfl,rfl,_,rfl,iteFK (by decide +kernel) ⟨_,rfl,rfl,_,rfl,iteFK (by decide +kernel) ⟨_,rfl,rfl,_,rfl,iteTK (by decide +kernel) ?_⟩⟩⟩⟩
   refine⟨_,rfl,l,_,_,_,rfl,rfl,SqL.of hL,rfl,_,rfl,l,_,_,_,rfl,rfl,SqL.of hL,rfl,_,rfl,l,_,_,_,rfl,rfl,SqL.of hL,rfl,_,rfl,l,_,_,_,rfl,rfl,SqL.of hL,rfl,_,rfl,l,_,_,_,rfl,rfl,SqL.of hL,rfl,fun x dx nx ndx nex=>?_⟩
   exact⟨x,dx,F,I,G,J,R,rfl,upd_same,fun H' q kp=>⟨rfl,k x H' ((Old.new nx ndx).then kp) q⟩⟩
  |tim R L q=>
   replace hW:W=Str.ofString "times":=hW
   subst hW
   obtain⟨v0,r0,rfl,h0,t0⟩:=hv.inv
   obtain⟨v1,r1,rfl,h1,t1⟩:=t0.inv
   obtain⟨v2,r2,rfl,h2,t2⟩:=t1.inv
   obtain rfl:=t2.inv0
   cases h0
   cases h1
   obtain⟨o,rfl,hq⟩:=h2
   refine⟨_,rfl,rfl,_,rfl,iteFK (by decide +kernel) ⟨_,rfl,rfl,_,rfl,iteFK (by decide +kernel) ⟨_,rfl,rfl,_,rfl,iteFK (by decide +kernel) ⟨_,rfl,rfl,_,rfl,iteFK (by decide +kernel) ⟨_,rfl,rfl,_,rfl,iteTK (by decide +kernel) ?_⟩⟩⟩⟩⟩
   refine⟨_,rfl,l,_,_,_,rfl,rfl,SqL.of hL,rfl,_,rfl,l,_,_,_,rfl,rfl,SqL.of hL,rfl,_,rfl,l,_,_,_,rfl,rfl,SqL.of hL,rfl,fun x dx nx ndx nex=>?_⟩
   exact⟨x,dx,o,R,L,q,H,rfl,upd_same,hq,Old.new nx ndx,fun H' hq' kp=>⟨rfl,k x H' ((Old.new (C:=cl .tim) (fs:=[]) nx ndx).then kp) hq'⟩⟩
  |bot q r=>
   replace hW:W=Str.ofString "both":=hW
   subst hW
   obtain⟨v0,r0,rfl,h0,t0⟩:=hv.inv
   obtain⟨v1,r1,rfl,h1,t1⟩:=t0.inv
   obtain rfl:=t1.inv0
   obtain⟨o,rfl,hq⟩:=h0
   obtain⟨o',rfl,hq'⟩:=h1
   refine⟨_,rfl,rfl,_,rfl,iteFK (by decide +kernel) ⟨_,rfl,rfl,_,rfl,iteFK (by decide +kernel) ⟨_,rfl,rfl,_,rfl,iteFK (by decide +kernel) ⟨_,rfl,rfl,_,rfl,iteFK (by decide +kernel) ⟨_,rfl,rfl,_,rfl,iteFK (by decide +kernel) ⟨_,rfl,rfl,_,rfl,iteTK (by decide +kernel) ?_⟩⟩⟩⟩⟩⟩
   refine⟨_,rfl,l,_,_,_,rfl,rfl,SqL.of hL,rfl,_,rfl,l,_,_,_,rfl,rfl,SqL.of hL,rfl,fun x dx nx ndx nex=>?_⟩
   exact⟨x,dx,o,o',q,r,H,rfl,upd_same,hq,hq',Old.new nx ndx,fun H' hq'' kp=>⟨rfl,k x H' ((Old.new (C:=cl (jk true)) (fs:=[]) nx ndx).then kp) hq''⟩⟩
  |eit q r=>
   replace hW:W=Str.ofString "either":=hW
   subst hW
   obtain⟨v0,r0,rfl,h0,t0⟩:=hv.inv
   obtain⟨v1,r1,rfl,h1,t1⟩:=t0.inv
   obtain rfl:=t1.inv0
   obtain⟨o,rfl,hq⟩:=h0
   obtain⟨o',rfl,hq'⟩:=h1
   refine⟨_,rfl,rfl,_,rfl,iteFK (by decide +kernel) ⟨_,rfl,rfl,_,rfl,iteFK (by decide +kernel) ⟨_,rfl,rfl,_,rfl,iteFK (by decide +kernel) ⟨_,rfl,rfl,_,rfl,iteFK (by decide +kernel) ⟨_,rfl,rfl,_,rfl,iteFK (by decide +kernel) ⟨_,rfl,rfl,_,rfl,iteFK (by decide +kernel) ⟨_,rfl,rfl,_,rfl,iteTK (by decide +kernel) ?_⟩⟩⟩⟩⟩⟩⟩
   refine⟨_,rfl,l,_,_,_,rfl,rfl,SqL.of hL,rfl,_,rfl,l,_,_,_,rfl,rfl,SqL.of hL,rfl,fun x dx nx ndx nex=>?_⟩
   exact⟨x,dx,o,o',q,r,H,rfl,upd_same,hq,hq',Old.new nx ndx,fun H' hq'' kp=>⟨rfl,k x H' ((Old.new (C:=cl (jk false)) (fs:=[]) nx ndx).then kp) hq''⟩⟩
  |non q=>
   replace hW:W=Str.ofString "not":=hW
   subst hW
   obtain⟨v0,r0,rfl,h0,t0⟩:=hv.inv
   obtain rfl:=t0.inv0
   obtain⟨o,rfl,hq⟩:=h0
   refine⟨_,rfl,rfl,_,rfl,iteFK (by decide +kernel) ⟨_,rfl,rfl,_,rfl,iteFK (by decide +kernel) ⟨_,rfl,rfl,_,rfl,iteFK (by decide +kernel) ⟨_,rfl,rfl,_,rfl,iteFK (by decide +kernel) ⟨_,rfl,rfl,_,rfl,iteFK (by decide +kernel) ⟨_,rfl,rfl,_,rfl,iteFK (by decide +kernel) ⟨_,rfl,rfl,_,rfl,iteFK (by decide +kernel) ?_⟩⟩⟩⟩⟩⟩⟩
   refine⟨_,rfl,l,_,_,_,rfl,rfl,SqL.of hL,rfl,fun x dx nx ndx nex=>?_⟩
   exact⟨x,dx,o,q,H,rfl,upd_same,hq,Old.new nx ndx,fun H' hq' kp=>⟨rfl,k x H' ((Old.new (C:=cl .non) (fs:=[]) nx ndx).then kp) hq'⟩⟩
end
end QL
namespace QL
open PySem L2
def QSame (H H':Hp):Prop:=(∀b xs,H b=some (.tup xs)->H' b=some (.tup xs))/\∀b C dx fs,H b=some (.ins C dx fs)->H' b=some (.ins C dx fs)
theorem QSame.upd {H:Hp}{l:Addr}{us vs:List V}(h:H l=some (.lst us)):QSame H (upd H l (.lst vs)):=by
 refine⟨fun b xs e=>?_,fun b C dx fs e=>?_⟩
 ·rw[upd_ne fun z=>by rw[z,h] at e;cases e]
  exact e
 ·rw[upd_ne fun z=>by rw[z,h] at e;cases e]
  exact e
theorem FarAt.qs {C:Addr}{H H':Hp}{p:Addr}{F I G J:Int}{R:Nat}(h:FarAt C H p F I G J R)(s:QSame H H'):FarAt C H' p F I G J R:=by
 obtain⟨dx,a,b,fs,h1,h2,h3,h4,h5,h6,h7⟩:=h
 exact⟨dx,a,b,fs,s.2 _ _ _ _ h1,h2,h3,h4,h5,s.1 _ _ h6,s.1 _ _ h7⟩
theorem QAt.qs {cl:Kd->Addr}{H H':Hp}(s:QSame H H'):∀{q:Qn} {p:Addr},QAt cl H q p->QAt cl H' q p
 |.row _,_,⟨dx,fs,h1,h2,h3⟩=>⟨dx,fs,s.2 _ _ _ _ h1,h2,h3⟩
 |.wit _ _ _,_,⟨dx,a,fs,h1,h2,h3,h4,h5⟩=>⟨dx,a,fs,s.2 _ _ _ _ h1,h2,h3,h4,s.1 _ _ h5⟩
 |.beh _ _ _ _ _,_,h=>FarAt.qs h s
 |.ahd _ _ _ _ _,_,h=>FarAt.qs h s
 |.tim _ _ _,_,⟨dx,fs,c,h1,h2,h3,h4,h5,h6⟩=>⟨dx,fs,c,s.2 _ _ _ _ h1,h2,h3,h4,h5,QAt.qs s h6⟩
 |.bot _ _,_,⟨dx,fs,c,e,h1,h2,h3,h4,h5,h6⟩=>⟨dx,fs,c,e,s.2 _ _ _ _ h1,h2,h3,h4,QAt.qs s h5,QAt.qs s h6⟩
 |.eit _ _,_,⟨dx,fs,c,e,h1,h2,h3,h4,h5,h6⟩=>⟨dx,fs,c,e,s.2 _ _ _ _ h1,h2,h3,h4,QAt.qs s h5,QAt.qs s h6⟩
 |.non _,_,⟨dx,fs,c,h1,h2,h3,h4⟩=>⟨dx,fs,c,s.2 _ _ _ _ h1,h2,h3,QAt.qs s h4⟩
theorem PaVal.qs {cl:Kd->Addr}{H H':Hp}(s:QSame H H'):∀{pa:Pa} {v:V},PaVal cl H pa v->PaVal cl H' pa v
 |.num _ _,_,h=>h
 |.wrd _,_,h=>h
 |.que _,_,⟨o,h1,h2⟩=>⟨o,h1,QAt.qs s h2⟩
theorem ValAt.qs {cl:Kd->Addr}{H H':Hp}(s:QSame H H'){ps:List Pa}{vs:List V}(h:ValAt cl H ps vs):ValAt cl H' ps vs:=by
 induction h with
 |nil=>exact .nil
 |cons h t ih=>exact .cons (h.qs s) ih
section
variable {P:Program} {w:World} {K:W.Frag} {mg:Str->Option Value} {base:Heap} {cl:Kd->Addr}
theorem scPt:FnScope ["kind","pieces","at","within","value"] ["kind","pieces","at","within"] (defScope sPt):=.of (by decide +kernel)
theorem scQt:FnScope ["pieces","at","within","word","parts","behind","kind","told"] ["pieces","at","within"] (defScope sQt):=.of (by decide +kernel)
theorem scQo:FnScope ["text","pieces","told"] ["text"] (defScope sQo):=.of (by decide +kernel)
end
end QL
namespace SL
open PySem L2
def valN (z:Str):Nat:=NumText.digitsVal z.cps.toList
theorem num_digits {z:Str}(h:isNum z=true):NumText.AllDigits z.cps.toList/\z.cps.toList≠[]/\z.length<=9/\1<=z.length/\(z.length=1\/∃c r,z.cps.toList=c::r/\49<=c):=by
 unfold isNum at h
 rw[Bool.and_eq_true,Bool.and_eq_true] at h
 obtain⟨h1,h2,h3⟩:=h
 have hl:=of_decide_eq_true h1
 have hd':NumText.AllDigits z.cps.toList:=fun c hc=>by
  have:=made_mem h2 c hc
  have hf:∀d∈FIG.cps.toList,48<=d/\d<=57:=by decide +kernel
  exact hf c this
 have hne:z.cps.toList≠[]:=fun e=>by
  have:=cps_len z
  rw[e] at this
  simp at this
  omega
 refine⟨hd',hne,hl.2,hl.1,?_⟩
 rw[Bool.or_eq_true] at h3
 rcases h3 with q|q
 ·have:=of_decide_eq_true q
  rw[this]
  exact .inl (by decide +kernel)
 ·refine .inr ?_
  obtain⟨c,r,e⟩:∃c r,z.cps.toList=c::r:=by
   cases hz:z.cps.toList with
   |nil=>exact absurd hz hne
   |cons c r=>exact⟨c,r,rfl⟩
  refine⟨c,r,e,?_⟩
  have hc:=hd' c (by rw[e];exact List.mem_cons_self)
  have hne0:c≠48:=fun z0=>by
   have hh:hd z=48:=by
    unfold hd
    rw[e,z0]
    rfl
   rw[hh] at q
   have:(⟨#[48]⟩:Str)=Str.ofString "0":=by decide +kernel
   rw[decide_eq_true this] at q
   cases q
  omega
theorem num_int {z:Str}(h:isNum z=true):intText? z=some ((valN z:Nat):Int):=by
 obtain⟨h1,h2,h3,_⟩:=num_digits h
 exact intText_digits h1 h2 (by omega)
theorem num_str {z:Str}(h:isNum z=true):Str.ofString (toString ((valN z:Nat):Int))=z:=by
 obtain⟨h1,h2,h3,h4,h5⟩:=num_digits h
 have hl:=cps_len z
 have ht:=NumText.toDigits_digitsVal (z.length-1) z.cps.toList (by omega) h1 (by
  rcases h5 with q|q
  ·exact .inl (by omega)
  ·exact .inr q)
 have e1:toString ((valN z:Nat):Int)=String.ofList (z.cps.toList.map Char.ofNat):=by
  show(valN z).repr=_
  unfold Nat.repr
  rw[<- ht]
  rfl
 rw[e1]
 refine Str.ext' ?_
 rw[Str.ofString_eq_toList]
 apply Array.ext'
 simp
 have:∀l:List Nat,(∀c∈l,48<=c/\c<=57)->l.map (Char.toNat ∘ Char.ofNat)=l:=by
  intro l hl
  induction l with
  |nil=>rfl
  |cons c l ih=>
   rw[List.map_cons,ih fun d hd=>hl d (List.mem_cons_of_mem _ hd)]
   have hc:=hl c List.mem_cons_self
   have hk:∀d,d<58->(Char.ofNat d).toNat=d:=by decide
   show(Char.ofNat c).toNat::l=_
   rw[hk c (by omega)]
 exact this _ h1
end SL
namespace QL
open PySem L2
inductive Kw where
 |n (k:Nk)|w|q
def Kw.str:Kw->Str
 |.n k=>k.str | .w=>Str.ofString "word" | .q=>Str.ofString "question"
def kwOf:Kd->List Kw
 |.row=>[.n .le] | .wit=>[.n .le,.n .ga,.w]
 |.beh=>[.n .le,.n .ga,.n .le,.n .ga,.n .co] | .ahd=>[.n .le,.n .ga,.n .le,.n .ga,.n .co]
 |.tim=>[.n .co,.n .co,.q] | .bot=>[.q,.q] | .eit=>[.q,.q] | .non=>[.q]
theorem kinds_kw (k:Kd):kindsOf k=(kwOf k).map Kw.str:=by cases k<;>rfl
def kdT:List (Str×Kd):=[(Str.ofString "row",.row),(Str.ofString "with",.wit),(Str.ofString "behind",.beh),(Str.ofString "ahead",.ahd),(Str.ofString "times",.tim),(Str.ofString "both",.bot),(Str.ofString "either",.eit),(Str.ofString "not",.non)]
def kdOf (w:Str):Option Kd:=(kdT.find? fun kv=>decide (kv.1=w)).map (·.2)
theorem find_map {α β:Type}(f:α->β)(p:β->Bool):∀l:List α,(l.map f).find? p=(l.find? fun x=>p (f x)).map f
 | []=>rfl
 |x::l=>by
  rw[List.map_cons,List.find?_cons,List.find?_cons,find_map f p l]
  cases p (f x)<;>rfl
theorem kinds_map (as:Kd->Addr):kindsT as=kdT.map fun kv=>(kv.1,V.ref (as kv.2)):=rfl
theorem kd_val (as:Kd->Addr)(w:Str):valV (kindsT as) w=(kdOf w).map fun k=>V.ref (as k):=by
 unfold valV kdOf
 rw[kinds_map,find_map,Option.map_map,Option.map_map]
 rfl
theorem kd_word {w:Str}{k:Kd}(h:kdOf w=some k):(w,k)∈kdT:=by
 unfold kdOf at h
 obtain⟨x,hx,rfl⟩:=Option.map_eq_some_iff.mp h
 have h1:=List.find?_some hx
 have h2:=List.mem_of_find?_eq_some hx
 rw[<- of_decide_eq_true h1]
 exact h2
def kdS:Kd->Str
 |.row=>Str.ofString "row" | .wit=>Str.ofString "with" | .beh=>Str.ofString "behind" | .ahd=>Str.ofString "ahead"
 |.tim=>Str.ofString "times" | .bot=>Str.ofString "both" | .eit=>Str.ofString "either" | .non=>Str.ofString "not"
theorem kd_str {w:Str}{k:Kd}(h:kdOf w=some k):w=kdS k:=by
 have:=kd_word h
 unfold kdT at this
 simp only[List.mem_cons,List.not_mem_nil,or_false,Prod.mk.injEq] at this
 rcases this with⟨rfl,rfl⟩|⟨rfl,rfl⟩|⟨rfl,rfl⟩|⟨rfl,rfl⟩|⟨rfl,rfl⟩|⟨rfl,rfl⟩|⟨rfl,rfl⟩|⟨rfl,rfl⟩<;>rfl
theorem kd_tim {w:Str}{k:Kd}(h:kdOf w=some k):decide (V.str w=V.str (Str.ofString "times"))=decide (k=.tim):=by
 rw[kd_str h]
 cases k<;>decide +kernel
def valB:Kw->Str->Option Pa
 |.n k,y=>if SL.isNum y=true/\k.lo<=((SL.valN y:Nat):Int)/\((SL.valN y:Nat):Int)<=k.hi then some (.num k ((SL.valN y:Nat):Int)) else none
 |.w,y=>if (SL.sortM y).isSome=true then some (.wrd y) else none
 |.q,_=>none
def pcM (ps:List Str)(i:Nat):Option Str:=if i=ps.length\/i=40 then none else ps[i]?
def ptM (q:Nat->Bool->Except Nat Nat)(ps:List Str)(kw:Kw)(i:Nat)(wi:Bool):Except Nat Nat:=match kw with
 |.q=>q i wi
 |kw=>match pcM ps i with
  |none=>.error i
  |some y=>if (valB kw y).isSome=true then .ok (i+1) else .error i
def psM (q:Nat->Bool->Except Nat Nat)(ps:List Str)(wi:Bool):List Kw->Nat->Except Nat Nat
 | [],i=>.ok i
 |kw::r,i=>match ptM q ps kw i wi with
  |.error e=>.error e
  |.ok j=>psM q ps wi r j
def qM (ps:List Str):Nat->Nat->Bool->Except Nat Nat
 |0,i,_=>.error i
 |d+1,i,wi=>match pcM ps i with
  |none=>.error i
  |some w=>match kdOf w with
   |none=>.error i
   |some k=>if wi=true/\k=.tim then .error i else psM (qM ps d) ps (wi||decide (k=.tim)) (kwOf k) (i+1)
theorem pc_lt {ps:List Str}{i:Nat}{y:Str}(hi:i<=40)(h:pcM ps i=some y):i<40/\ps[i]?=some y:=by
 unfold pcM at h
 split at h
 ·cases h
 ·rename_i hn
  exact⟨by omega,h⟩
theorem pt_leB {q:Nat->Bool->Except Nat Nat}{ps:List Str}{wi:Bool}{B:Nat}(hB:∀i y,i<=B->pcM ps i=some y->i<B)(hq:∀i j,i<=B->q i wi=.ok j->i<j/\j<=B){kw:Kw}{i m:Nat}(hi:i<=B)(e:ptM q ps kw i wi=.ok m):i<m/\m<=B:=by
 unfold ptM at e
 cases kw with
 |q=>exact hq i m hi e
 |n k=>
  simp only at e
  cases hp:pcM ps i with
  |none=>rw[hp] at e;cases e
  |some y=>
   rw[hp] at e
   simp only at e
   split at e
   ·cases e
    have:=hB i y hi hp
    omega
   ·cases e
 |w=>
  simp only at e
  cases hp:pcM ps i with
  |none=>rw[hp] at e;cases e
  |some y=>
   rw[hp] at e
   simp only at e
   split at e
   ·cases e
    have:=hB i y hi hp
    omega
   ·cases e
theorem ps_leB {q:Nat->Bool->Except Nat Nat}{ps:List Str}{wi:Bool}{B:Nat}(hB:∀i y,i<=B->pcM ps i=some y->i<B)(hq:∀i j,i<=B->q i wi=.ok j->i<j/\j<=B):∀(r:List Kw) (i j:Nat),i<=B->psM q ps wi r i=.ok j->i<=j/\j<=B
 | [],i,j,hi,h=>by cases h;exact⟨Nat.le_refl _,hi⟩
 |kw::r,i,j,hi,h=>by
  unfold psM at h
  cases e:ptM q ps kw i wi with
  |error x=>rw[e] at h;cases h
  |ok m=>
   rw[e] at h
   have hm:=pt_leB hB hq hi e
   have:=ps_leB hB hq r m j hm.2 h
   omega
theorem q_leB {ps:List Str}{B:Nat}(hB:∀i y,i<=B->pcM ps i=some y->i<B):∀(d i j:Nat) (wi:Bool),i<=B->qM ps d i wi=.ok j->i<j/\j<=B
 |0,i,j,wi,hi,h=>by cases h
 |d+1,i,j,wi,hi,h=>by
  unfold qM at h
  cases hp:pcM ps i with
  |none=>rw[hp] at h;cases h
  |some w=>
   rw[hp] at h
   simp only at h
   cases hk:kdOf w with
   |none=>rw[hk] at h;cases h
   |some k=>
    rw[hk] at h
    simp only at h
    split at h
    ·cases h
    ·have h1:=hB i w hi hp
     have:=ps_leB hB (fun i j hi h=>q_leB hB d i j _ hi h) _ _ _ (by omega) h
     omega
theorem b40 {ps:List Str}:∀i y,i<=40->pcM ps i=some y->i<40:=fun i y hi h=>(pc_lt hi h).1
theorem bLen {ps:List Str}:∀i y,i<=ps.length->pcM ps i=some y->i<ps.length:=fun i y hi h=>by
 unfold pcM at h
 split at h
 ·cases h
 ·rename_i hn
  omega
def Fits:List Kw->List Pa->Prop
 | [],[]=>True
 |.n k::r,.num k' n::ps=>k=k'/\0<=n/\Fits r ps
 |.w::r,.wrd _::ps=>Fits r ps
 |.q::r,.que _::ps=>Fits r ps
 |_,_=>False
theorem Fits.snoc:∀{r:List Kw} {ps:List Pa} {kw:Kw} {pa:Pa},Fits r ps->Fits [kw] [pa]->Fits (r++[kw]) (ps++[pa])
 | [],[],_,_,_,h=>h
 |.n k::r,.num k' n::ps,_,_,⟨a,b,c⟩,h=>⟨a,b,c.snoc h⟩
 |.w::r,.wrd _::ps,_,_,c,h=>Fits.snoc (r:=r) (ps:=ps) c h
 |.q::r,.que _::ps,_,_,c,h=>Fits.snoc (r:=r) (ps:=ps) c h
 | [],_::_,_,_,h,_=>h.elim
 |.n _::_,[],_,_,h,_=>h.elim
 |.w::_,[],_,_,h,_=>h.elim
 |.q::_,[],_,_,h,_=>h.elim
 |.n _::_,.wrd _::_,_,_,h,_=>h.elim
 |.n _::_,.que _::_,_,_,h,_=>h.elim
 |.w::_,.num _ _::_,_,_,h,_=>h.elim
 |.w::_,.que _::_,_,_,h,_=>h.elim
 |.q::_,.num _ _::_,_,_,h,_=>h.elim
 |.q::_,.wrd _::_,_,_,h,_=>h.elim
theorem fit_n {k:Nk}{r:List Kw}{ps:List Pa}(h:Fits (.n k::r) ps):∃(n:Nat) (t:List Pa),ps=.num k (n:Int)::t/\Fits r t:=by
 cases ps with
 |nil=>exact h.elim
 |cons p t=>
  cases p with
  |num k' n=>
   obtain⟨rfl,h0,h2⟩:=h
   exact⟨n.toNat,t,by rw[Int.toNat_of_nonneg h0],h2⟩
  |wrd W=>exact h.elim
  |que q=>exact h.elim
theorem fit_w {r:List Kw}{ps:List Pa}(h:Fits (.w::r) ps):∃W t,ps=.wrd W::t/\Fits r t:=by
 cases ps with
 |nil=>exact h.elim
 |cons p t=>
  cases p with
  |num k' n=>exact h.elim
  |wrd W=>exact⟨W,t,rfl,h⟩
  |que q=>exact h.elim
theorem fit_q {r:List Kw}{ps:List Pa}(h:Fits (.q::r) ps):∃q t,ps=.que q::t/\Fits r t:=by
 cases ps with
 |nil=>exact h.elim
 |cons p t=>
  cases p with
  |num k' n=>exact h.elim
  |wrd W=>exact h.elim
  |que q=>exact⟨q,t,rfl,h⟩
theorem fit_0 {ps:List Pa}(h:Fits [] ps):ps=[]:=by
 cases ps with
 |nil=>rfl
 |cons p t=>exact h.elim
theorem fit_make {k:Kd}{ps:List Pa}(h:Fits (kwOf k) ps):∃q:Qn,q.word=kdS k/\q.parts=ps:=by
 cases k with
 |row=>
  obtain⟨a,t1,rfl,h1⟩:=fit_n h
  obtain rfl:=fit_0 h1
  exact⟨.row a,rfl,rfl⟩
 |wit=>
  obtain⟨a,t1,rfl,h1⟩:=fit_n h
  obtain⟨b,t2,rfl,h2⟩:=fit_n h1
  obtain⟨W,t3,rfl,h3⟩:=fit_w h2
  obtain rfl:=fit_0 h3
  exact⟨.wit a b W,rfl,rfl⟩
 |beh=>
  obtain⟨a,t1,rfl,h1⟩:=fit_n h
  obtain⟨b,t2,rfl,h2⟩:=fit_n h1
  obtain⟨c,t3,rfl,h3⟩:=fit_n h2
  obtain⟨d,t4,rfl,h4⟩:=fit_n h3
  obtain⟨e,t5,rfl,h5⟩:=fit_n h4
  obtain rfl:=fit_0 h5
  exact⟨.beh a b c d e,rfl,rfl⟩
 |ahd=>
  obtain⟨a,t1,rfl,h1⟩:=fit_n h
  obtain⟨b,t2,rfl,h2⟩:=fit_n h1
  obtain⟨c,t3,rfl,h3⟩:=fit_n h2
  obtain⟨d,t4,rfl,h4⟩:=fit_n h3
  obtain⟨e,t5,rfl,h5⟩:=fit_n h4
  obtain rfl:=fit_0 h5
  exact⟨.ahd a b c d e,rfl,rfl⟩
 |tim=>
  obtain⟨a,t1,rfl,h1⟩:=fit_n h
  obtain⟨b,t2,rfl,h2⟩:=fit_n h1
  obtain⟨q,t3,rfl,h3⟩:=fit_q h2
  obtain rfl:=fit_0 h3
  exact⟨.tim a b q,rfl,rfl⟩
 |bot=>
  obtain⟨q,t1,rfl,h1⟩:=fit_q h
  obtain⟨r,t2,rfl,h2⟩:=fit_q h1
  obtain rfl:=fit_0 h2
  exact⟨.bot q r,rfl,rfl⟩
 |eit=>
  obtain⟨q,t1,rfl,h1⟩:=fit_q h
  obtain⟨r,t2,rfl,h2⟩:=fit_q h1
  obtain rfl:=fit_0 h2
  exact⟨.eit q r,rfl,rfl⟩
 |non=>
  obtain⟨q,t1,rfl,h1⟩:=fit_q h
  obtain rfl:=fit_0 h1
  exact⟨.non q,rfl,rfl⟩
end QL
namespace SL
open PySem L2
theorem sort_num_iff {z:Str}:sortM z=some .num↔isNum z=true:=by
 constructor
 ·intro h
  unfold sortM at h
  split at h
  ·assumption
  ·split at h
   ·cases h
   ·split at h
    ·cases h
    ·split at h<;>cases h
 ·exact sort_isNum
theorem vS_num (z:Str):decide (vS (sortM z)=V.str (Str.ofString "number"))=isNum z:=by
 cases hn:isNum z with
 |true=>rw[sort_num_iff.mpr hn];decide +kernel
 |false=>
  refine decide_eq_false fun e=>?_
  have:sortM z≠some .num:=fun q=>by rw[sort_num_iff.mp q] at hn;cases hn
  cases hs:sortM z with
  |none=>rw[hs] at e;cases e
  |some so=>
   rw[hs] at e this
   cases so with
   |num=>exact this rfl
   |nam=>exact absurd e (by decide +kernel)
   |lis=>exact absurd e (by decide +kernel)
   |mar=>exact absurd e (by decide +kernel)
end SL
namespace QL
open PySem L2
def paV:Pa->V
 |.num _ n=>.int n | .wrd W=>.str W | .que _=>.non
def vB:Option Pa->V
 |none=>.non
 |some pa=>paV pa
def spVoX:Sp:=fun vs H Q _=>∃(kw:Kw) (y:Str),kw≠.q/\vs=[.str kw.str,.str y]/\Tx 1000 y/\∀H',Same H H'->Q (vB (valB kw y)) H'
def spPiX (CN:Addr):Sp:=fun vs H Q E=>∃(l:Addr) (i:Nat) (ps:List Str),vs=[.ref l,.int i]/\H l=some (.lst (ps.map V.str))/\ps.length<=1000/\i<=ps.length/\i<=40∧
 (pcM ps i=none->∀d H',Same H H'->H' d=some (.xd [("at",.int (i:Int))])->E (.ref CN) (some d) H')/\∀y,pcM ps i=some y->Q (.str y) H
def TolX (CN:Addr)(H:Hp)(E:XK)(K:Nat->Prop):Except Nat Nat->Prop
 |.error e=>∀d H',Same H H'->H' d=some (.xd [("at",.int (e:Int))])->E (.ref CN) (some d) H'
 |.ok j=>K j
def spPtX (cl:Kd->Addr)(CN:Addr)(d:Nat):Sp:=fun vs H Q E=>∃(kw:Kw) (l:Addr) (i:Nat) (wi:Bool) (ps:List Str),vs=[.str kw.str,.ref l,.int i,.bl wi]/\H l=some (.lst (ps.map V.str))/\ps.length<=1000/\(∀y∈ps,Tx 1000 y)/\i<=ps.length/\i<=40/\41<=i+d∧
 TolX CN H E (fun j=>∀(t:Addr) (pa:Pa) (v:V) (H':Hp),Same H H'->PaVal cl H' pa v->Fits [kw] [pa]->H' t=some (.tup [v,.int j])->Q (.ref t) H') (ptM (qM ps d) ps kw i wi)
def spQtX (cl:Kd->Addr)(CN:Addr)(d:Nat):Sp:=fun vs H Q E=>∃(l:Addr) (i:Nat) (wi:Bool) (ps:List Str),vs=[.ref l,.int i,.bl wi]/\H l=some (.lst (ps.map V.str))/\ps.length<=1000/\(∀y∈ps,Tx 1000 y)/\i<=ps.length/\i<=40/\41<=i+d∧
 TolX CN H E (fun j=>∀(t o:Addr) (q:Qn) (H':Hp),Same H H'->QAt cl H' q o->H' t=some (.tup [.ref o,.int j])->Q (.ref t) H') (qM ps d i wi)
def qoM (ps:List Str):Option Nat:=match qM ps 41 0 false with
 |.error e=>some e
 |.ok j=>if j<ps.length then some j else none
section
variable {P:Program} {w:World} {K:W.Frag} {mg:Str->Option Value} {base:Heap} {cl:Kd->Addr} {CN:Addr}
theorem vacX {k f:Nat}{fd:FuncData}{ps:List Str}{sp:Sp}(h:∀vs H Q E,¬sp vs H Q E):FnOk P w K mg base (CX1 P w) k f fd ps sp:=
 ⟨fun vs H Q E q=>absurd q (h vs H Q E),fun A outer s H args us vs Q E _ _ _ _ q=>absurd q (h vs H Q E)⟩
theorem scXq:FnScope ["self","at"] ["self","at"] (defScope sXq):=.of (by decide +kernel)
theorem ok_xq (F:Fun K "__init__" "NoQuestion.__init__" sXq f fd)(hS:excSet K CN "at"=true):FnOk P w K mg base CX0 1 f fd ["self","at"] (SL.spNi CN):=by
 refine F.ok scXq (fun vs H Q E h=>?_) (fun cdv A outer s H vs Q E hr h=>?_)
 ·obtain⟨a,x,rfl,_⟩:=h
  rfl
 ·obtain⟨a,x,rfl,ha,k⟩:=h
  exact⟨_,pss_one (ps_xfld (pv 0) (pv 1) rfl),_,rfl,_,rfl,a,CN,rfl,ha,hS,fun d hd hn=>k d hd hn⟩
theorem ok_voX {as:Kd->Addr}(F:Fun K "value_of" "value_of" sVo f fd)(T:Txt mg)(TT:TK w K mg aK aL aG as)
  (FS:Fun K "sort_of" "sort_of" SL.sSo fS dS) (bS:Binds K dS ["text"] []) (gS:mg "sort_of"=some (.ref fS)) (GS:FnOk P w K mg base CX0 5 fS dS ["text"] SL.spSo):FnOk P w K mg base CX0 6 f fd ["kind","piece"] spVoX:=by
 refine F.ok scVo (fun vs H Q E h=>?_) (fun cdv A outer s H vs Q E hr h=>?_)
 ·obtain⟨kw,y,_,rfl,_⟩:=h
  rfl
 ·refine⟨_,pss_cons (ps_set (i:=2) scVo.nd rfl (Or.inl rfl) (pe_call GS hr rfl gS FS.kp bS .nil pass0 (pa_cons (pv 1) pa_nil)))
   (pss_cons (ps_if (pt_cmpR op_eq (pv 0) pe_str (nomark _)) (pss_one (ps_ret (pe_ifExp (pt_cmp (pc_isN (pv 2))) pe_non (pv 1)))) pss_nil)
   (pss_cons (ps_if (PW.pt (pw_and (pt_cmpR op_eq (pv 2) pe_str (nomark _)) (pw_and1 (pt_chain op_le op_le (pe_kget (pe_glob (v:=.ref aL) (by rfl) TT.gL rfl) (pv 0) (fun _ _=>rfl)) (pe_callTy call_intT (by rfl) T.int PyProof.Rows.boot_int (pa_cons (pv 1) pa_nil)) (pe_kget (pe_glob (v:=.ref aG) (by rfl) TT.gG rfl) (pv 0) (fun _ _=>rfl))))))
    (pss_one (ps_ret (pe_callTy call_intT (by rfl) T.int PyProof.Rows.boot_int (pa_cons (pv 1) pa_nil)))) pss_nil)
   (pss_one (ps_ret pe_non)))),?_⟩
  obtain⟨kw,y,hq,rfl,ty,k⟩:=h
  refine⟨_,rfl,y,rfl,ty,fun H1 s1=>?_⟩
  have k1:=k H1 s1
  cases kw with
  |q=>exact absurd rfl hq
  |w=>
   refine⟨_,rfl,rfl,_,rfl,iteTK (by show decide (V.str (Str.ofString "word")=V.str (Str.ofString "word"))=true;decide +kernel) ?_⟩
   rw[show valB .w y=if (SL.sortM y).isSome=true then some (.wrd y) else none from rfl] at k1
   cases hs:SL.sortM y with
   |none=>
    rw[hs] at k1
    exact⟨_,rfl,_,rfl,iteT k1⟩
   |some so=>
    rw[hs] at k1
    exact⟨_,rfl,_,rfl,iteF ⟨_,rfl,k1⟩⟩
  |n kk=>
   refine⟨_,rfl,rfl,_,rfl,iteFK (by show decide (V.str kk.str=V.str (Str.ofString "word"))=false;cases kk<;>decide +kernel) ?_⟩
   have hsc:scal (SL.vS (SL.sortM y)) (V.str (Str.ofString "number"))=true:=by cases SL.sortM y<;>rfl
   refine⟨_,rfl,hsc,_,rfl,?_⟩
   rw[show valB (.n kk) y=if SL.isNum y=true/\kk.lo<=((SL.valN y:Nat):Int)/\((SL.valN y:Nat):Int)<=kk.hi then some (.num kk ((SL.valN y:Nat):Int)) else none from rfl] at k1
   cases hn:SL.isNum y with
   |false=>
    rw[if_neg (by rw[hn];simp)] at k1
    exact iteFK (by show decide (SL.vS (SL.sortM y)=V.str (Str.ofString "number"))=false;rw[SL.vS_num,hn]) (iteF k1)
   |true=>
    refine iteTK (by show decide (SL.vS (SL.sortM y)=V.str (Str.ofString "number"))=true;rw[SL.vS_num,hn]) ?_
    have hin:=SL.num_int hn
    have hl6:y.length<=640:=by
     have:=(SL.num_digits hn).2.2.1
     omega
    refine⟨_,rfl,aL,leastT,kk.str,_,rfl,rfl,TT.dL,least_at kk,_,rfl,y,_,rfl,hin,hl6,_,_,rfl,rfl,_,rfl,?_⟩
    by_cases h0:kk.lo<=((SL.valN y:Nat):Int)
    ·rw[decide_eq_true h0]
     refine iteT ?_
     refine⟨_,rfl,aG,greatT,kk.str,_,rfl,rfl,TT.dG,great_at kk,_,_,rfl,rfl,_,rfl,?_⟩
     by_cases h1:((SL.valN y:Nat):Int)<=kk.hi
     ·rw[decide_eq_true h1]
      rw[if_pos ⟨hn,h0,h1⟩] at k1
      exact iteT ⟨_,rfl,y,_,rfl,hin,hl6,k1⟩
     ·rw[decide_eq_false h1]
      rw[if_neg (fun z=>h1 z.2.2)] at k1
      exact iteF k1
    ·rw[decide_eq_false h0]
     rw[if_neg (fun z=>h0 z.2.1)] at k1
     exact iteF ⟨false,rfl,iteF k1⟩
theorem ok_piX {as:Kd->Addr}(F:Fun K "piece_at" "piece_at" sPi f fd)(T:Txt mg)(TT:TK w K mg aK aL aG as)
  (M:MkX K CN fI) (gN:mg "NoQuestion"=some (.ref CN)) (bI:Binds K dI ["self","at"] []) (GI:FnOk P w K mg base CX0 1 fI dI ["self","at"] (SL.spNi CN)) (rz:excRz K CN=true):FnOk P w K mg base (CX1 P w) 3 f fd ["pieces","at"] (spPiX CN):=by
 refine F.okX scPi (fun vs H Q E h=>?_) (fun cdv A outer s H vs Q E hr h=>?_)
 ·obtain⟨l,i,ps,rfl,_⟩:=h
  rfl
 ·obtain⟨l,i,ps,rfl,hL,hz,hi,h40,kE,k⟩:=h
  obtain⟨u,gM,rM⟩:=TT.gM
  refine⟨_,pss_cons (ps_if (PW.pt (pw_or (pt_cmpR op_eq (pv 1) (pe_callB call_len_seq (by rfl) T.len PySem.boot_len (pa_cons (pv 0) pa_nil)) (nomark _)) (pw_or1 (pt_cmpR op_eq (pv 1) (pe_glob (v:=.int 40) (by rfl) gM rM) (nomark _))))) (pss_one (ps_raiseV rfl throwsV_cx (pe_makeX M GI hr rfl gN bI .nil pass0 (pa_cons (pv 1) pa_nil)))) pss_nil)
   (pss_one (ps_ret (pe_ix ix_list (pv 0) (pv 1) (fun _ _=>rfl)))),?_⟩
  refine⟨_,rfl,_,rfl,l,_,rfl,.inl (SqL.of hL),rfl,_,rfl,?_⟩
  by_cases h1:i=ps.length
  ·refine iteTK (decide_eq_true (by rw[List.length_map,h1])) (iteT ?_)
   exact⟨_,rfl,(by show 1<=sizeLine;decide),SL.raiseW rz (kE (by unfold pcM;rw[if_pos (.inl h1)])) H _ (Same.refl H)⟩
  ·have n1:decide (V.int (i:Int)=V.int (((ps.map V.str).length:Nat):Int))=false:=decide_eq_false fun z=>by
    injection z with z
    rw[List.length_map] at z
    omega
   refine iteFK n1 ⟨_,rfl,rfl,_,rfl,?_⟩
   by_cases h2:i=40
   ·refine iteTK (decide_eq_true (by rw[h2];rfl)) ?_
    exact⟨_,rfl,(by show 1<=sizeLine;decide),SL.raiseW rz (kE (by unfold pcM;rw[if_pos (.inr h2)])) H _ (Same.refl H)⟩
   ·refine iteFK (decide_eq_false fun z=>h2 (by injection z with z;omega)) ?_
    have hlt:i<ps.length:=by omega
    have hy:ps[i]?=some ps[i]:=List.getElem?_eq_getElem hlt
    refine⟨_,rfl,_,rfl,l,_,_,_,rfl,rfl,SqL.of hL,atI_nat (by rw[List.getElem?_map,hy];rfl),k _ ?_⟩
    unfold pcM
    rw[if_neg (by omega),hy]
end
end QL
namespace QL
open PySem L2
theorem TolX.imp {CN:Addr}{H:Hp}{E:XK}{K K':Nat->Prop}(h:∀j,K j->K' j):∀{r:Except Nat Nat},TolX CN H E K r->TolX CN H E K' r
 |.error _,q=>q
 |.ok j,q=>h j q
theorem q_none {ps:List Str}{d i:Nat}{wi:Bool}(h:pcM ps i=none):qM ps (d+1) i wi=.error i:=by
 unfold qM
 rw[h]
theorem q_bad {ps:List Str}{d i:Nat}{wi:Bool}{w:Str}(h:pcM ps i=some w)(hb:∀k,kdOf w=some k->wi=true/\k=.tim):qM ps (d+1) i wi=.error i:=by
 unfold qM
 rw[h]
 simp only
 cases hk:kdOf w with
 |none=>rfl
 |some k=>exact if_pos (hb k hk)
theorem q_go {ps:List Str}{d i:Nat}{wi:Bool}{w:Str}{k:Kd}(h:pcM ps i=some w)(hk:kdOf w=some k)(hb:¬(wi=true/\k=.tim)):qM ps (d+1) i wi=psM (qM ps d) ps (wi||decide (k=.tim)) (kwOf k) (i+1):=by
 conv=>lhs;unfold qM
 rw[h]
 simp only
 rw[hk]
 exact if_neg hb
theorem ps_err {q:Nat->Bool->Except Nat Nat}{ps:List Str}{wi:Bool}{kw:Kw}{r:List Kw}{i e:Nat}(h:ptM q ps kw i wi=.error e):psM q ps wi (kw::r) i=.error e:=by
 conv=>lhs;unfold psM
 rw[h]
theorem ps_ok {q:Nat->Bool->Except Nat Nat}{ps:List Str}{wi:Bool}{kw:Kw}{r:List Kw}{i m:Nat}(h:ptM q ps kw i wi=.ok m):psM q ps wi (kw::r) i=psM q ps wi r m:=by
 conv=>lhs;unfold psM
 rw[h]
theorem kw_q {kw:Kw}(h:kw≠.q):decide (V.str kw.str=V.str (Str.ofString "question"))=false:=by
 cases kw with
 |q=>exact absurd rfl h
 |w=>decide +kernel
 |n k=>cases k<;>decide +kernel
section
variable {P:Program} {w:World} {K:W.Frag} {mg:Str->Option Value} {base:Heap} {cl:Kd->Addr} {CN:Addr}
theorem ok_ptX {d:Nat}(F:Fun K "part_at" "part_at" sPt f fd)
  (FP:Fun K "piece_at" "piece_at" sPi fP dP) (bP:Binds K dP ["pieces","at"] []) (gP:mg "piece_at"=some (.ref fP)) (GP:FnOk P w K mg base (CX1 P w) 3 fP dP ["pieces","at"] (spPiX CN))
  (FV:Fun K "value_of" "value_of" sVo fV dV) (bV:Binds K dV ["kind","piece"] []) (gV:mg "value_of"=some (.ref fV)) (GV:FnOk P w K mg base CX0 6 fV dV ["kind","piece"] spVoX)
  (FQ:Fun K "question_at" "question_at" sQt fQ dQ) (bQ:Binds K dQ ["pieces","at","within"] []) (gQ:mg "question_at"=some (.ref fQ)) (GQ:FnOk P w K mg base (CX1 P w) (2*d+7) fQ dQ ["pieces","at","within"] (spQtX cl CN d))
  (M:MkX K CN fI) (gN:mg "NoQuestion"=some (.ref CN)) (bI:Binds K dI ["self","at"] []) (GI:FnOk P w K mg base CX0 1 fI dI ["self","at"] (SL.spNi CN)) (rz:excRz K CN=true):
  FnOk P w K mg base (CX1 P w) (2*d+8) f fd ["kind","pieces","at","within"] (spPtX cl CN d):=by
 refine F.okX (k:=2*d+7) scPt (fun vs H Q E h=>?_) (fun cdv A outer s H vs Q E hr h=>?_)
 ·obtain⟨kw,l,i,wi,ps,rfl,_⟩:=h
  rfl
 ·obtain⟨kw,l,i,wi,ps,rfl,hL,hz,htx,hil,h40,hd,k⟩:=h
  have hr3:Room 3 _:=hr.mono (by omega)
  have hr6:Room 6 _:=hr.mono (by omega)
  have hr2:Room 2 _:=hr.mono (by omega)
  refine⟨_,pss_cons (ps_if (pt_cmpR op_eq (pv 0) pe_str (nomark _)) (pss_one (ps_ret (pe_call GQ hr rfl gQ FQ.kp bQ .nil pass1 (pa_cons (pv 1) (pa_cons (pv 2) (pa_cons (pv 3) pa_nil)))))) pss_nil)
   (pss_cons (ps_set (i:=4) scPt.nd rfl (Or.inl rfl) (pe_call GV hr6 rfl gV FV.kp bV .nil pass0 (pa_cons (pv 0) (pa_cons (pe_call GP hr3 rfl gP FP.kp bP .nil pass1 (pa_cons (pv 1) (pa_cons (pv 2) pa_nil))) pa_nil))))
   (pss_cons (ps_if (pt_cmp (pc_isN (pv 4))) (pss_one (ps_raiseV rfl throwsV_cx (pe_makeX M GI hr2 rfl gN bI .nil pass0 (pa_cons (pv 2) pa_nil)))) pss_nil)
   (pss_one (ps_ret (pe_tup (pa_cons (pv 4) (pa_cons (pe_op op_add (pv 2) pe_int) pa_nil))))))),?_⟩
  have leaf:kw≠.q->ptM (qM ps d) ps kw i wi=(match pcM ps i with
    |none=>.error i
    |some y=>if (valB kw y).isSome=true then .ok (i+1) else .error i):=fun hq=>by
   cases kw with
   |q=>exact absurd rfl hq
   |n k=>rfl
   |w=>rfl
  by_cases hq:kw=.q
  ·subst hq
   refine⟨_,rfl,rfl,_,rfl,iteTK (by show decide (V.str (Str.ofString "question")=V.str (Str.ofString "question"))=true;decide +kernel) ?_⟩
   exact⟨_,rfl,_,rfl,_,rfl,l,i,wi,ps,rfl,hL,hz,htx,hil,h40,hd,k.imp fun j kj t o q H' s1 hqo ht=>kj t (.que q) (.ref o) H' s1 ⟨o,rfl,hqo⟩ True.intro ht⟩
  ·refine⟨_,rfl,rfl,_,rfl,iteFK (kw_q hq) ?_⟩
   have e:=leaf hq
   refine⟨_,rfl,_,rfl,_,rfl,l,i,ps,rfl,hL,hz,hil,h40,fun hp=>?_,fun y hp=>?_⟩
   ·rw[e,hp] at k
    exact k
   ·rw[e,hp] at k
    replace k:TolX CN H E (fun j=>∀(t:Addr) (pa:Pa) (v:V) (H':Hp),Same H H'->PaVal cl H' pa v->Fits [kw] [pa]->H' t=some (.tup [v,.int (j:Int)])->Q (.ref t) H') (if (valB kw y).isSome=true then .ok (i+1) else .error i):=k
    have hy:=htx y (List.mem_of_getElem? (pc_lt h40 hp).2)
    refine⟨kw,y,hq,rfl,hy,fun H1 s1=>?_⟩
    cases hv:valB kw y with
    |none=>
     rw[hv] at k
     refine⟨_,rfl,_,rfl,iteT ?_⟩
     exact⟨_,rfl,(by show 1<=sizeLine;decide),SL.raiseW rz k H1 _ s1⟩
    |some pa=>
     rw[hv] at k
     have hfit:Fits [kw] [pa]/\PaVal cl H1 pa (paV pa)/\paV pa≠.non:=by
      cases kw with
      |q=>exact absurd rfl hq
      |n kk=>
       rw[show valB (.n kk) y=if SL.isNum y=true/\kk.lo<=((SL.valN y:Nat):Int)/\((SL.valN y:Nat):Int)<=kk.hi then some (.num kk ((SL.valN y:Nat):Int)) else none from rfl] at hv
       split at hv
       ·cases hv
        exact⟨⟨rfl,by omega,True.intro⟩,rfl,fun z=>by cases z⟩
       ·cases hv
      |w=>
       rw[show valB .w y=if (SL.sortM y).isSome=true then some (.wrd y) else none from rfl] at hv
       split at hv
       ·cases hv
        exact⟨True.intro,rfl,fun z=>by cases z⟩
       ·cases hv
     obtain⟨hf,hpv,hnn⟩:=hfit
     have k':∀(t:Addr) (pa:Pa) (v:V) (H':Hp),Same H H'->PaVal cl H' pa v->Fits [kw] [pa]->H' t=some (.tup [v,.int ((i+1:Nat):Int)])->Q (.ref t) H':=k
     refine⟨_,rfl,_,rfl,iteFK (decide_eq_false hnn) ?_⟩
     refine⟨_,rfl,_,rfl,_,_,rfl,rfl,(by show 2<=sizeLine;decide),fun t ht=>?_⟩
     have s2:Same H1 (upd H1 t (.tup [paV pa,.int ((i:Int)+1)])):=(Same.refl H1).upd_free ht
     exact k' t pa (paV pa) _ (s1.trans s2) (hpv.same s2) hf upd_same
theorem ok_qtX {as:Kd->Addr}(F:Fun K "question_at" "question_at" sQt f fd)(bF:Binds K fd ["pieces","at","within"] [])(gF:mg "question_at"=some (.ref f))(TT:TK w K mg aK aL aG as)
  (FP:Fun K "piece_at" "piece_at" sPi fP dP) (bP:Binds K dP ["pieces","at"] []) (gP:mg "piece_at"=some (.ref fP)) (GP:FnOk P w K mg base (CX1 P w) 3 fP dP ["pieces","at"] (spPiX CN))
  (FV:Fun K "value_of" "value_of" sVo fV dV) (bV:Binds K dV ["kind","piece"] []) (gV:mg "value_of"=some (.ref fV)) (GV:FnOk P w K mg base CX0 6 fV dV ["kind","piece"] spVoX)
  (FA:Fun K "part_at" "part_at" sPt fA dA) (bA:Binds K dA ["kind","pieces","at","within"] []) (gA:mg "part_at"=some (.ref fA))
  (FM:Fun K "made" "made" sMd fM dM) (bM:Binds K dM ["word","parts"] []) (gM:mg "made"=some (.ref fM)) (GM:FnOk P w K mg base CX0 3 fM dM ["word","parts"] (spMd cl))
  (M:MkX K CN fI) (gN:mg "NoQuestion"=some (.ref CN)) (bI:Binds K dI ["self","at"] []) (GI:FnOk P w K mg base CX0 1 fI dI ["self","at"] (SL.spNi CN)) (rz:excRz K CN=true):
  ∀d:Nat,FnOk P w K mg base (CX1 P w) (2*d+7) f fd ["pieces","at","within"] (spQtX cl CN d)
 |0=>vacX fun vs H Q E h=>by
  obtain⟨l,i,wi,ps,_,_,_,_,_,h40,hd,_⟩:=h
  omega
 |d+1=>by
  have GQ:FnOk P w K mg base (CX1 P w) (2*d+7) f fd ["pieces","at","within"] (spQtX cl CN d):=ok_qtX F bF gF TT FP bP gP GP FV bV gV GV FA bA gA FM bM gM GM M gN bI GI rz d
  have GA:FnOk P w K mg base (CX1 P w) (2*d+8) fA dA ["kind","pieces","at","within"] (spPtX cl CN d):=ok_ptX FA FP bP gP GP FV bV gV GV F bF gF GQ M gN bI GI rz
  refine F.okX (k:=2*d+8) scQt (fun vs H Q E h=>?_) (fun cdv A outer s H vs Q E hr h=>?_)
  ·obtain⟨l,i,wi,ps,rfl,_⟩:=h
   rfl
  ·obtain⟨l,i,wi,ps,rfl,hL,hz,htx,hil,h40,hd,k⟩:=h
   have hr2:Room 2 _:=hr.mono (by omega)
   have hr3:Room 3 _:=hr.mono (by omega)
   refine⟨_,pss_cons (ps_set (i:=3) scQt.nd rfl (Or.inl rfl) (pe_call GP hr3 rfl gP FP.kp bP .nil pass1 (pa_cons (pv 0) (pa_cons (pv 1) pa_nil))))
    (pss_cons (ps_if (pt_cut (PW.pt (pw_or (pt_cmp (pc_knotin (pv 3) (pe_glob (v:=.ref aK) (by rfl) TT.gK rfl))) (pw_or1 (PW.pt (pw_and (pt_val (pv 2)) (pw_and1 (pt_cmpR op_eq (pv 3) pe_str (nomark _))))))))) (pss_one (ps_raiseV rfl throwsV_cx (pe_makeX M GI hr2 rfl gN bI .nil pass0 (pa_cons (pv 1) pa_nil)))) pss_nil)
    (pss_cons (ps_set (i:=4) scQt.nd rfl (Or.inl rfl) (pe_lst pa_nil))
    (pss_cons (ps_set (i:=5) scQt.nd rfl (Or.inl rfl) (pe_op op_add (pv 1) pe_int))
    (pss_cons (ps_for PassesOwn.leaving rfl (pi_tup (pe_kget (pe_glob (v:=.ref aK) (by rfl) TT.gK rfl) (pv 3) (fun _ _=>rfl))) (pg_name (i:=6) scQt.nd rfl (Or.inl rfl))
     (pss_cons (ps_cut (ps_set (i:=7) scQt.nd rfl (Or.inl rfl) (pe_call GA hr rfl gA FA.kp bA .nil pass1 (pa_cons (pv 6) (pa_cons (pv 0) (pa_cons (pv 5) (pa_cons (pe_or (pv 2) (pe_one (pe_cmpR op_eq (pv 3) pe_str (nomark _)))) pa_nil)))))))
     (pss_cons (ps_expr (pe_bm PySem.F.plainAttrs_list PySem.F.slot_list_append PySem.F.type_list_append mt_append (pv 4) (pa_cons (pe_ix ix_tup (pv 7) pe_int (fun _ _=>rfl)) pa_nil)))
     (pss_one (ps_set (i:=5) scQt.nd rfl (Or.inl rfl) (pe_ix ix_tup (pv 7) pe_int (fun _ _=>rfl)))))))
    (pss_one (ps_ret (pe_tup (pa_cons (pe_call GM hr3 rfl gM FM.kp bM .nil pass0 (pa_cons (pv 3) (pa_cons (pv 4) pa_nil))) (pa_cons (pv 5) pa_nil))))))))),?_⟩
   refine⟨_,rfl,_,rfl,l,i,ps,rfl,hL,hz,hil,h40,fun hp=>?_,fun wd hp=>?_⟩
   ·rw[q_none hp] at k
    exact k
   have hlt:=b40 i wd h40 hp
   have hln:=bLen i wd hil hp
   refine⟨fun b' H'=>H'=H/\(b'=true->∀k,kdOf wd=some k->wi=true/\k=.tim)/\(b'=false->∃k,kdOf wd=some k/\¬(wi=true/\k=.tim)),?_,?_⟩
   ·refine⟨_,rfl,aK,kindsT as,wd,rfl,rfl,TT.dK,_,rfl,?_⟩
    rw[kd_val]
    cases hk:kdOf wd with
    |none=>exact iteT ⟨rfl,(fun _ k e=>by cases e),fun z=>by cases z⟩
    |some kk=>
     refine iteF ?_
     cases wi with
     |false=>exact⟨_,rfl,false,rfl,iteF ⟨rfl,(fun z=>by cases z),fun _=>⟨kk,rfl,fun z=>by cases z.1⟩⟩⟩
     |true=>
      refine⟨_,rfl,true,rfl,iteT ⟨_,rfl,rfl,_,rfl,?_⟩⟩
      have ed:=kd_tim hk
      refine⟨rfl,fun z k' ek=>?_,fun z=>⟨kk,rfl,fun q=>?_⟩⟩
      ·cases ek
       rw[ed] at z
       exact⟨rfl,of_decide_eq_true z⟩
      ·rw[ed,decide_eq_true q.2] at z
       cases z
   rintro b' H' ⟨rfl,hb1,hb2⟩
   cases b' with
   |true=>
    rw[q_bad hp (hb1 rfl)] at k
    refine iteT ?_
    exact⟨_,rfl,(by show 1<=sizeLine;decide),SL.raiseW rz k H' _ (Same.refl H')⟩
   |false=>
   obtain⟨kk,hk,hnt⟩:=hb2 rfl
   rw[q_go hp hk hnt] at k
   refine iteF ?_
   refine⟨(by show 0<=sizeLine;decide),fun lp hlp=>?_⟩
   have s1:Same H' (upd H' lp (.lst [])):=(Same.refl H').upd_free hlp
   refine⟨_,rfl,_,_,rfl,rfl,?_⟩
   refine⟨_,rfl,aK,kindsT as,wd,_,rfl,rfl,TT.dK,(by rw[kd_val,hk];rfl),as kk,rfl,?_⟩
   have sq:∀H3:Hp,SqT K H3 (as kk) (((kwOf kk).map Kw.str).map V.str):=fun H3=>by
    rw[<- kinds_kw]
    exact .inr (TT.tup kk)
   refine⟨⟨_,sq _⟩,?_⟩
   have hwi:(wi||decide (V.str wd=V.str (Str.ofString "times")))=(wi||decide (kk=.tim)):=by rw[kd_tim hk]
   refine for_tup (K:=K) (a:=as kk) (xs:=((kwOf kk).map Kw.str).map V.str) (fun j σ H3=>∃(us:List V) (pas:List Pa) (pos:Nat) (kd td:Option V),Same H' H3/\H3 lp=some (.lst us)/\ValAt cl H3 pas us/\Fits ((kwOf kk).take j) pas/\i+1<=pos/\pos<=40/\pos<=ps.length/\us.length<=j∧
     psM (qM ps d) ps (wi||decide (kk=.tim)) ((kwOf kk).drop j) pos=psM (qM ps d) ps (wi||decide (kk=.tim)) (kwOf kk) (i+1)∧
     σ=[some (.ref l),some (.int i),some (.bl wi),some (.str wd),some (.ref lp),some (.int (pos:Int)),kd,td])
    ⟨[],[],i+1,none,none,s1,upd_same,.nil,True.intro,Nat.le_refl _,by omega,by omega,Nat.le_refl _,rfl,rfl⟩ (fun j σ H3 _ _=>sq H3) ?_ ?_
   ·rintro j x σ H3 hx ⟨us,pas,pos,kd,td,s3,hLp,hv,hfit,hp1,hp2,hp3,hul,hres,rfl⟩
    rw[List.getElem?_map,List.getElem?_map] at hx
    cases hkw:(kwOf kk)[j]? with
    |none=>rw[hkw] at hx;cases hx
    |some kw=>
     rw[hkw] at hx
     cases hx
     have hj:=(List.getElem?_eq_some_iff.mp hkw).1
     have hdr:(kwOf kk).drop j=kw::(kwOf kk).drop (j+1):=by
      rw[List.drop_eq_getElem_cons hj,(List.getElem?_eq_some_iff.mp hkw).2]
     rw[hdr] at hres
     have hk5:(kwOf kk).length<=5:=by cases kk<;>decide
     have tkj:(kwOf kk).take (j+1)=(kwOf kk).take j++[kw]:=by rw[List.take_add_one,hkw];rfl
     have tol:∀(b:Bool),b=(wi||decide (kk=.tim))->∀K2:Nat->Prop,(∀m,ptM (qM ps d) ps kw pos (wi||decide (kk=.tim))=.ok m->K2 m)->TolX CN H3 E K2 (ptM (qM ps d) ps kw pos b):=by
      rintro b rfl K2 hK2
      cases hpt:ptM (qM ps d) ps kw pos (wi||decide (kk=.tim)) with
      |error e=>
       rw[<- hres,ps_err hpt] at k
       exact fun d' H4 s4 hd4=>k d' H4 (s3.trans s4) hd4
      |ok m=>exact hK2 m hpt
     refine⟨fun σ' H4=>∃(m:Nat) (t:Addr) (pa:Pa) (v:V),ptM (qM ps d) ps kw pos (wi||decide (kk=.tim))=.ok m/\Same H3 H4/\PaVal cl H4 pa v/\Fits [kw] [pa]/\H4 t=some (.tup [v,.int (m:Int)])∧
      σ'=[some (.ref l),some (.int i),some (.bl wi),some (.str wd),some (.ref lp),some (.int (pos:Int)),some (.str kw.str),some (.ref t)],?_,?_⟩
     ·refine⟨_,rfl,_,rfl,_,rfl,_,rfl,wi,rfl,?_⟩
      by_cases hw:wi=true
      ·exact iteTK hw ⟨kw,l,pos,_,ps,rfl,s3 _ _ hL,hz,htx,hp3,hp2,by omega,tol _ (by rw[hw];rfl) _ fun m hpt t pa v H4 s4 h1 h2 h3=>⟨m,t,pa,v,hpt,s4,h1,h2,h3,rfl⟩⟩
      ·have hw':wi=false:=by simpa using hw
       exact iteFK hw' ⟨_,rfl,rfl,kw,l,pos,_,ps,rfl,s3 _ _ hL,hz,htx,hp3,hp2,by omega,tol _ (by rw[<- hwi,hw',Bool.false_or]) _ fun m hpt t pa v H4 s4 h1 h2 h3=>⟨m,t,pa,v,hpt,s4,h1,h2,h3,rfl⟩⟩
     rintro σ' H4 ⟨m,t,pa,v,hpt,s4,hv4,hf4,ht,rfl⟩
     have hB1:=pt_leB (q:=qM ps d) b40 (fun i j hi h=>q_leB b40 d i j _ hi h) hp2 hpt
     have hB2:=pt_leB (q:=qM ps d) bLen (fun i j hi h=>q_leB bLen d i j _ hi h) hp3 hpt
     have hL4:=s4 _ _ hLp
     refine⟨_,rfl,.inl ⟨rfl,_,SqL.of hL4⟩,_,rfl,t,_,_,_,rfl,rfl,SqT.of ht,rfl,lp,us,v,rfl,rfl,hL4,small1000 (by omega),?_⟩
     have qs:=QSame.upd (vs:=us++[v]) hL4
     refine⟨_,rfl,t,_,_,_,rfl,rfl,SqT.of (qs.1 _ _ ht),rfl,us++[v],pas++[pa],m,some (.str kw.str),some (.ref t),(s3.trans s4).upd_free hlp,upd_same,((hv.same s4).snoc hv4).qs qs,?_,by omega,hB1.2,hB2.2,by rw[List.length_append];show us.length+1<=j+1;omega,?_,rfl⟩
     ·rw[tkj]
      exact hfit.snoc hf4
     ·rw[<- hres,ps_ok hpt]
   ·rintro σ H3 ⟨us,pas,pos,kd,td,s3,hLp,hv,hfit,hp1,hp2,hp3,hul,hres,rfl⟩
    have el:(((kwOf kk).map Kw.str).map V.str).length=(kwOf kk).length:=by rw[List.length_map,List.length_map]
    rw[el,List.take_length] at hfit
    rw[el,List.drop_length] at hres
    rw[<- hres] at k
    have k':∀(t o:Addr) (q:Qn) (H4:Hp),Same H' H4->QAt cl H4 q o->H4 t=some (.tup [.ref o,.int (pos:Int)])->Q (.ref t) H4:=k
    obtain⟨q,hqw,hqp⟩:=fit_make hfit
    refine⟨_,rfl,_,rfl,wd,lp,q,us,rfl,(kd_str hk).trans hqw.symm,hLp,by rw[hqp];exact hv,fun o H4 s4 hq=>?_⟩
    refine⟨_,rfl,(by show 2<=sizeLine;decide),fun t ht=>?_⟩
    have s5:Same H4 (upd H4 t (.tup [.ref o,.int (pos:Int)])):=(Same.refl H4).upd_free ht
    exact k' t o q _ ((s3.trans s4).trans s5) (QAt.same s5 hq) upd_same
end
end QL
namespace QL
open PySem L2
def spQoY (cl:Kd->Addr)(CN:Addr):Sp:=fun vs H Q E=>∃z:Str,vs=[.str z]/\z.length<=90000/\(Txt.split z (Str.ofString " ")).length<=1000/\(∀y∈Txt.split z (Str.ofString " "),Tx 1000 y)∧
 (∀e,qoM (Txt.split z (Str.ofString " "))=some e->∀d H',Same H H'->H' d=some (.xd [("at",.int (e:Int))])->E (.ref CN) (some d) H')∧
 (qoM (Txt.split z (Str.ofString " "))=none->∀(o:Addr) (q:Qn) (H':Hp),Same H H'->QAt cl H' q o->Q (.ref o) H')
section
variable {P:Program} {w:World} {K:W.Frag} {mg:Str->Option Value} {base:Heap} {cl:Kd->Addr} {CN:Addr}
theorem ok_qoX (F:Fun K "question_of" "question_of" sQo f fd)(T:Txt mg)
  (FQ:Fun K "question_at" "question_at" sQt fQ dQ) (bQ:Binds K dQ ["pieces","at","within"] []) (gQ:mg "question_at"=some (.ref fQ)) (GQ:FnOk P w K mg base (CX1 P w) 89 fQ dQ ["pieces","at","within"] (spQtX cl CN 41))
  (M:MkX K CN fI) (gN:mg "NoQuestion"=some (.ref CN)) (bI:Binds K dI ["self","at"] []) (GI:FnOk P w K mg base CX0 1 fI dI ["self","at"] (SL.spNi CN)) (rz:excRz K CN=true):
  FnOk P w K mg base (CX1 P w) 90 f fd ["text"] (spQoY cl CN):=by
 refine F.okX scQo (fun vs H Q E h=>?_) (fun cdv A outer s H vs Q E hr h=>?_)
 ·obtain⟨z,rfl,_⟩:=h
  rfl
 ·obtain⟨z,rfl,hzl,hpl,htx,kE,k⟩:=h
  have hr2:Room 2 _:=hr.mono (by decide)
  refine⟨_,pss_cons (ps_set (i:=1) scQo.nd rfl (Or.inl rfl) (pe_bm PySem.F.plainAttrs_str PySem.F.slot_str_split PySem.F.type_str_split mt_split (pv 0) (pa_cons pe_str pa_nil)))
   (pss_cons (ps_set (i:=2) scQo.nd rfl (Or.inl rfl) (pe_call GQ hr rfl gQ FQ.kp bQ .nil pass1 (pa_cons (pv 1) (pa_cons pe_int (pa_cons pe_bl pa_nil)))))
   (pss_cons (ps_if (pt_cmpR op_lt (pe_ix ix_tup (pv 2) pe_int (fun _ _=>rfl)) (pe_callB call_len_seq (by rfl) T.len PySem.boot_len (pa_cons (pv 1) pa_nil)) (nomark _)) (pss_one (ps_raiseV rfl throwsV_cx (pe_makeX M GI hr2 rfl gN bI .nil pass0 (pa_cons (pe_ix ix_tup (pv 2) pe_int (fun _ _=>rfl)) pa_nil)))) pss_nil)
   (pss_one (ps_ret (pe_ix ix_tup (pv 2) pe_int (fun _ _=>rfl)))))),?_⟩
  have l2:=parts_len z (Str.ofString " ")
  generalize hps:Txt.split z (Str.ofString " ")=ps at hpl htx kE k l2
  refine⟨_,rfl,rfl,z,Str.ofString " ",rfl,rfl,rfl,Nat.le_of_lt (small9 (by omega)),Nat.le_of_lt (small9 (by omega)),by rw[hps];exact Nat.le_of_lt (small9 (by omega)),fun l hl=>?_⟩
  rw[hps]
  have s1:Same H (upd H l (.lst (ps.map V.str))):=(Same.refl H).upd_free hl
  have g1:upd H l (.lst (ps.map V.str)) l=some (.lst (ps.map V.str)):=upd_same
  generalize upd H l (.lst (ps.map V.str))=H1 at s1 g1
  refine⟨_,rfl,l,0,false,ps,rfl,g1,hpl,htx,Nat.zero_le _,Nat.zero_le _,Nat.le_refl _,?_⟩
  unfold qoM at kE k
  cases hq:qM ps 41 0 false with
  |error e=>
   rw[hq] at kE
   exact fun d H2 s2 hd=>kE e rfl d H2 (s1.trans s2) hd
  |ok j=>
   rw[hq] at kE k
   intro t o q H2 s2 hqo ht
   refine⟨_,rfl,t,_,_,_,rfl,rfl,SqT.of ht,rfl,_,rfl,l,_,rfl,.inl (SqL.of (s2 _ _ g1)),_,_,rfl,rfl,_,rfl,?_⟩
   rw[List.length_map]
   by_cases hj:j<ps.length
   ·refine iteTK (decide_eq_true (by omega)) ?_
    exact⟨_,rfl,t,_,_,_,rfl,rfl,SqT.of ht,rfl,(by show 1<=sizeLine;decide),SL.raiseW rz (kE j (if_pos hj)) H2 _ (s1.trans s2)⟩
   ·refine iteFK (decide_eq_false (by omega)) ?_
    exact⟨_,rfl,t,_,_,_,rfl,rfl,SqT.of ht,rfl,k (if_neg hj) o q H2 (s1.trans s2) hqo⟩
end
end QL
namespace QL
open PySem L2
inductive Sy where
 |F|I|K|W|Q|R
 deriving DecidableEq
def Sy.str:Sy->Str
 |.F=>Str.ofString "F" | .I=>Str.ofString "I" | .K=>Str.ofString "K" | .W=>Str.ofString "W" | .Q=>Str.ofString "Q" | .R=>Str.ofString "R"
def syOf (wi:Bool):Kw->Sy
 |.n .le=>.F | .n .ga=>.I | .n .co=>.K | .w=>.W | .q=>if wi then .R else .Q
def syB:Sy->Bool
 |.R=>true|_=>false
def wantM (p:Str)(s:Sy):List Sy:=match kdOf p with
 |none=>[]
 |some k=>if syB s=true/\k=.tim then[] else(kwOf k).map (syOf (syB s||decide (k=.tim)))
def goesM (p:Str):Sy->Bool
 |.F=>(valB (.n .le) p).isSome | .I=>(valB (.n .ga) p).isSome | .K=>(valB (.n .co) p).isSome | .W=>(valB .w p).isSome
 |s=>!decide (wantM p s=[])
def askS:Sy->Bool
 |.Q=>true | .R=>true|_=>false
def stM:List Str->Nat->List Sy->Option Nat
 | [],_,[]=>none
 | [],i,_::_=>some i
 |_::_,i,[]=>some i
 |p::ps,i,s::W=>if i=40 then some i else if goesM p s=true then stM ps (i+1) ((if askS s=true then wantM p s else[])++W) else some i
def dueM (ps:List Str):Option Nat:=stM ps 0 [.Q]
theorem st_stop {ps:List Str}{i:Nat}{s:Sy}{W:List Sy}(h:pcM ps i=none)(hi:i<=ps.length):stM (ps.drop i) i (s::W)=some i:=by
 unfold pcM at h
 by_cases h1:i=ps.length
 ·rw[h1,List.drop_length]
  rfl
 ·have hlt:i<ps.length:=by omega
  rw[List.drop_eq_getElem_cons hlt]
  by_cases h2:i=40
  ·unfold stM
   rw[if_pos h2]
  ·rw[if_neg (by omega),List.getElem?_eq_getElem hlt] at h
   cases h
theorem st_go {ps:List Str}{i:Nat}{s:Sy}{W:List Sy}{y:Str}(h:pcM ps i=some y)(hi:i<=ps.length):stM (ps.drop i) i (s::W)=if goesM y s=true then stM (ps.drop (i+1)) (i+1) ((if askS s=true then wantM y s else[])++W) else some i:=by
 have hlt:=bLen i y hi h
 unfold pcM at h
 split at h
 ·cases h
 ·rename_i hn
  rw[List.getElem?_eq_getElem hlt] at h
  cases h
  rw[List.drop_eq_getElem_cons hlt]
  conv=>lhs;unfold stM
  rw[if_neg (by omega)]
theorem sy_ask (wi:Bool):askS (syOf wi .q)=true/\syB (syOf wi .q)=wi:=by cases wi<;>exact⟨rfl,rfl⟩
theorem goes_q (p:Str)(wi:Bool):goesM p (syOf wi .q)=!decide (wantM p (syOf wi .q)=[]):=by cases wi<;>rfl
theorem goes_leaf (p:Str)(wi:Bool){kw:Kw}(h:kw≠.q):goesM p (syOf wi kw)=(valB kw p).isSome/\askS (syOf wi kw)=false:=by
 cases kw with
 |q=>exact absurd rfl h
 |w=>exact⟨rfl,rfl⟩
 |n k=>cases k<;>exact⟨rfl,rfl⟩
theorem pt_leaf {q:Nat->Bool->Except Nat Nat}{ps:List Str}{kw:Kw}{i:Nat}{wi:Bool}(h:kw≠.q):ptM q ps kw i wi=(match pcM ps i with
  |none=>.error i
  |some y=>if (valB kw y).isSome=true then .ok (i+1) else .error i):=by
 cases kw with
 |q=>exact absurd rfl h
 |n k=>rfl
 |w=>rfl
def Agr (ps:List Str)(a:Option Nat)(W:List Sy):Except Nat Nat->Prop
 |.error e=>a=some e
 |.ok j=>a=stM (ps.drop j) j W
theorem st_ps {ps:List Str}{d:Nat}{wi:Bool}(ih:∀(i:Nat) (W:List Sy),i<=40->i<=ps.length->41<=i+d->Agr ps (stM (ps.drop i) i (syOf wi .q::W)) W (qM ps d i wi)):
  ∀(r:List Kw) (i:Nat) (W:List Sy),i<=40->i<=ps.length->41<=i+d->Agr ps (stM (ps.drop i) i (r.map (syOf wi)++W)) W (psM (qM ps d) ps wi r i)
 | [],i,W,_,_,_=>rfl
 |kw::r,i,W,h1,h2,h3=>by
  have step:Agr ps (stM (ps.drop i) i (syOf wi kw::(r.map (syOf wi)++W))) (r.map (syOf wi)++W) (ptM (qM ps d) ps kw i wi):=by
   by_cases hq:kw=.q
   ·subst hq
    exact ih i _ h1 h2 h3
   ·rw[pt_leaf hq]
    cases hp:pcM ps i with
    |none=>exact st_stop hp h2
    |some y=>
     have e:=st_go (s:=syOf wi kw) (W:=r.map (syOf wi)++W) hp h2
     rw[(goes_leaf y wi hq).1,(goes_leaf y wi hq).2,if_neg Bool.false_ne_true,List.nil_append] at e
     show Agr ps _ _ (if (valB kw y).isSome=true then .ok (i+1) else .error i)
     by_cases hv:(valB kw y).isSome=true
     ·rw[if_pos hv]
      rw[if_pos hv] at e
      exact e
     ·rw[if_neg hv]
      rw[if_neg hv] at e
      exact e
  cases hpt:ptM (qM ps d) ps kw i wi with
  |error e=>
   rw[ps_err hpt]
   rw[hpt] at step
   exact step
  |ok m=>
   rw[ps_ok hpt]
   rw[hpt] at step
   have hB1:=pt_leB (q:=qM ps d) b40 (fun i j hi h=>q_leB b40 d i j _ hi h) h1 hpt
   have hB2:=pt_leB (q:=qM ps d) bLen (fun i j hi h=>q_leB bLen d i j _ hi h) h2 hpt
   have rc:=st_ps ih r m W hB1.2 hB2.2 (by omega)
   have step':stM (ps.drop i) i (syOf wi kw::(r.map (syOf wi)++W))=stM (ps.drop m) m (r.map (syOf wi)++W):=step
   show Agr ps (stM (ps.drop i) i (syOf wi kw::(r.map (syOf wi)++W))) W _
   rw[step']
   exact rc
theorem kw_ne (k:Kd):kwOf k≠[]:=by cases k<;>nofun
theorem st_q (ps:List Str):∀(d i:Nat) (wi:Bool) (W:List Sy),i<=40->i<=ps.length->41<=i+d->Agr ps (stM (ps.drop i) i (syOf wi .q::W)) W (qM ps d i wi)
 |0,i,wi,W,h1,h2,h3=>by omega
 |d+1,i,wi,W,h1,h2,h3=>by
  cases hp:pcM ps i with
  |none=>
   rw[q_none hp]
   exact st_stop hp h2
  |some w=>
   have e:=st_go (s:=syOf wi .q) (W:=W) hp h2
   rw[goes_q,(sy_ask wi).1,if_pos rfl] at e
   have hb:=(sy_ask wi).2
   have h5:=b40 i w h1 hp
   have h6:=bLen i w h2 hp
   by_cases hk:∃k,kdOf w=some k/\¬(wi=true/\k=.tim)
   ·obtain⟨k,hk,hn⟩:=hk
    rw[q_go hp hk hn]
    have hw:wantM w (syOf wi .q)=(kwOf k).map (syOf (wi||decide (k=.tim))):=by
     unfold wantM
     rw[hk,hb]
     exact if_neg hn
    rw[hw,decide_eq_false (by intro z;exact kw_ne k (List.map_eq_nil_iff.mp z)),if_pos (by rfl)] at e
    rw[e]
    exact st_ps (fun i W a b c=>st_q ps d i _ W a b c) (kwOf k) (i+1) W (by omega) (by omega) (by omega)
   ·have hbad:∀k,kdOf w=some k->wi=true/\k=.tim:=fun k e=>Decidable.byContradiction fun z=>hk ⟨k,e,z⟩
    rw[q_bad hp hbad]
    have hw:wantM w (syOf wi .q)=[]:=by
     unfold wantM
     cases h7:kdOf w with
     |none=>rfl
     |some k=>
      rw[hb]
      exact if_pos (hbad k h7)
    rw[hw,decide_eq_true rfl] at e
    exact e
theorem due_qo (ps:List Str):dueM ps=qoM ps:=by
 have h:=st_q ps 41 0 false [] (by omega) (by omega) (by omega)
 unfold dueM qoM
 rw[List.drop_zero] at h
 cases hq:qM ps 41 0 false with
 |error e=>
  rw[hq] at h
  exact h
 |ok j=>
  rw[hq] at h
  have h':stM ps 0 [.Q]=stM (ps.drop j) j []:=h
  rw[h']
  have hj:=q_leB bLen 41 0 j false (Nat.zero_le _) hq
  show stM (ps.drop j) j []=if j<ps.length then some j else none
  by_cases hl:j<ps.length
  ·rw[if_pos hl,List.drop_eq_getElem_cons hl]
   rfl
  ·rw[if_neg hl,List.drop_eq_nil_of_le (by omega)]
   rfl
end QL
namespace SL
open PySem L2
theorem st_one (z:Str)(c:Nat):Txt.startswith z ⟨#[c]⟩=decide (z.cps.toList[0]?=some c):=by
 have h:=StrLaws.subAt_one z c 0
 cases hs:Txt.startswith z ⟨#[c]⟩ with
 |true=>
  unfold Txt.startswith at hs
  obtain⟨a,b⟩:=Bool.and_eq_true_iff.mp hs
  exact(decide_eq_true (h.mp ⟨of_decide_eq_true a,b⟩)).symm
 |false=>
  refine(decide_eq_false fun e=>?_).symm
  obtain⟨a,b⟩:=h.mpr e
  have:Txt.startswith z ⟨#[c]⟩=true:=Bool.and_eq_true_iff.mpr ⟨decide_eq_true a,b⟩
  rw[hs] at this
  cases this
theorem en_one (z:Str)(c:Nat)(h1:1<=z.length):Txt.endswith z ⟨#[c]⟩=decide (z.cps.toList[z.length-1]?=some c):=by
 have h:=StrLaws.subAt_one z c (z.length-1)
 cases hs:Txt.endswith z ⟨#[c]⟩ with
 |true=>
  unfold Txt.endswith at hs
  obtain⟨a,b⟩:=Bool.and_eq_true_iff.mp hs
  exact(decide_eq_true (h.mp ⟨by show z.length-1+1<=z.length;omega,b⟩)).symm
 |false=>
  refine(decide_eq_false fun e=>?_).symm
  obtain⟨a,b⟩:=h.mpr e
  have:Txt.endswith z ⟨#[c]⟩=true:=Bool.and_eq_true_iff.mpr ⟨decide_eq_true (by show 0+1<=z.length;omega),b⟩
  rw[hs] at this
  cases this
theorem sl_first {z:Str}(h:1<=z.length):Txt.slice z none (some 1)=⟨#[hd z]⟩:=by
 have hl:z.cps.toList.length=z.length:=by simp[Str.length]
 have e1:Txt.slice z none (some 1)=⟨((z.cps.toList.drop 0).take (1-0:Int).toNat).toArray⟩:=StrLaws.sliceText_to ⟨by decide,by rw[hl];omega⟩
 rw[e1]
 unfold hd
 cases g:z.cps.toList with
 |nil=>rw[g] at hl;simp at hl;omega
 |cons c r=>rfl
theorem sl_last {z:Str}(h:1<=z.length):∃c,z.cps.toList[z.length-1]?=some c/\Txt.slice z (some (-1)) none=⟨#[c]⟩:=by
 have hl:z.cps.toList.length=z.length:=by simp[Str.length]
 have hlt:z.length-1<z.cps.toList.length:=by omega
 refine⟨z.cps.toList[z.length-1],List.getElem?_eq_getElem hlt,?_⟩
 have e1:Txt.slice z (some (-1)) none=StrLaws.sliceText z (some (-1)) none:=rfl
 have e2:Txt.slice z (some ((z.length-1:Nat):Int)) none=⟨((z.cps.toList.drop (((z.length-1:Nat):Int)).toNat).take ((z.cps.toList.length:Int)-((z.length-1:Nat):Int)).toNat).toArray⟩:=StrLaws.sliceText_from ⟨by omega,by rw[hl];omega⟩
 have e3:Txt.slice z (some (-1)) none=Txt.slice z (some ((z.length-1:Nat):Int)) none:=by
  rw[e1,StrLaws.sliceText_neg_lo _ _ (by decide) (by omega)]
  show StrLaws.sliceText z _ none=StrLaws.sliceText z _ none
  congr 2
  omega
 rw[e3,e2,Int.toNat_natCast,hl]
 have e4:((z.length:Int)-((z.length-1:Nat):Int)).toNat=1:=by omega
 rw[e4,List.drop_eq_getElem_cons hlt]
 rfl
theorem one_str (c:Nat)(s:Str)(d:Nat)(e:s=⟨#[d]⟩):decide ((⟨#[c]⟩:Str)=s)=decide (c=d):=by
 subst e
 by_cases h:c=d
 ·subst h
  rw[decide_eq_true rfl,decide_eq_true rfl]
 ·rw[decide_eq_false h,decide_eq_false fun q=>h (one_inj q)]
def lawItem (z:Str):Bool:=if (!decide (z=Str.ofString "")&&madeM FIG z)=true then decide (z.length<10)&&(!decide ((⟨#[hd z]⟩:Str)=Str.ofString "0")||decide (z=Str.ofString "0")) else decide (z.length<13)&&((!decide (z=Str.ofString "")&&madeM NAM z)&&hasC SMA (hd z))
theorem emp_len (z:Str):decide (z=Str.ofString "")=decide (z.length=0):=by
 refine decide_eq_decide.mpr ⟨fun h=>by rw[h];rfl,fun h=>?_⟩
 refine Str.ext' ?_
 exact Array.eq_empty_of_size_eq_zero h
theorem item_law (z:Str):lawItem z=isItem z:=by
 unfold lawItem isItem isNum isName
 rw[emp_len]
 by_cases h0:z.length=0
 ·rw[decide_eq_true h0,decide_eq_false (show ¬(1<=z.length/\z.length<=9) by omega),decide_eq_false (show ¬(1<=z.length/\z.length<=12) by omega)]
  simp
 ·rw[decide_eq_false h0]
  cases hF:madeM FIG z with
  |true=>
   have hh:=made_hd (by omega) hF
   have hn:hasC SMA (hd z)=false:=by
    have:∀c∈FIG.cps.toList,hasC SMA c=false:=by decide +kernel
    exact this _ hh
   rw[hn]
   rw[if_pos (by rfl)]
   by_cases h9:z.length<=9
   ·rw[decide_eq_true (show z.length<10 by omega),decide_eq_true (show 1<=z.length/\z.length<=9 by omega)]
    simp[Bool.or_comm]
   ·rw[decide_eq_false (show ¬z.length<10 by omega),decide_eq_false (show ¬(1<=z.length/\z.length<=9) by omega)]
    simp
  |false=>
   rw[if_neg (by simp)]
   by_cases h12:z.length<=12
   ·rw[decide_eq_true (show z.length<13 by omega),decide_eq_true (show 1<=z.length/\z.length<=12 by omega)]
    simp[Bool.and_comm]
   ·rw[decide_eq_false (show ¬z.length<13 by omega),decide_eq_false (show ¬(1<=z.length/\z.length<=12) by omega)]
    simp
def itemsM (z:Str):List Str:=Txt.split (Txt.slice z (some 1) (some (-1))) (Str.ofString ",")
def lawWord (z:Str):Bool:=if decide (Txt.slice z none (some 1)=Str.ofString "[")=false then decide (z.length<13)&&(!decide (z=Str.ofString "")&&madeM MAR z)
 else if (!decide (Txt.slice z (some (-1)) none=Str.ofString "]")||decide (z.length<2))=true then false
 else decide (z=Str.ofString "[]")||(decide ((itemsM z).length<5)&&(itemsM z).all isItem)
theorem sort_some (z:Str):(sortM z).isSome=(isNum z||(isName z||(isList z||isMark z))):=by
 unfold sortM
 cases isNum z<;>cases isName z<;>cases isList z<;>cases isMark z<;>rfl
theorem word_law (z:Str):lawWord z=(sortM z).isSome:=by
 rw[sort_some]
 unfold lawWord
 by_cases h0:z.length=0
 ·have hz:z=Str.ofString "":=of_decide_eq_true (by rw[emp_len];exact decide_eq_true h0)
  subst hz
  decide +kernel
 ·have h1:1<=z.length:=by omega
  rw[sl_first h1,one_str _ (Str.ofString "[") 91 rfl]
  have hhead:z.cps.toList[0]?=some (hd z):=by
   unfold hd
   have hl:z.cps.toList.length=z.length:=by simp[Str.length]
   cases g:z.cps.toList with
   |nil=>rw[g] at hl;simp at hl;omega
   |cons c r=>rfl
  have hst:Txt.startswith z (Str.ofString "[")=decide (hd z=91):=by
   show Txt.startswith z ⟨#[91]⟩=_
   rw[st_one,hhead]
   exact decide_eq_decide.mpr ⟨fun e=>Option.some.inj e,fun e=>congrArg some e⟩
  by_cases hb:hd z=91
  ·rw[decide_eq_true hb,if_neg (by simp)]
   have hmem:=hd_mem h1
   rw[hb] at hmem
   have nN:madeM FIG z=false:=by
    cases q:madeM FIG z with
    |false=>rfl
    |true=>exact absurd (made_mem q 91 hmem) (by decide +kernel)
   have nA:madeM NAM z=false:=by
    cases q:madeM NAM z with
    |false=>rfl
    |true=>exact absurd (made_mem q 91 hmem) (by decide +kernel)
   have nM:madeM MAR z=false:=by
    cases q:madeM MAR z with
    |false=>rfl
    |true=>exact absurd (made_mem q 91 hmem) (by decide +kernel)
   have e1:isNum z=false:=by unfold isNum;rw[nN];simp
   have e2:isName z=false:=by unfold isName;rw[nA];simp
   have e3:isMark z=false:=by unfold isMark;rw[nM];simp
   rw[e1,e2,e3,Bool.false_or,Bool.false_or,Bool.or_false]
   obtain⟨c,hc,hsl⟩:=sl_last h1
   have hen:Txt.endswith z (Str.ofString "]")=decide (c=93):=by
    show Txt.endswith z ⟨#[93]⟩=_
    rw[en_one z 93 h1,hc]
    exact decide_eq_decide.mpr ⟨fun e=>Option.some.inj e,fun e=>congrArg some e⟩
   rw[hsl,one_str _ (Str.ofString "]") 93 rfl]
   unfold isList
   rw[hst,decide_eq_true hb,hen,Bool.true_and]
   by_cases hcc:c=93
   ·have h2:2<=z.length:=by
     by_cases q:z.length=1
     ·rw[q] at hc
      rw[hhead] at hc
      have:=Option.some.inj hc
      omega
     ·omega
    rw[decide_eq_true hcc,decide_eq_false (show ¬z.length<2 by omega),if_neg (by simp),Bool.true_and]
    have e5:decide ((itemsM z).length<5)=decide ((itemsM z).length<=4):=decide_eq_decide.mpr (by omega)
    rw[e5]
    rfl
   ·rw[decide_eq_false hcc]
    simp
  ·rw[decide_eq_false hb,if_pos rfl]
   have e4:isList z=false:=by unfold isList;rw[hst,decide_eq_false hb];simp
   rw[e4,Bool.false_or,emp_len,decide_eq_false h0]
   have split:(isNum z||(isName z||isMark z))=(isItem z||isMark z):=by unfold isItem;rw[Bool.or_assoc]
   rw[split]
   by_cases h12:z.length<=12
   ·rw[decide_eq_true (show z.length<13 by omega)]
    cases hM:madeM MAR z with
    |true=>
     cases hI:isItem z with
     |true=>rfl
     |false=>
      have:isMark z=true:=by
       unfold isMark
       rw[decide_eq_true (show 1<=z.length/\z.length<=12 by omega),hM,hI]
       rfl
      rw[this]
      rfl
    |false=>
     have a:isItem z=false:=by
      cases q:isItem z with
      |false=>rfl
      |true=>
       have:=(item_mark q).2.2
       rw[hM] at this
       cases this
     have b:isMark z=false:=by unfold isMark;rw[hM];simp
     rw[a,b]
     rfl
   ·rw[decide_eq_false (show ¬z.length<13 by omega)]
    have a:isItem z=false:=by
     cases q:isItem z with
     |false=>rfl
     |true=>
      have:=(item_mark q).2.1
      omega
    have b:isMark z=false:=by unfold isMark;rw[decide_eq_false (show ¬(1<=z.length/\z.length<=12) by omega)];rfl
    rw[a,b]
    rfl
end SL
namespace QL
open PySem L2
open SL (madeM FIG SMA NAM MAR hasC hd isItem lawItem lawWord itemsM)
theorem decS (a b:Str):decide (V.str a=V.str b)=decide (a=b):=decide_eq_decide.mpr ⟨fun q=>by injection q,fun q=>by rw[q]⟩
theorem all_nilV (S:Str)(l:List Nat):eqsV (((l.filter fun c=>!hasC S c).map fun c=>V.str ⟨#[c]⟩)) []=l.all (hasC S):=by
 induction l with
 |nil=>rfl
 |cons c l ih=>
  rw[List.all_cons]
  cases h:hasC S c with
  |true=>
   rw[List.filter_cons_of_neg (by rw[h];nofun),ih]
   rfl
  |false=>
   rw[List.filter_cons_of_pos (by rw[h];rfl)]
   rfl
def spLm:Sp:=fun vs H Q _=>∃(z S:Str),vs=[.str z,.str S]/\Tx 1000 z/\∀H',Same H H'->Q (.bl (!decide (z=Str.ofString "")&&madeM S z)) H'
def spBo (p:Str->Bool):Sp:=fun vs H Q _=>∃z:Str,vs=[.str z]/\Tx 1000 z/\∀H',Same H H'->Q (.bl (p z)) H'
section
variable {P:Program} {w:World} {K:W.Frag} {mg:Str->Option Value} {base:Heap}
theorem scLm:FnScope ["_law_text_here","_law_signs"] ["_law_text_here","_law_signs"] (defScope sLm):=.of (by decide +kernel)
def scopeLm:Scope:=⟨.function,[(".0",.local),("_law_sign",.local),("_law_signs",.free)],false,false,[]⟩
theorem scLm1:BlkScope (defScope sLm) ["_law_text_here","_law_signs"] ["_law_sign"] ["_law_signs"] [1] scopeLm:=.of (by decide +kernel)
theorem ok_lm (F:Fun K "_law_made_of" "_law_made_of" sLm f fd):FnOk P w K mg base CX0 1 f fd ["_law_text_here","_law_signs"] spLm:=by
 refine F.ok scLm (fun vs H Q E h=>?_) (fun cdv A outer s H vs Q E hr h=>?_)
 ·obtain⟨z,S,rfl,_⟩:=h
  rfl
 ·obtain⟨z,S,rfl,tz,k⟩:=h
  have hu:_<cLine:=Nat.lt_of_le_of_lt (Nat.le_add_right _ 64) hr.units
  have hzl:=SL.len_sm tz (by decide)
  refine⟨_,pss_one (ps_ret (pe_and (pe_cmpR op_ne (pv 0) pe_str (nomark _)) (pe_one (pe_cmpR (op_eqL hu) (pe_lc scLm1 rfl rfl rfl (pi_str (pv 0)) (fun fp C s1 H1=>pg_name (i:=0) scLm1.nd rfl (Or.inl rfl)) (fun fp C s1 H1=>pts_one (pt_cmpR op_notIn_str (pv 0) (pv 1) (by with_unfolding_all rfl))) (fun fp C s1 H1=>pv 0)) (pe_lst pa_nil) (nomark _))))),?_⟩
  refine⟨_,rfl,rfl,!decide (z=Str.ofString ""),by rw[decS],?_⟩
  cases he:decide (z=Str.ofString "") with
  |true=>
   rw[he] at k
   exact iteF (k H (Same.refl H))
  |false=>
  rw[he] at k
  refine iteT ?_
  refine⟨_,rfl,z,1000,rfl,tz,fun D hD=>?_⟩
  refine lc_str (z:=z) (fun j ys H3=>Same H H3/\H3 D=some (.lst ys)/\ys=((z.cps.toList.take j).filter fun c=>!hasC S c).map fun c=>V.str ⟨#[c]⟩) hzl ⟨(Same.refl H).upd_free hD,upd_same,by simp⟩ (fun j ys H3 h=>?_) ?_ ?_
  ·rw[h.2.2,List.length_map]
   refine Nat.le_trans (List.length_filter_le _ _) ?_
   rw[List.length_take]
   exact Nat.min_le_left _ _
  ·rintro j ys H3 c N M hc ⟨u1,u2,rfl⟩ hN hM
   have hc':z.cps.toList[j]?=some c:=by simpa using hc
   refine⟨_,rfl,_,rfl,_,_,rfl,rfl,!hasC S c,by rw[StrLaws.found_one];rfl,?_⟩
   cases hf:hasC S c with
   |false=>
    refine iteT ⟨_,rfl,hN _ H3 u2 ⟨u1.upd_free hD,upd_same,?_⟩⟩
    rw[List.take_add_one,hc',List.filter_append,List.map_append]
    simp[hf]
   |true=>
    refine iteF (hM H3 ⟨u1,u2,?_⟩)
    rw[List.take_add_one,hc',List.filter_append,List.map_append]
    simp[hf]
  ·rintro ys H3 ⟨u1,u2,rfl⟩
   rw[<- SL.cps_len,List.take_length] at u2
   refine⟨(by show 0<=sizeLine;decide),fun l hl=>?_⟩
   have s4:=(Same.refl H3).upd_free (o:=.lst []) hl
   refine⟨D,l,_,_,rfl,rfl,SqL.of (s4 _ _ u2),SqL.of upd_same,?_,rfl,?_⟩
   ·rw[List.all_map]
    exact List.all_eq_true.mpr fun _ _=>rfl
   ·rw[all_nilV]
    exact k _ (u1.trans s4)
theorem scLi:FnScope ["_law_text_here","_law_small"] ["_law_text_here"] (defScope sLi):=.of (by decide +kernel)
theorem nam_cat:Str.ofString "abcdefghijklmnopqrstuvwxyz"++Str.ofString "0123456789"=NAM:=by decide +kernel
theorem ok_li (F:Fun K "_law_is_item" "_law_is_item" sLi f fd)(T:Txt mg)(FM:Fun K "_law_made_of" "_law_made_of" sLm fM fdM)(bM:Binds K fdM ["_law_text_here","_law_signs"] [])(gM:mg "_law_made_of"=some (.ref fM)):FnOk P w K mg base CX0 2 f fd ["_law_text_here"] (spBo isItem):=by
 have GM:FnOk P w K mg base CX0 1 fM fdM ["_law_text_here","_law_signs"] spLm:=ok_lm FM
 refine F.ok scLi (fun vs H Q E h=>?_) (fun cdv A outer s H vs Q E hr h=>?_)
 ·obtain⟨z,rfl,_⟩:=h
  rfl
 ·obtain⟨z,rfl,tz,k⟩:=h
  have hzl:=SL.len_sm tz (by decide)
  refine⟨_,pss_cons (ps_set (i:=1) scLi.nd rfl (Or.inl rfl) pe_str)
   (pss_cons (ps_if (pt_val (pe_call GM hr rfl gM FM.kp bM .nil pass0 (pa_cons (pv 0) (pa_cons pe_str pa_nil)))) (pss_one (ps_ret (pe_and (pe_cmpR op_lt (pe_callB call_len_str (by rfl) T.len PySem.boot_len (pa_cons (pv 0) pa_nil)) pe_int (nomark _)) (pe_one (pe_or (pe_cmpR op_ne (pe_ix ix_str (pv 0) pe_int (fun _ _=>rfl)) pe_str (nomark _)) (pe_one (pe_cmpR op_eq (pv 0) pe_str (nomark _)))))))) pss_nil)
   (pss_one (ps_ret (pe_and (pe_cmpR op_lt (pe_callB call_len_str (by rfl) T.len PySem.boot_len (pa_cons (pv 0) pa_nil)) pe_int (nomark _)) (pe_and (pe_call GM hr rfl gM FM.kp bM .nil pass0 (pa_cons (pv 0) (pa_cons (pe_op op_add_str (pv 1) pe_str) pa_nil))) (pe_one (pe_cmpR op_in_str (pe_ix ix_str (pv 0) pe_int (fun _ _=>rfl)) (pv 1) (by with_unfolding_all rfl)))))))),?_⟩
  rw[show isItem=lawItem from funext fun z=>(SL.item_law z).symm] at k
  refine⟨_,rfl,z,_,rfl,tz,fun H1 s1=>⟨_,rfl,?_⟩⟩
  have k1:=k H1 s1
  unfold lawItem at k1
  rw[show Str.ofString "0123456789"=FIG from rfl]
  cases hF:(!decide (z=Str.ofString "")&&madeM FIG z) with
  |true=>
   rw[if_pos hF] at k1
   refine iteT ⟨_,rfl,z,rfl,hzl,_,_,rfl,rfl,decide (z.length<10),(by show V.bl (decide ((z.length:Int)<10))=_;congr 1;exact decide_eq_decide.mpr (by omega)),?_⟩
   have h1:1<=z.length:=by
    rw[SL.emp_len,Bool.and_eq_true] at hF
    have:=hF.1
    simp at this
    omega
   by_cases h10:z.length<10
   ·rw[decide_eq_true h10,Bool.true_and] at k1
    rw[decide_eq_true h10]
    refine iteT ⟨_,rfl,z,_,_,rfl,rfl,hzl,SL.at0 h1,rfl,!decide ((⟨#[hd z]⟩:Str)=Str.ofString "0"),by rw[decS],?_⟩
    cases ho:decide ((⟨#[hd z]⟩:Str)=Str.ofString "0") with
    |true=>
     rw[ho] at k1
     refine iteF ⟨_,rfl,rfl,?_⟩
     rw[decS]
     exact k1
    |false=>
     rw[ho] at k1
     exact iteT k1
   ·rw[decide_eq_false h10] at k1
    rw[decide_eq_false h10]
    exact iteF k1
  |false=>
   rw[if_neg (by rw[hF];exact Bool.false_ne_true)] at k1
   refine iteF ⟨_,rfl,z,rfl,hzl,_,_,rfl,rfl,decide (z.length<13),(by show V.bl (decide ((z.length:Int)<13))=_;congr 1;exact decide_eq_decide.mpr (by omega)),?_⟩
   by_cases h13:z.length<13
   ·rw[decide_eq_true h13,Bool.true_and] at k1
    rw[decide_eq_true h13]
    refine iteT ⟨_,rfl,_,rfl,_,_,rfl,rfl,(by decide +kernel),z,_,rfl,tz,fun H2 s2=>?_⟩
    have k2:=k H2 (s1.trans s2)
    unfold lawItem at k2
    rw[if_neg (by rw[hF];exact Bool.false_ne_true),decide_eq_true h13,Bool.true_and] at k2
    rw[show Str.ofString "abcdefghijklmnopqrstuvwxyz"++FIG=NAM from nam_cat]
    refine⟨_,rfl,?_⟩
    cases hN:(!decide (z=Str.ofString "")&&madeM NAM z) with
    |true=>
     have h1:1<=z.length:=by
      rw[SL.emp_len,Bool.and_eq_true] at hN
      have:=hN.1
      simp at this
      omega
     rw[hN,Bool.true_and] at k2
     refine iteT ⟨_,rfl,z,_,_,rfl,rfl,hzl,SL.at0 h1,_,rfl,_,_,rfl,rfl,?_⟩
     rw[StrLaws.found_one]
     exact k2
    |false=>
     rw[hN,Bool.false_and] at k2
     exact iteF k2
   ·rw[decide_eq_false h13] at k1
    rw[decide_eq_false h13]
    exact iteF k1
end
end QL
namespace QL
open PySem L2
open SL (madeM FIG SMA NAM MAR hasC hd isItem lawItem lawWord itemsM sortM)
section
variable {P:Program} {w:World} {K:W.Frag} {mg:Str->Option Value} {base:Heap}
abbrev nLw:List Str:=["_law_text_here","_law_signs","_law_items"]
theorem scLw:FnScope nLw ["_law_text_here"] (defScope sLw):=.of (by decide +kernel)
def scopeLw:Scope:=⟨.function,[(".0",.local),("_law_item",.local),("_law_is_item",.globalImplicit)],false,false,[]⟩
theorem scLw1:BlkScope (defScope sLw) nLw ["_law_item"] [] [] scopeLw:=.of (by decide +kernel)
theorem ok_lw (F:Fun K "_law_is_word" "_law_is_word" sLw f fd)(T:Txt mg)(FM:Fun K "_law_made_of" "_law_made_of" sLm fM fdM)(bM:Binds K fdM ["_law_text_here","_law_signs"] [])(gM:mg "_law_made_of"=some (.ref fM))
  (FI:Fun K "_law_is_item" "_law_is_item" sLi fI fdI) (bI:Binds K fdI ["_law_text_here"] []) (gI:mg "_law_is_item"=some (.ref fI)):FnOk P w K mg base CX0 3 f fd ["_law_text_here"] (spBo fun z=>(sortM z).isSome):=by
 have GM:FnOk P w K mg base CX0 1 fM fdM ["_law_text_here","_law_signs"] spLm:=ok_lm FM
 have GI:FnOk P w K mg base CX0 2 fI fdI ["_law_text_here"] (spBo isItem):=ok_li FI T FM bM gM
 refine F.ok scLw (fun vs H Q E h=>?_) (fun cdv A outer s H vs Q E hr h=>?_)
 ·obtain⟨z,rfl,_⟩:=h
  rfl
 ·obtain⟨z,rfl,tz,k⟩:=h
  have hzl:=SL.len_sm tz (by decide)
  have hr1:Room 1 _:=hr.mono (by decide)
  refine⟨_,pss_cons (ps_set (i:=1) scLw.nd rfl (Or.inl rfl) pe_str)
   (pss_cons (ps_if (pt_cmpR op_ne (pe_slice sl_str (pv 0) po_none (po_some pe_int)) pe_str (nomark _)) (pss_one (ps_ret (pe_and (pe_cmpR op_lt (pe_callB call_len_str (by rfl) T.len PySem.boot_len (pa_cons (pv 0) pa_nil)) pe_int (nomark _)) (pe_one (pe_call GM hr1 rfl gM FM.kp bM .nil pass0 (pa_cons (pv 0) (pa_cons (pv 1) pa_nil))))))) pss_nil)
   (pss_cons (ps_if (PW.pt (pw_or (pt_cmpR op_ne (pe_slice sl_str (pv 0) (po_some (pe_un un_neg pe_int)) po_none) pe_str (nomark _)) (pw_or1 (pt_cmpR op_lt (pe_callB call_len_str (by rfl) T.len PySem.boot_len (pa_cons (pv 0) pa_nil)) pe_int (nomark _))))) (pss_one (ps_ret pe_bl)) pss_nil)
   (pss_cons (ps_set (i:=2) scLw.nd rfl (Or.inl rfl) (pe_bm PySem.F.plainAttrs_str PySem.F.slot_str_split PySem.F.type_str_split mt_split (pe_slice sl_str (pv 0) (po_some pe_int) (po_some (pe_un un_neg pe_int))) (pa_cons pe_str pa_nil)))
   (pss_one (ps_ret (pe_or (pe_cmpR op_eq (pv 0) pe_str (nomark _)) (pe_one (pe_and (pe_cmpR op_lt (pe_callB call_len_seq (by rfl) T.len PySem.boot_len (pa_cons (pv 2) pa_nil)) pe_int (nomark _)) (pe_one (pe_callB (call_allB rfl) (by rfl) T.all boot_all (pa_cons (pe_lc scLw1 rfl rfl rfl (pi_list (pv 2)) (fun fp C s1 H1=>pg_name (i:=0) scLw1.nd rfl (Or.inl rfl)) (fun fp C s1 H1=>pts_nil) (fun fp C s1 H1=>pe_call GI hr rfl gI FI.kp bI .nil pass0 (pa_cons (pv 0) pa_nil))) pa_nil))))))))))),?_⟩
  rw[show(fun z=>(sortM z).isSome)=lawWord from funext fun z=>(SL.word_law z).symm] at k
  refine⟨_,rfl,_,rfl,z,rfl,hzl,rfl,!decide (Txt.slice z none (some 1)=Str.ofString "["),by rw[decS],?_⟩
  have k0:=fun H' s'=>k H' s'
  unfold lawWord at k0
  cases hb:decide (Txt.slice z none (some 1)=Str.ofString "[") with
  |false=>
   rw[hb,if_pos rfl] at k0
   refine iteT ⟨_,rfl,z,rfl,hzl,_,_,rfl,rfl,decide (z.length<13),(by show V.bl (decide ((z.length:Int)<13))=_;congr 1;exact decide_eq_decide.mpr (by omega)),?_⟩
   by_cases h13:z.length<13
   ·rw[decide_eq_true h13,Bool.true_and] at k0
    rw[decide_eq_true h13]
    exact iteT ⟨_,rfl,_,rfl,z,MAR,rfl,tz,fun H1 s1=>k0 H1 s1⟩
   ·rw[decide_eq_false h13] at k0
    rw[decide_eq_false h13]
    exact iteF (k0 H (Same.refl H))
  |true=>
   rw[hb,if_neg (by simp)] at k0
   refine iteF ⟨_,rfl,_,rfl,_,rfl,z,rfl,hzl,rfl,!decide (Txt.slice z (some (-1)) none=Str.ofString "]"),by rw[decS],?_⟩
   cases he:decide (Txt.slice z (some (-1)) none=Str.ofString "]") with
   |false=>
    rw[he,if_pos (by rfl)] at k0
    exact iteT (iteT (k0 H (Same.refl H)))
   |true=>
    rw[he] at k0
    refine iteF ⟨_,rfl,z,rfl,hzl,_,_,rfl,rfl,decide (z.length<2),(by show V.bl (decide ((z.length:Int)<2))=_;congr 1;exact decide_eq_decide.mpr (by omega)),?_⟩
    by_cases h2:z.length<2
    ·rw[decide_eq_true h2,if_pos (by rfl)] at k0
     rw[decide_eq_true h2]
     exact iteT (k0 H (Same.refl H))
    ·rw[decide_eq_false h2,if_neg (by simp)] at k0
     rw[decide_eq_false h2]
     refine iteF ?_
     have tsl:Tx 1000 (Txt.slice z (some 1) (some (-1))):=tz.slice _ _
     have l1:=split_len (Txt.slice z (some 1) (some (-1))) (Str.ofString ",")
     have l2:=parts_len (Txt.slice z (some 1) (some (-1))) (Str.ofString ",")
     have l3:=tsl.1
     have big:1002<=sizeLine:=by decide
     refine⟨_,rfl,_,rfl,_,rfl,_,rfl,z,rfl,hzl,rfl,Txt.slice z (some 1) (some (-1)),_,rfl,rfl,rfl,SL.len_sm tsl (by decide),by omega,by omega,fun l hl=>?_⟩
     have tl:∀y∈itemsM z,Tx 1000 y:=fun y hy=>by
      unfold itemsM at hy
      rw[show Str.ofString ","=(⟨#[44]⟩:Str) from rfl,SL.split_spl _ (by decide)] at hy
      exact SL.spl_tx 44 tsl y hy
     have hil:(itemsM z).length<=1002:=by
      show(Txt.split (Txt.slice z (some 1) (some (-1))) (Str.ofString ",")).length<=1002
      omega
     rw[show Txt.split (Txt.slice z (some 1) (some (-1))) (Str.ofString ",")=itemsM z from rfl]
     generalize itemsM z=L at k0 tl hil
     have s1:Same H (upd H l (.lst (L.map V.str))):=(Same.refl H).upd_free hl
     have g1:upd H l (.lst (L.map V.str)) l=some (.lst (L.map V.str)):=upd_same
     generalize upd H l (.lst (L.map V.str))=H1 at s1 g1
     refine⟨_,rfl,rfl,decide (z=Str.ofString "[]"),by rw[decS],?_⟩
     cases hz:decide (z=Str.ofString "[]") with
     |true=>
      rw[hz] at k0
      exact iteT (k0 H1 s1)
     |false=>
      rw[hz,Bool.false_or] at k0
      refine iteF ⟨_,rfl,l,_,rfl,.inl (SqL.of g1),_,_,rfl,rfl,decide (L.length<5),(by show V.bl (decide (((L.map V.str).length:Int)<5))=_;rw[List.length_map];congr 1;exact decide_eq_decide.mpr (by omega)),?_⟩
      by_cases h5:L.length<5
      ·rw[decide_eq_true h5,Bool.true_and] at k0
       rw[decide_eq_true h5]
       refine iteT ⟨_,rfl,l,rfl,⟨_,SqL.of g1⟩,fun D hD=>?_⟩
       refine lc_list (K:=K) (a:=l) (xs:=L.map V.str) (fun i ys H3=>ys=((L.take i).map isItem).map V.bl/\Same H1 H3/\H3 D=some (.lst ys)) (Nat.le_of_lt (small1000 (by rw[List.length_map];omega))) ⟨rfl,(Same.refl H1).upd_free hD,upd_same⟩
        (fun i ys H3 h=>by rw[h.1,List.length_map,List.length_map,List.length_take];exact Nat.min_le_left _ _) (fun i ys H3 h=>SqL.of (h.2.1 _ _ g1)) ?_ ?_
       ·rintro i ys H3 x N M hx ⟨rfl,s3,hD3⟩ hN hM
        rw[List.getElem?_map] at hx
        obtain⟨y,ey,rfl⟩:=Option.map_eq_some_iff.mp hx
        refine⟨_,rfl,y,rfl,tl y (List.mem_of_getElem? ey),fun H4 s4=>?_⟩
        refine hN _ H4 (s4 _ _ hD3) ⟨?_,(s3.trans s4).upd_free hD,upd_same⟩
        rw[List.take_add_one,ey,List.map_append,List.map_append]
        rfl
       ·rintro ys H3 ⟨rfl,s3,hD3⟩
        rw[List.length_map,List.take_length] at hD3
        refine⟨D,L.map isItem,rfl,SqL.of hD3,?_⟩
        rw[List.all_map]
        exact k0 H3 (s1.trans s3)
      ·rw[decide_eq_false h5] at k0
       rw[decide_eq_false h5]
       exact iteF (k0 H1 s1)
end
end QL
namespace QL
open PySem L2
theorem kd_self (k:Kd):kdOf (kdS k)=some k:=by cases k<;>decide +kernel
theorem dk (p:Str)(k:Kd):decide (V.str p=V.str (kdS k))=decide (kdOf p=some k):=decide_eq_decide.mpr ⟨fun e=>by
 injection e with e
 rw[e,kd_self],fun e=>by rw[kd_str e]⟩
theorem strs_atE {K:W.Frag}{H:Hp}:∀zs:List Str,DsAt K H (zs.map V.str) (zs.map PyData.str)
 | []=>.nil
 |z::zs=>.cons (.str z) (strs_atE zs)
theorem any_strE (p:Str):∀zs:List Str,((zs.map PyData.str).any fun d=>PyData.eqv d (.str p))=decide (p∈zs)
 | []=>rfl
 |z::zs=>by
  rw[List.map_cons,List.any_cons,any_strE p zs,PyData.eqv]
  by_cases h:z=p
  ·subst h
   rw[decide_eq_true (List.mem_cons_self),beq_self_eq_true]
   rfl
  ·have hb:(z==p)=false:=beq_eq_false_iff_ne.mpr h
   rw[hb,Bool.false_or]
   refine decide_eq_decide.mpr ⟨fun q=>List.mem_cons_of_mem _ q,fun q=>?_⟩
   rcases List.mem_cons.mp q with e|e
   ·exact absurd e.symm h
   ·exact e
theorem mem2 (p a b:Str):decide (p∈[a,b])=(decide (V.str p=V.str a)||decide (V.str p=V.str b)):=by
 rw[Bool.eq_iff_iff]
 simp
def vSy (ss:List Sy):List V:=ss.map fun y=>V.str y.str
def spLn:Sp:=fun vs H Q _=>∃(p:Str) (s:Sy),vs=[.str p,.str s.str]/\askS s=true/\Tx 1000 p/\∀(l:Addr) (H':Hp),Same H H'->H' l=some (.lst (vSy (wantM p s)))->Q (.ref l) H'
section
variable {P:Program} {w:World} {K:W.Frag} {mg:Str->Option Value} {base:Heap}
theorem scLn:FnScope ["_law_kind","_law_within"] ["_law_kind","_law_within"] (defScope sLn):=.of (by decide +kernel)
theorem ok_ln (F:Fun K "_law_wanted" "_law_wanted" sLn f fd):FnOk P w K mg base CX0 1 f fd ["_law_kind","_law_within"] spLn:=by
 refine F.ok scLn (fun vs H Q E h=>?_) (fun cdv A outer s H vs Q E hr h=>?_)
 ·obtain⟨p,s,rfl,_⟩:=h
  rfl
 ·obtain⟨p,sy,rfl,ha,tp,k⟩:=h
  have hu:=hr.units
  refine⟨_,pss_cons (ps_if (pt_cmpR op_eq (pv 0) pe_str (nomark _)) (pss_one (ps_ret (pe_lst (pa_cons pe_str pa_nil)))) pss_nil)
   (pss_cons (ps_if (pt_cmpR op_eq (pv 0) pe_str (nomark _)) (pss_one (ps_ret (pe_lst (pa_cons pe_str (pa_cons pe_str (pa_cons pe_str pa_nil)))))) pss_nil)
   (pss_cons (ps_if (pt_cmpR (op_inD hu) (pv 0) (pe_lst (pa_cons pe_str (pa_cons pe_str pa_nil))) (by with_unfolding_all rfl)) (pss_one (ps_ret (pe_lst (pa_cons pe_str (pa_cons pe_str (pa_cons pe_str (pa_cons pe_str (pa_cons pe_str pa_nil)))))))) pss_nil)
   (pss_cons (ps_if (pt_cut (PW.pt (pw_and (pt_cmpR op_eq (pv 0) pe_str (nomark _)) (pw_and1 (pt_cmpR op_eq (pv 1) pe_str (nomark _)))))) (pss_one (ps_ret (pe_lst (pa_cons pe_str (pa_cons pe_str (pa_cons pe_str pa_nil)))))) pss_nil)
   (pss_cons (ps_if (pt_cmpR op_eq (pv 0) pe_str (nomark _)) (pss_one (ps_ret (pe_lst (pa_cons (pv 1) pa_nil)))) pss_nil)
   (pss_cons (ps_if (pt_cmpR (op_inD hu) (pv 0) (pe_lst (pa_cons pe_str (pa_cons pe_str pa_nil))) (by with_unfolding_all rfl)) (pss_one (ps_ret (pe_lst (pa_cons (pv 1) (pa_cons (pv 1) pa_nil))))) pss_nil)
   (pss_one (ps_ret (pe_lst pa_nil)))))))),?_⟩
  have okp:DOk (.str p):=str_ok tp
  have l1:PyData.canLayAll0 ([Str.ofString "behind",Str.ofString "ahead"].map PyData.str)=true:=by decide +kernel
  have l2:PyData.canLayAll0 ([Str.ofString "both",Str.ofString "either"].map PyData.str)=true:=by decide +kernel
  have m1:decide (p∈[Str.ofString "behind",Str.ofString "ahead"])=(decide (kdOf p=some .beh)||decide (kdOf p=some .ahd)):=by
   rw[<- dk p .beh,<- dk p .ahd]
   exact mem2 p _ _
  have m2:decide (p∈[Str.ofString "both",Str.ofString "either"])=(decide (kdOf p=some .bot)||decide (kdOf p=some .eit)):=by
   rw[<- dk p .bot,<- dk p .eit]
   exact mem2 p _ _
  have d1:=dk p .row
  have d2:=dk p .wit
  have d3:=dk p .tim
  have d4:=dk p .non
  have hw:wantM p sy=(match kdOf p with
   |none=>[]
   |some k=>if syB sy=true/\k=.tim then[] else(kwOf k).map (syOf (syB sy||decide (k=.tim)))):=rfl
  generalize kdOf p=o at m1 m2 d1 d2 d3 d4 hw
  refine⟨_,rfl,rfl,decide (o=some .row),congrArg V.bl d1,?_⟩
  by_cases c1:o=some .row
  ·subst c1
   refine iteT ⟨(by show 1<=sizeLine;decide),fun l hl=>k l _ ((Same.refl H).upd_free hl) ?_⟩
   rw[upd_same,hw]
   cases sy<;>first|rfl|cases ha
  rw[decide_eq_false c1]
  refine iteF ⟨_,rfl,rfl,decide (o=some .wit),congrArg V.bl d2,?_⟩
  by_cases c2:o=some .wit
  ·subst c2
   refine iteT ⟨(by show 3<=sizeLine;decide),fun l hl=>k l _ ((Same.refl H).upd_free hl) ?_⟩
   rw[upd_same,hw]
   cases sy<;>first|rfl|cases ha
  rw[decide_eq_false c2]
  refine iteF ⟨_,rfl,(by show 2<=sizeLine;decide),fun la hla=>?_⟩
  have s1:Same H (upd H la (.lst [.str (Str.ofString "behind"),.str (Str.ofString "ahead")])):=(Same.refl H).upd_free hla
  refine⟨la,_,_,_,rfl,.inl (SqL.of upd_same),strs_atE [Str.ofString "behind",Str.ofString "ahead"],.str p,okp,l1,_,rfl,?_⟩
  rw[show(if false=true then _ else(([Str.ofString "behind",Str.ofString "ahead"].map PyData.str).any fun d=>PyData.eqv d (.str p)))=(decide (o=some .beh)||decide (o=some .ahd)) from(any_strE p _).trans m1]
  generalize upd H la (.lst [.str (Str.ofString "behind"),.str (Str.ofString "ahead")])=H1 at s1
  by_cases c3:o=some .beh\/o=some .ahd
  ·refine iteTK (by rcases c3 with rfl|rfl<;>rfl) ⟨(by show 5<=sizeLine;decide),fun l hl=>k l _ (s1.trans ((Same.refl H1).upd_free hl)) ?_⟩
   rw[upd_same,hw]
   rcases c3 with rfl|rfl<;>(cases sy<;>first|rfl|cases ha)
  refine iteFK (by rw[decide_eq_false (fun z=>c3 (.inl z)),decide_eq_false (fun z=>c3 (.inr z))];rfl) ?_
  refine⟨fun b' H'=>H'=H1/\(b'=true->o=some .tim/\sy=.Q)/\(b'=false->¬(o=some .tim/\sy=.Q)),?_,?_⟩
  ·refine⟨_,rfl,rfl,decide (o=some .tim),congrArg V.bl d3,?_⟩
   by_cases c4:o=some .tim
   ·rw[decide_eq_true c4]
    refine iteT ⟨_,rfl,rfl,decide (sy=.Q),(by cases sy<;>first|decide +kernel|cases ha),?_⟩
    exact⟨rfl,fun z=>⟨c4,of_decide_eq_true z⟩,fun z q=>of_decide_eq_false z q.2⟩
   ·rw[decide_eq_false c4]
    exact iteF ⟨rfl,(fun z=>by cases z),fun _ q=>c4 q.1⟩
  rintro b' H' ⟨rfl,hb1,hb2⟩
  cases b' with
  |true=>
   obtain⟨rfl,rfl⟩:=hb1 rfl
   refine iteT ⟨(by show 3<=sizeLine;decide),fun l hl=>k l _ (s1.trans ((Same.refl H').upd_free hl)) ?_⟩
   rw[upd_same,hw]
   rfl
  |false=>
  have hn:=hb2 rfl
  refine iteF ?_
  refine⟨_,rfl,rfl,decide (o=some .non),congrArg V.bl d4,?_⟩
  by_cases c5:o=some .non
  ·subst c5
   refine iteT ⟨_,rfl,(by show 1<=sizeLine;decide),fun l hl=>k l _ (s1.trans ((Same.refl H').upd_free hl)) ?_⟩
   rw[upd_same,hw]
   cases sy<;>first|rfl|cases ha
  rw[decide_eq_false c5]
  refine iteF ⟨_,rfl,(by show 2<=sizeLine;decide),fun lb hlb=>?_⟩
  have s3:Same H' (upd H' lb (.lst [.str (Str.ofString "both"),.str (Str.ofString "either")])):=(Same.refl H').upd_free hlb
  refine⟨lb,_,_,_,rfl,.inl (SqL.of upd_same),strs_atE [Str.ofString "both",Str.ofString "either"],.str p,okp,l2,_,rfl,?_⟩
  rw[show(if false=true then _ else(([Str.ofString "both",Str.ofString "either"].map PyData.str).any fun d=>PyData.eqv d (.str p)))=(decide (o=some .bot)||decide (o=some .eit)) from(any_strE p _).trans m2]
  generalize upd H' lb (.lst [.str (Str.ofString "both"),.str (Str.ofString "either")])=H3 at s3
  have s23:=s1.trans s3
  by_cases c6:o=some .bot\/o=some .eit
  ·refine iteTK (by rcases c6 with rfl|rfl<;>rfl) ⟨_,rfl,_,rfl,(by show 2<=sizeLine;decide),fun l hl=>k l _ (s23.trans ((Same.refl H3).upd_free hl)) ?_⟩
   rw[upd_same,hw]
   rcases c6 with rfl|rfl<;>(cases sy<;>first|rfl|cases ha)
  refine iteFK (by rw[decide_eq_false (fun z=>c6 (.inl z)),decide_eq_false (fun z=>c6 (.inr z))];rfl) ?_
  refine⟨Nat.zero_le _,fun l hl=>k l _ (s23.trans ((Same.refl H3).upd_free hl)) ?_⟩
  rw[upd_same,hw]
  cases o with
  |none=>rfl
  |some kk=>
   cases kk with
   |row=>exact absurd rfl c1
   |wit=>exact absurd rfl c2
   |beh=>exact absurd (.inl rfl) c3
   |ahd=>exact absurd (.inr rfl) c3
   |tim=>
    cases sy with
    |Q=>exact absurd ⟨rfl,rfl⟩ hn
    |R=>rfl
    |F=>cases ha
    |I=>cases ha
    |K=>cases ha
    |W=>cases ha
   |bot=>exact absurd (.inl rfl) c6
   |eit=>exact absurd (.inr rfl) c6
   |non=>exact absurd rfl c5
end
end QL
namespace SL
open PySem
theorem nm_ofI {lo:Int}{n:Nat}(h:∀i,i<n->isNum (Str.ofString (toString (lo+(i:Int))))=true/\((valN (Str.ofString (toString (lo+(i:Int)))):Nat):Int)=lo+(i:Int))(p:Str):
  p∈(List.range n).map (fun(i:Nat)=>Str.ofString (toString (lo+(i:Int))))↔isNum p=true/\lo<=((valN p:Nat):Int)/\((valN p:Nat):Int)<lo+n:=by
 constructor
 ·intro q
  obtain⟨i,hi,rfl⟩:=List.mem_map.mp q
  have hi:=List.mem_range.mp hi
  obtain⟨a,b⟩:=h i hi
  exact⟨a,by rw[b];omega,by rw[b];omega⟩
 ·rintro⟨a,b,c⟩
  refine List.mem_map.mpr ⟨(((valN p:Nat):Int)-lo).toNat,List.mem_range.mpr (by omega),?_⟩
  rw[show lo+(((((valN p:Nat):Int)-lo).toNat:Nat):Int)=((valN p:Nat):Int) by omega]
  exact num_str a
end SL
namespace QL
open PySem L2
open SL (isNum valN sortM)
def nmS (lo:Int)(n:Nat):List Str:=(List.range n).map (fun(i:Nat)=>Str.ofString (toString (lo+(i:Int))))
theorem nmS_succ (lo:Int)(n:Nat):nmS lo (n+1)=nmS lo n++[Str.ofString (toString (lo+(n:Int)))]:=by
 unfold nmS
 rw[List.range_succ,List.map_append]
 rfl
theorem nmS_len (lo:Int)(n:Nat):(nmS lo n).length=n:=by
 unfold nmS
 rw[List.length_map,List.length_range]
theorem isS_ite {c:Prop}[Decidable c]{α:Type}{x:α}:(if c then some x else none).isSome=decide c:=by
 by_cases h:c
 ·rw[if_pos h,decide_eq_true h];rfl
 ·rw[if_neg h,decide_eq_false h];rfl
theorem nmB {k:Nk}{n:Nat}(h:∀i,i<n->isNum (Str.ofString (toString (k.lo+(i:Int))))=true/\((valN (Str.ofString (toString (k.lo+(i:Int)))):Nat):Int)=k.lo+(i:Int))(e:k.hi+1=k.lo+n)(p:Str):decide (p∈nmS k.lo n)=(valB (.n k) p).isSome:=by
 rw[show(valB (.n k) p).isSome=decide (SL.isNum p=true/\k.lo<=((SL.valN p:Nat):Int)/\((SL.valN p:Nat):Int)<=k.hi) from isS_ite]
 refine decide_eq_decide.mpr ((SL.nm_ofI h p).trans ⟨fun q=>⟨q.1,q.2.1,by omega⟩,fun q=>⟨q.1,q.2.1,by omega⟩⟩)
theorem nm_le (p:Str):decide (p∈nmS 0 9)=(valB (.n .le) p).isSome:=nmB (k:=.le) (by decide +kernel) (by decide +kernel) p
theorem nm_ga (p:Str):decide (p∈nmS 0 8)=(valB (.n .ga) p).isSome:=nmB (k:=.ga) (by decide +kernel) (by decide +kernel) p
theorem nm_co (p:Str):decide (p∈nmS 1 20)=(valB (.n .co) p).isSome:=nmB (k:=.co) (by decide +kernel) (by decide +kernel) p
theorem qB {Q:V->Hp->Prop}{a b:Bool}{H:Hp}(e:a=b)(h:Q (.bl b) H):Q (.bl a) H:=e▸h
theorem nil_ok:DOk (.list []):=⟨by decide +kernel,by decide +kernel⟩
theorem want_ok (p:Str)(s:Sy)(h:askS s=true):DOk (.list (((wantM p s).map Sy.str).map PyData.str)):=by
 unfold wantM
 cases kdOf p with
 |none=>exact nil_ok
 |some k=>cases k<;>cases s<;>first|exact⟨by decide +kernel,by decide +kernel⟩|cases h
theorem want_ne (l:List Sy):(!PyData.eqv (.list ((l.map Sy.str).map PyData.str)) (.list []))=!decide (l=[]):=by
 cases l with
 |nil=>decide +kernel
 |cons a l=>rfl
def spLo:Sp:=fun vs H Q _=>∃(p:Str) (s:Sy),vs=[.str p,.str s.str]/\Tx 1000 p/\∀H':Hp,Same H H'->Q (.bl (goesM p s)) H'
section
variable {P:Program} {w:World} {K:W.Frag} {mg:Str->Option Value} {base:Heap}
abbrev nLo:List Str:=["_law_piece","_law_wanted_here"]
theorem scLo:FnScope nLo nLo (defScope sLo):=.of (by decide +kernel)
def scopeLo:Scope:=⟨.function,[(".0",.local),("_law_k",.local),("str",.globalImplicit)],false,false,[]⟩
theorem scLo1:BlkScope (defScope sLo) nLo ["_law_k"] [] [] scopeLo:=.of (by decide +kernel)
theorem ok_lo (F:Fun K "_law_goes" "_law_goes" sLo f fd)(T:Txt mg)
  (FW:Fun K "_law_is_word" "_law_is_word" sLw fW fdW) (bW:Binds K fdW ["_law_text_here"] []) (gW:mg "_law_is_word"=some (.ref fW)) (GW:FnOk P w K mg base CX0 3 fW fdW ["_law_text_here"] (spBo fun z=>(sortM z).isSome))
  (FN:Fun K "_law_wanted" "_law_wanted" sLn fN fdN) (bN:Binds K fdN ["_law_kind","_law_within"] []) (gN:mg "_law_wanted"=some (.ref fN)):FnOk P w K mg base CX0 4 f fd nLo spLo:=by
 have GN:FnOk P w K mg base CX0 1 fN fdN ["_law_kind","_law_within"] spLn:=ok_ln FN
 refine F.ok scLo (fun vs H Q E h=>?_) (fun cdv A outer s H vs Q E hr h=>?_)
 ·obtain⟨p,s,rfl,_⟩:=h
  rfl
 ·obtain⟨p,sy,rfl,tp,k⟩:=h
  have hu:=hr.units
  have hr1:Room 1 _:=hr.mono (by decide)
  refine⟨_,pss_cons (ps_if (pt_cmpR op_eq (pv 1) pe_str (nomark _)) (pss_one (ps_ret (pe_cmpR (op_inD hu) (pv 0) (pe_lst (pa_cons pe_str (pa_cons pe_str (pa_cons pe_str (pa_cons pe_str (pa_cons pe_str (pa_cons pe_str (pa_cons pe_str (pa_cons pe_str (pa_cons pe_str pa_nil)))))))))) (by with_unfolding_all rfl)))) pss_nil)
   (pss_cons (ps_if (pt_cmpR op_eq (pv 1) pe_str (nomark _)) (pss_one (ps_ret (pe_cmpR (op_inD hu) (pv 0) (pe_lst (pa_cons pe_str (pa_cons pe_str (pa_cons pe_str (pa_cons pe_str (pa_cons pe_str (pa_cons pe_str (pa_cons pe_str (pa_cons pe_str pa_nil))))))))) (by with_unfolding_all rfl)))) pss_nil)
   (pss_cons (ps_if (pt_cmpR op_eq (pv 1) pe_str (nomark _)) (pss_one (ps_ret (pe_cmpR (op_inD hu) (pv 0) (pe_lc scLo1 rfl rfl rfl (pi_range2 rfl T.range (pa_cons pe_int (pa_cons pe_int pa_nil))) (fun fp C s1 H1=>pg_name (i:=0) scLo1.nd rfl (Or.inl rfl)) (fun fp C s1 H1=>pts_nil) (fun fp C s1 H1=>pe_callTy call_str_int (by rfl) T.str PyProof.Rows.boot_str (pa_cons (pv 0) pa_nil))) (by with_unfolding_all rfl)))) pss_nil)
   (pss_cons (ps_if (pt_cmpR op_eq (pv 1) pe_str (nomark _)) (pss_one (ps_ret (pe_call GW hr rfl gW FW.kp bW .nil pass0 (pa_cons (pv 0) pa_nil)))) pss_nil)
   (pss_one (ps_ret (pe_cmpR (op_neD hu) (pe_call GN hr1 rfl gN FN.kp bN .nil pass0 (pa_cons (pv 0) (pa_cons (pv 1) pa_nil))) (pe_lst pa_nil) (nomark _))))))),?_⟩
  have okp:DOk (.str p):=str_ok tp
  have lF:PyData.canLayAll0 ((nmS 0 9).map PyData.str)=true:=by decide +kernel
  have lI:PyData.canLayAll0 ((nmS 0 8).map PyData.str)=true:=by decide +kernel
  have lK:PyData.canLayAll0 ((nmS 1 20).map PyData.str)=true:=by decide +kernel
  cases sy with
  |F=>
   refine⟨_,rfl,rfl,true,(by decide +kernel),iteT ⟨_,rfl,(by show 9<=sizeLine;decide),fun la hla=>?_⟩⟩
   have e:[Str.ofString "0",Str.ofString "1",Str.ofString "2",Str.ofString "3",Str.ofString "4",Str.ofString "5",Str.ofString "6",Str.ofString "7",Str.ofString "8"]=nmS 0 9:=by decide +kernel
   refine⟨la,_,_,_,rfl,.inl (SqL.of upd_same),strs_atE [Str.ofString "0",Str.ofString "1",Str.ofString "2",Str.ofString "3",Str.ofString "4",Str.ofString "5",Str.ofString "6",Str.ofString "7",Str.ofString "8"],.str p,okp,(by rw[e];exact lF),?_⟩
   refine qB (b:=goesM p .F) ?_ (k _ ((Same.refl H).upd_free hla))
   exact(any_strE p _).trans (by rw[e];exact nm_le p)
  |I=>
   refine⟨_,rfl,rfl,false,(by decide +kernel),iteF ⟨_,rfl,rfl,true,(by decide +kernel),iteT ⟨_,rfl,(by show 8<=sizeLine;decide),fun la hla=>?_⟩⟩⟩
   have e:[Str.ofString "0",Str.ofString "1",Str.ofString "2",Str.ofString "3",Str.ofString "4",Str.ofString "5",Str.ofString "6",Str.ofString "7"]=nmS 0 8:=by decide +kernel
   refine⟨la,_,_,_,rfl,.inl (SqL.of upd_same),strs_atE [Str.ofString "0",Str.ofString "1",Str.ofString "2",Str.ofString "3",Str.ofString "4",Str.ofString "5",Str.ofString "6",Str.ofString "7"],.str p,okp,(by rw[e];exact lI),?_⟩
   refine qB (b:=goesM p .I) ?_ (k _ ((Same.refl H).upd_free hla))
   exact(any_strE p _).trans (by rw[e];exact nm_ga p)
  |K=>
   refine⟨_,rfl,rfl,false,(by decide +kernel),iteF ⟨_,rfl,rfl,false,(by decide +kernel),iteF ⟨_,rfl,rfl,true,(by decide +kernel),iteT ⟨_,rfl,_,_,rfl,⟨by decide,by decide,by decide,by decide⟩,fun D hD=>?_⟩⟩⟩⟩
   refine lc_range (lo:=1) (n:=20) (fun j ys H2=>Same H H2/\H2 D=some (.lst ys)/\ys=(nmS 1 j).map V.str) (by decide)
    ⟨(Same.refl H).upd_free hD,upd_same,rfl⟩ (fun j ys H2 h=>by rw[h.2.2,List.length_map,nmS_len];exact Nat.le_refl _) ?_ ?_
   ·rintro j ys H2 N M hj ⟨u1,u2,rfl⟩ hN hM
    have lg:∀j:Nat,j<20->(1+(j:Int)).natAbs.log2<1920:=by decide +kernel
    refine⟨_,rfl,_,rfl,lg j hj,hN _ H2 u2 ⟨u1.upd_free hD,upd_same,?_⟩⟩
    ·rw[nmS_succ,List.map_append]
     rfl
   ·rintro ys H2 ⟨u1,u2,rfl⟩
    refine⟨D,_,_,_,rfl,.inl (SqL.of u2),strs_atE (nmS 1 20),.str p,okp,lK,?_⟩
    refine qB (b:=goesM p .K) ?_ (k _ u1)
    exact(any_strE p _).trans (nm_co p)
  |W=>
   refine⟨_,rfl,rfl,false,(by decide +kernel),iteF ⟨_,rfl,rfl,false,(by decide +kernel),iteF ⟨_,rfl,rfl,false,(by decide +kernel),iteF ⟨_,rfl,rfl,true,(by decide +kernel),iteT ⟨_,rfl,p,rfl,tp,fun H1 s1=>?_⟩⟩⟩⟩⟩
   refine qB (b:=goesM p .W) ?_ (k _ s1)
   show(sortM p).isSome=(if (sortM p).isSome=true then some (Pa.wrd p) else none).isSome
   rw[isS_ite]
   cases(sortM p).isSome<;>rfl
  |Q=>
   refine⟨_,rfl,rfl,false,(by decide +kernel),iteF ⟨_,rfl,rfl,false,(by decide +kernel),iteF ⟨_,rfl,rfl,false,(by decide +kernel),iteF ⟨_,rfl,rfl,false,(by decide +kernel),iteF ⟨_,rfl,_,rfl,p,.Q,rfl,rfl,tp,fun l H1 s1 hl=>⟨Nat.zero_le _,fun z hz=>?_⟩⟩⟩⟩⟩⟩
   have s4:=(Same.refl H1).upd_free (o:=.lst []) hz
   have hl':H1 l=some (.lst (((wantM p .Q).map Sy.str).map V.str)):=by
    rw[List.map_map]
    exact hl
   refine⟨.list _,.list [],.lst (SqL.of (s4 _ _ hl')) (strs_atE _),.lst (SqL.of upd_same) .nil,want_ok p .Q rfl,nil_ok,?_⟩
   exact qB (b:=goesM p .Q) (want_ne _) (k _ (s1.trans s4))
  |R=>
   refine⟨_,rfl,rfl,false,(by decide +kernel),iteF ⟨_,rfl,rfl,false,(by decide +kernel),iteF ⟨_,rfl,rfl,false,(by decide +kernel),iteF ⟨_,rfl,rfl,false,(by decide +kernel),iteF ⟨_,rfl,_,rfl,p,.R,rfl,rfl,tp,fun l H1 s1 hl=>⟨Nat.zero_le _,fun z hz=>?_⟩⟩⟩⟩⟩⟩
   have s4:=(Same.refl H1).upd_free (o:=.lst []) hz
   have hl':H1 l=some (.lst (((wantM p .R).map Sy.str).map V.str)):=by
    rw[List.map_map]
    exact hl
   refine⟨.list _,.list [],.lst (SqL.of (s4 _ _ hl')) (strs_atE _),.lst (SqL.of upd_same) .nil,want_ok p .R rfl,nil_ok,?_⟩
   exact qB (b:=goesM p .R) (want_ne _) (k _ (s1.trans s4))
end
end QL
namespace QL
open PySem L2
theorem cut_1 (x:V)(xs:List V):cutV (x::xs) (some 1) none=xs:=by
 unfold cutV
 show List.take ((x::xs).length-(if (x::xs).length<1 then(x::xs).length else 1)) (List.drop (if (x::xs).length<1 then(x::xs).length else 1) (x::xs))=xs
 rw[if_neg (by rw[List.length_cons];omega)]
 show List.take (xs.length+1-1) xs=xs
 rw[Nat.add_sub_cancel,List.take_length]
theorem sy_lay:∀ss:List Sy,PyData.canLayAll0 ((ss.map Sy.str).map PyData.str)=true
 | []=>rfl
 |s::ss=>by
  rw[List.map_cons,List.map_cons,PyData.canLayAll0,sy_lay ss]
  cases s<;>decide +kernel
theorem sy_depth:∀ss:List Sy,PyData.depthAll ((ss.map Sy.str).map PyData.str)=0
 | []=>rfl
 |s::ss=>by
  rw[List.map_cons,List.map_cons,PyData.depthAll,sy_depth ss]
  rfl
theorem sy_ok (ss:List Sy):DOk (.list ((ss.map Sy.str).map PyData.str)):=⟨sy_lay ss,by
 rw[PyData.depth,sy_depth]
 decide⟩
theorem sy_eq (l:List Sy):PyData.eqv (.list ((l.map Sy.str).map PyData.str)) (.list [])=decide (l=[]):=by
 cases l with
 |nil=>decide +kernel
 |cons a l=>rfl
theorem vSy_map (ss:List Sy):vSy ss=(ss.map Sy.str).map V.str:=by
 unfold vSy
 rw[List.map_map]
 rfl
theorem want_len (p:Str)(s:Sy):(wantM p s).length<=5:=by
 unfold wantM
 cases kdOf p with
 |none=>exact Nat.zero_le _
 |some k=>
  show(if syB s=true/\k=.tim then[] else(kwOf k).map (syOf (syB s||decide (k=.tim)))).length<=5
  split
  ·exact Nat.zero_le _
  ·rw[List.length_map]
   cases k<;>decide
theorem at0S (s:Sy)(W:List Sy):atI (vSy (s::W)) 0=some (.str s.str):=atI_nat (xs:=vSy (s::W)) (j:=0) rfl
def dueV:Option Nat->V
 |none=>.non
 |some i=>.int (i:Int)
def spDu:Sp:=fun vs H Q _=>∃(l:Addr) (ps:List Str),vs=[.ref l]/\H l=some (.lst (ps.map V.str))/\ps.length<=1000/\(∀p∈ps,Tx 1000 p)/\∀H':Hp,Same H H'->Q (dueV (dueM ps)) H'
section
variable {P:Program} {w:World} {K:W.Frag} {mg:Str->Option Value} {base:Heap}
abbrev nDu:List Str:=["_law_pieces","_law_wanted_here","_law_at","_law_first"]
theorem scDu:FnScope nDu ["_law_pieces"] (defScope sDu):=.of (by decide +kernel)
theorem ok_du (F:Fun K "_law_due" "_law_due" sDu f fd)(T:Txt mg)
  (FO:Fun K "_law_goes" "_law_goes" sLo fO fdO) (bO:Binds K fdO nLo []) (gO:mg "_law_goes"=some (.ref fO)) (GO:FnOk P w K mg base CX0 4 fO fdO nLo spLo)
  (FN:Fun K "_law_wanted" "_law_wanted" sLn fN fdN) (bN:Binds K fdN ["_law_kind","_law_within"] []) (gN:mg "_law_wanted"=some (.ref fN)):FnOk P w K mg base CX0 5 f fd ["_law_pieces"] spDu:=by
 have GN:FnOk P w K mg base CX0 1 fN fdN ["_law_kind","_law_within"] spLn:=ok_ln FN
 refine F.ok scDu (fun vs H Q E h=>?_) (fun cdv A outer s H vs Q E hr h=>?_)
 ·obtain⟨l,ps,rfl,_⟩:=h
  rfl
 ·obtain⟨l,ps,rfl,hl,ln,tp,k⟩:=h
  have hu:=hr.units
  have hr1:Room 1 _:=hr.mono (by decide)
  refine⟨_,pss_cons (ps_set (i:=1) scDu.nd rfl (Or.inl rfl) (pe_lst (pa_cons pe_str pa_nil)))
   (pss_cons (ps_for PassesOwn.never rfl (pi_range1 rfl T.range (pa_cons (pe_callB call_len_seq (by rfl) T.len PySem.boot_len (pa_cons (pv 0) pa_nil)) pa_nil)) (pg_name (i:=2) scDu.nd rfl (Or.inl rfl))
    (pss_cons (ps_if (pt_cut (PW.pt (pw_or (pt_cmpR op_eq (pv 2) pe_int (nomark _)) (pw_or (pt_cmpR (op_eqD hu) (pv 1) (pe_lst pa_nil) (nomark _)) (pw_or1 (pt_not (pt_val (pe_call GO hr rfl gO FO.kp bO .nil pass0 (pa_cons (pe_ix ix_list (pv 0) (pv 2) (fun _ _=>rfl)) (pa_cons (pe_ix ix_list (pv 1) pe_int (fun _ _=>rfl)) pa_nil)))))))))) (pss_one (ps_ret (pv 2))) pss_nil)
    (pss_cons (ps_set (i:=3) scDu.nd rfl (Or.inl rfl) (pe_ix ix_list (pv 1) pe_int (fun _ _=>rfl)))
    (pss_cons (ps_set (i:=1) scDu.nd rfl (Or.inl rfl) (pe_slice sl_list (pv 1) (po_some pe_int) po_none))
    (pss_one (ps_if (pt_cmpR (op_inD hu) (pv 3) (pe_lst (pa_cons pe_str (pa_cons pe_str pa_nil))) (by with_unfolding_all rfl)) (pss_one (ps_set (i:=1) scDu.nd rfl (Or.inl rfl) (pe_op op_catL (pe_call GN hr1 rfl gN FN.kp bN .nil pass0 (pa_cons (pe_ix ix_list (pv 0) (pv 2) (fun _ _=>rfl)) (pa_cons (pv 3) pa_nil))) (pv 1)))) pss_nil))))))
   (pss_cons (ps_if (pt_cmpR (op_eqD hu) (pv 1) (pe_lst pa_nil) (nomark _)) (pss_one (ps_ret pe_non)) pss_nil)
   (pss_one (ps_ret (pe_callB call_len_seq (by rfl) T.len PySem.boot_len (pa_cons (pv 0) pa_nil)))))),?_⟩
  have hml:(ps.map V.str).length=ps.length:=List.length_map _
  refine⟨(by show 1<=sizeLine;decide),fun lw hlw=>?_⟩
  have s0:Same H (upd H lw (.lst [.str (Str.ofString "Q")])):=(Same.refl H).upd_free hlw
  have g0:upd H lw (.lst [.str (Str.ofString "Q")]) lw=some (.lst (vSy [.Q])):=upd_same
  generalize upd H lw (.lst [.str (Str.ofString "Q")])=H0 at s0 g0
  refine⟨_,rfl,l,_,rfl,.inl (SqL.of (s0 _ _ hl)),((ps.map V.str).length:Int),rfl,by omega,by omega,?_⟩
  have en:(((ps.map V.str).length:Nat):Int).toNat=ps.length:=by rw[hml];exact Int.toNat_natCast _
  refine for_range (n:=(((ps.map V.str).length:Nat):Int).toNat) (fun i σ H2=>∃(W:List Sy) (a:Addr) (v2 v3:Option V),σ=[some (.ref l),some (.ref a),v2,v3]/\Same H H2/\H2 a=some (.lst (vSy W))/\W.length<=1+5*i/\i<=40/\stM (ps.drop i) i W=dueM ps) ⟨[.Q],lw,none,none,rfl,s0,g0,by decide,by decide,rfl⟩ ?_ ?_
  ·rintro i σ H2 hi ⟨W,a,v2,v3,rfl,s2,ga,wl,i40,inv⟩
   have hi':i<ps.length:=by rw[<- en];exact hi
   have er:ps[i]?=some ps[i]:=List.getElem?_eq_getElem hi'
   have hdr:ps.drop i=ps[i]::ps.drop (i+1):=List.drop_eq_getElem_cons hi'
   rw[hdr] at inv
   have hpt:=tp _ (List.getElem_mem hi')
   generalize ps[i]=p at er inv hpt
   have e0:(0:Int)+(i:Int)=(i:Int):=Int.zero_add _
   rw[e0]
   have at1:atI (ps.map V.str) (i:Int)=some (.str p):=atI_nat (by rw[List.getElem?_map,er];rfl)
   have hl2:=s2 _ _ hl
   have ga':=ga
   rw[vSy_map] at ga'
   refine⟨fun b H3=>Same H2 H3/\(b=true->dueM ps=some i)/\(b=false->∃s W',W=s::W'/\goesM p s=true/\i≠40),?_,?_⟩
   ·refine⟨_,rfl,rfl,decide (i=40),(congrArg V.bl (decide_eq_decide.mpr ⟨fun e=>by injection e with e;omega,fun e=>by rw[e];rfl⟩)),?_⟩
    by_cases c1:i=40
    ·rw[decide_eq_true c1]
     refine iteT ⟨Same.refl _,fun _=>?_,fun z=>by cases z⟩
     rw[<- inv]
     cases W with
     |nil=>rfl
     |cons s W=>rw[stM,if_pos c1]
    ·rw[decide_eq_false c1]
     refine iteF ⟨_,rfl,Nat.zero_le _,fun z hz=>?_⟩
     have s4:=(Same.refl H2).upd_free (o:=.lst []) hz
     refine⟨.list _,.list [],.lst (SqL.of (s4 _ _ ga')) (strs_atE _),.lst (SqL.of upd_same) .nil,sy_ok W,nil_ok,_,rfl,?_⟩
     rw[show(if false=true then _ else PyData.eqv (.list ((W.map Sy.str).map PyData.str)) (.list []))=decide (W=[]) from sy_eq W]
     cases W with
     |nil=>exact iteT ⟨s4,fun _=>inv.symm,fun z=>by cases z⟩
     |cons s W=>
      refine iteF ⟨_,rfl,_,rfl,l,_,_,_,rfl,rfl,SqL.of (s4 _ _ hl2),at1,_,rfl,a,_,_,_,rfl,rfl,SqL.of (s4 _ _ ga),at0S s W,p,s,rfl,hpt,fun H5 s5=>?_⟩
      cases hg:goesM p s with
      |true=>exact⟨_,rfl,s4.trans s5,(fun z=>by cases z),fun _=>⟨s,W,rfl,hg,c1⟩⟩
      |false=>
       refine⟨_,rfl,s4.trans s5,(fun _=>?_),fun z=>by cases z⟩
       rw[<- inv,stM,if_neg c1,if_neg (by rw[hg];exact Bool.false_ne_true)]
   rintro b' H3 ⟨s3,hb1,hb2⟩
   cases b' with
   |true=>
    rw[hb1 rfl] at k
    exact iteT ⟨_,rfl,k H3 (s2.trans s3)⟩
   |false=>
   obtain⟨s,W,rfl,hg,h40⟩:=hb2 rfl
   rw[stM,if_neg h40,if_pos hg] at inv
   rw[List.length_cons] at wl
   refine iteF ⟨_,rfl,a,_,_,_,rfl,rfl,SqL.of (s3 _ _ ga),at0S s W,?_⟩
   refine⟨_,rfl,_,rfl,a,_,rfl,SqL.of (s3 _ _ ga),fun q hq=>?_⟩
   rw[show cutV (vSy (s::W)) (some 1) none=vSy W from cut_1 _ _]
   have s5:Same H3 (upd H3 q (.lst (vSy W))):=(Same.refl H3).upd_free hq
   have gq:upd H3 q (.lst (vSy W)) q=some (.lst (vSy W)):=upd_same
   generalize upd H3 q (.lst (vSy W))=H5 at s5 gq
   refine⟨_,rfl,(by show 2<=sizeLine;decide),fun lb hlb=>?_⟩
   have s6:Same H5 (upd H5 lb (.lst [.str (Str.ofString "Q"),.str (Str.ofString "R")])):=(Same.refl H5).upd_free hlb
   refine⟨lb,_,_,_,rfl,.inl (SqL.of upd_same),strs_atE [Str.ofString "Q",Str.ofString "R"],.str s.str,(by cases s<;>exact⟨by decide +kernel,by decide +kernel⟩),(by decide +kernel),_,rfl,?_⟩
   rw[show(if false=true then _ else(([Str.ofString "Q",Str.ofString "R"].map PyData.str).any fun d=>PyData.eqv d (.str s.str)))=askS s from(any_strE s.str _).trans (by cases s<;>decide +kernel)]
   generalize upd H5 lb (.lst [.str (Str.ofString "Q"),.str (Str.ofString "R")])=H6 at s6
   have s26:=s3.trans (s5.trans s6)
   cases ha:askS s with
   |true=>
    rw[ha,if_pos rfl] at inv
    refine iteT ⟨_,rfl,_,rfl,l,_,_,_,rfl,rfl,SqL.of (s26 _ _ hl2),at1,_,rfl,p,s,rfl,ha,hpt,fun lx H7 s7 hlx=>?_⟩
    have l5:=want_len p s
    have l6:(vSy (wantM p s)).length=(wantM p s).length:=List.length_map _
    have l7:(vSy W).length=W.length:=List.length_map _
    have big:1000<=sizeLine:=by decide
    refine⟨_,rfl,lx,q,_,_,rfl,rfl,SqL.of hlx,SqL.of ((s6.trans s7) _ _ gq),by omega,fun r hr'=>?_⟩
    refine⟨wantM p s++W,r,_,_,rfl,(s2.trans (s26.trans s7)).trans ((Same.refl H7).upd_free hr'),?_,by rw[List.length_append];omega,by omega,inv⟩
    rw[upd_same]
    unfold vSy
    rw[List.map_append]
   |false=>
    rw[ha,if_neg Bool.false_ne_true,List.nil_append] at inv
    exact iteF ⟨W,q,_,_,rfl,s2.trans s26,s6 _ _ gq,by omega,by omega,inv⟩
  ·rintro σ H2 ⟨W,a,v2,v3,rfl,s2,ga,wl,i40,inv⟩
   rw[en,List.drop_length] at inv
   refine⟨_,rfl,Nat.zero_le _,fun z hz=>?_⟩
   have s4:=(Same.refl H2).upd_free (o:=.lst []) hz
   rw[vSy_map] at ga
   refine⟨.list _,.list [],.lst (SqL.of (s4 _ _ ga)) (strs_atE _),.lst (SqL.of upd_same) .nil,sy_ok W,nil_ok,_,rfl,?_⟩
   rw[show(if false=true then _ else PyData.eqv (.list ((W.map Sy.str).map PyData.str)) (.list []))=decide (W=[]) from sy_eq W]
   cases W with
   |nil=>
    rw[<- inv] at k
    exact iteT (k _ (s2.trans s4))
   |cons s W=>
    rw[<- inv] at k
    refine iteF ⟨_,rfl,l,_,rfl,.inl (SqL.of ((s2.trans s4) _ _ hl)),?_⟩
    rw[hml]
    exact k _ (s2.trans s4)
end
end QL
namespace QL
open PySem L2
structure RiG (mg:Str->Option Value)(CN C1 C2 C3 C4 CQ CL:Addr):Prop where
 gN:mg "NoQuestion"=some (.ref CN)
 g1:mg "NoRow"=some (.ref C1)
 g2:mg "NoForm"=some (.ref C2)
 g3:mg "NoGap"=some (.ref C3)
 g4:mg "NoFit"=some (.ref C4)
 gQ:mg "Question"=some (.ref CQ)
 gL:mg "LoomError"=some (.ref CL)
 vE:mg "ValueError"=none
structure RiC (K:W.Frag)(cl:Kd->Addr)(CN C1 C2 C3 C4 CQ CL:Addr):Prop where
 i1:W.kitOne K (.ref CN) (.ref C1)=some false
 i2:W.kitOne K (.ref CN) (.ref C2)=some false
 i3:W.kitOne K (.ref CN) (.ref C3)=some false
 i4:W.kitOne K (.ref CN) (.ref C4)=some false
 iV:W.kitOne K (.ref CN) (.type "ValueError")=some true
 get:excGet K CN=true
 fat:excGetF K CN "at"=true
 tN:takesX K CN (.ref CN)=true
 tL:takesX K CN (.ref CL)=true
 cls:∀k,Cls K (cl k)
 t1:∀k,W.findIn K (.ref (cl k)) "__class__"=some (some (.builtin "object.__class__"))
 t2:W.specialIn K (.builtin "object.__class__") "__get__"=some (some (.builtin "getset_descriptor.__get__"))
 t3:W.takesIn K (.builtin "object.__class__")=some true
 t4:∀k,W.mroIn K (cl k) (.type "object")=some true
 iQ:∀k,W.kitOne K (.ref (cl k)) (.ref CQ)=some true
 nt:W.kitOne K (.type "int") (.type "bool")=some false
 it:W.kitOne K (.type "int") (.type "int")=some true
theorem xdk {K:W.Frag}{H:Hp}{e:Int}{p:Addr}(h:H p=some (.tup [.int e,.bl false])):DAt K H (.ref p) (.tuple [.int e,.bool false]):=.tup (SqT.of h) (.cons (.int _) (.cons (.bl _) .nil))
theorem nb_ok (n:Nat)(h:n<=1000):DOk (.tuple [.int (n:Int),.bool false]):=by
 have key:∀n:Nat,n<=1000->(PyData.tuple [.int (n:Int),.bool false]).canLay0=true:=by decide +kernel
 exact⟨key n h,Nat.le_of_ble_eq_true rfl⟩
theorem nb_eq (e:Int):PyData.eqv (.tuple [.int e,.bool false]) (.tuple [.int e,.bool false])=true:=by
 simp[PyData.eqv,PyData.eqvAll]
theorem st_le:∀(ps:List Str) (i:Nat) (W:List Sy) (e:Nat),stM ps i W=some e->e<=i+ps.length
 | [],i,[],e,h=>by cases h
 | [],i,_::_,e,h=>by
  injection h with h
  omega
 |p::ps,i,[],e,h=>by
  injection h with h
  omega
 |p::ps,i,s::W,e,h=>by
  rw[stM] at h
  rw[List.length_cons]
  split at h
  ·injection h with h
   omega
  ·split at h
   ·have:=st_le ps (i+1) _ e h
    omega
   ·injection h with h
    omega
theorem qo_le {ps:List Str}{e:Nat}(h:qoM ps=some e):e<=ps.length:=by
 rw[<- due_qo] at h
 have:=st_le ps 0 _ e h
 omega
def spRw (_:Unit):Sp:=fun vs H Q _=>∃z:Str,vs=[.str z,dueV (qoM (Txt.split z (Str.ofString " ")))]/\z.length<=90000/\(Txt.split z (Str.ofString " ")).length<=1000/\(∀y∈Txt.split z (Str.ofString " "),Tx 1000 y)/\∀H':Hp,Same H H'->Q (.bl true) H'
section
variable {P:Program} {w:World} {K:W.Frag} {mg:Str->Option Value} {base:Heap} {cl:Kd->Addr} {CN C1 C2 C3 C4 CQ CL:Addr}
abbrev nRw:List Str:=["_law_text_here","_law_due_here","_law_told","_law_found","e","_law_other","_law_based"]
theorem scRw:FnScope nRw ["_law_text_here","_law_due_here"] (defScope sLr):=.of (by decide +kernel)
theorem ok_rw (F:Fun K "_law_right" "_law_right" sLr f fd)(T:Txt mg)(N:RiG mg CN C1 C2 C3 C4 CQ CL)(C:RiC K cl CN C1 C2 C3 C4 CQ CL)
  (FQ:Fun K "question_of" "question_of" sQo fQ fdQ) (bQ:Binds K fdQ ["text"] []) (gQ:mg "question_of"=some (.ref fQ)) (GQ:FnOk P w K mg base (CX1 P w) 90 fQ fdQ ["text"] (spQoY cl CN)):
  FnOk P w K mg base CX0 91 f fd ["_law_text_here","_law_due_here"] (spRw ()):=by
 refine F.ok scRw (fun vs H Q E h=>?_) (fun cdv A outer s H vs Q E hr h=>?_)
 ·obtain⟨z,rfl,_⟩:=h
  rfl
 ·obtain⟨z,rfl,zl,zn,zt,k⟩:=h
  have hu:=hr.units
  refine⟨_,pss_cons (ps_set (i:=2) scRw.nd rfl (Or.inl rfl) pe_non)
   (pss_cons (ps_set (i:=3) scRw.nd rfl (Or.inl rfl) pe_non)
   (pss_cons (ps_tryH ⟨rfl,rfl⟩ (pssx_one (psx_set (i:=3) scRw.nd rfl (Or.inl rfl) (pex_call GQ hr rfl gQ FQ.kp bQ .nil (pa_cons (pv 0) pa_nil))))
    (ph_as (i:=4) scRw.nd rfl rfl ⟨by rfl,by decide,.inl N.gN⟩ (fun e=>pss_cons (ps_set (i:=5) scRw.nd rfl (Or.inl rfl) (pe_or (pe_callB call_isinstXD (by rfl) T.isin PyProof.Rows.boot_isinstance (pa_cons (pv 4) (pa_cons (pe_glob (v:=.ref C1) (by rfl) N.g1 rfl) pa_nil))) (pe_or (pe_callB call_isinstXD (by rfl) T.isin PyProof.Rows.boot_isinstance (pa_cons (pv 4) (pa_cons (pe_glob (v:=.ref C2) (by rfl) N.g2 rfl) pa_nil))) (pe_or (pe_callB call_isinstXD (by rfl) T.isin PyProof.Rows.boot_isinstance (pa_cons (pv 4) (pa_cons (pe_glob (v:=.ref C3) (by rfl) N.g3 rfl) pa_nil))) (pe_one (pe_callB call_isinstXD (by rfl) T.isin PyProof.Rows.boot_isinstance (pa_cons (pv 4) (pa_cons (pe_glob (v:=.ref C4) (by rfl) N.g4 rfl) pa_nil))))))))
     (pss_one (ps_set (i:=2) scRw.nd rfl (Or.inl rfl) (pe_tup (pa_cons (pe_xfld (pv 4) rfl) (pa_cons (pv 5) pa_nil)))))) ph_nil))
   (pss_cons (ps_if (pt_cmpR op_isN (pv 1) pe_non (nomark _)) (pss_one (ps_ret (pe_and (pe_cmpR op_isN (pv 2) pe_non (nomark _)) (pe_one (pe_callB call_isinstC (by rfl) T.isin PyProof.Rows.boot_isinstance (pa_cons (pv 3) (pa_cons (pe_glob (v:=.ref CQ) (by rfl) N.gQ rfl) pa_nil))))))) pss_nil)
   (pss_cons (ps_set (i:=6) scRw.nd rfl (Or.inl rfl) pe_bl)
   (pss_cons (ps_tryH ⟨rfl,rfl⟩ (pssx_one (psx_expr (pex_call GQ hr rfl gQ FQ.kp bQ .nil (pa_cons (pv 0) pa_nil))))
    (ph_as (i:=4) scRw.nd rfl rfl ⟨by rfl,by decide,.inl N.gL⟩ (fun e=>pss_one (ps_set (i:=6) scRw.nd rfl (Or.inl rfl) (pe_callB call_isinstXD (by rfl) T.isin PyProof.Rows.boot_isinstance (pa_cons (pv 4) (pa_cons (pe_bltn (v:=.ty "ValueError") (by rfl) N.vE rfl rfl) pa_nil))))) ph_nil))
   (pss_cons (ps_if (PW.pt (pw_or (pt_cmpR op_isN (pv 2) pe_non (nomark _)) (pw_or (pt_not (pt_val (pe_callB call_isinst (by rfl) T.isin PyProof.Rows.boot_isinstance (pa_cons (pe_ix ix_tup (pv 2) pe_int (fun _ _=>rfl)) (pa_cons (pe_bltn (v:=.ty "int") (by rfl) T.int PyProof.Rows.boot_int rfl) pa_nil))))) (pw_or1 (pt_val (pe_callB call_isinst (by rfl) T.isin PyProof.Rows.boot_isinstance (pa_cons (pe_ix ix_tup (pv 2) pe_int (fun _ _=>rfl)) (pa_cons (pe_bltn (v:=.ty "bool") (by rfl) T.bool PyProof.Rows.boot_bool rfl) pa_nil)))))))) (pss_one (ps_ret pe_bl)) pss_nil)
   (pss_one (ps_ret (pe_and (pe_cmpR (op_eqD hu) (pv 2) (pe_tup (pa_cons (pv 1) (pa_cons pe_bl pa_nil))) (nomark _)) (pe_one (pv 6))))))))))),?_⟩
  cases hq:qoM (Txt.split z (Str.ofString " ")) with
  |none=>
   refine⟨_,rfl,z,rfl,zl,zn,zt,(fun e he=>by rw[hq] at he;cases he),fun _ o q H1 s1 hQ=>?_⟩
   obtain⟨dx,fs,ho,_⟩:=hQ.ins
   exact⟨_,rfl,rfl,true,rfl,iteT ⟨_,rfl,rfl,true,rfl,iteT ⟨_,rfl,.ref o,CQ,_,true,rfl,.ins ho (C.cls _) (C.t1 _) C.t2 C.t3 (C.t4 _),C.iQ _,k H1 s1⟩⟩⟩
  |some e=>
   refine⟨_,rfl,z,rfl,zl,zn,zt,(fun e' he d H1 s1 hd=>⟨CN,rfl,fun a ha=>.inl ⟨C.tN,?_⟩⟩),(fun he=>by rw[hq] at he;cases he)⟩
   have e1:e=e':=by rw[hq] at he;injection he
   subst e1
   have s2:=(Same.refl H1).upd_free (o:=.ext (ExcAt a CN (some d))) ha
   have q2:upd H1 a (.ext (ExcAt a CN (some d))) a=some (.ext (ExcAt a CN (some d))):=upd_same
   generalize upd H1 a (.ext (ExcAt a CN (some d)))=H2 at s2 q2 ⊢
   have hd2:=s2 _ _ hd
   have dd:∀d',some d=some d'->∃o,H2 d'=some o:=fun d' e=>by cases e;exact⟨_,hd2⟩
   refine⟨_,rfl,a,_,CN,some d,false,rfl,q2,dd,C.get,C.i1,false,rfl,iteF ⟨_,rfl,a,_,CN,some d,false,rfl,q2,dd,C.get,C.i2,false,rfl,iteF ⟨_,rfl,a,_,CN,some d,false,rfl,q2,dd,C.get,C.i3,false,rfl,iteF ⟨_,rfl,a,_,CN,some d,false,rfl,q2,dd,C.get,C.i4,?_⟩⟩⟩⟩
   refine⟨_,rfl,a,CN,d,_,.int (e:Int),rfl,q2,hd2,rfl,C.fat,_,rfl,(by show 2<=sizeLine;decide),fun p hp=>?_⟩
   have s3:=(Same.refl H2).upd_free (o:=.tup [.int (e:Int),.bl false]) hp
   have q3:upd H2 p (.tup [.int (e:Int),.bl false]) p=some (.tup [.int (e:Int),.bl false]):=upd_same
   generalize upd H2 p (.tup [.int (e:Int),.bl false])=H3 at s3 q3 ⊢
   have s13:=s1.trans (s2.trans s3)
   have ok2:=nb_ok e (Nat.le_trans (qo_le hq) zn)
   refine⟨_,rfl,rfl,false,rfl,iteF ?_⟩
   refine⟨_,rfl,z,rfl,zl,zn,zt,(fun e' he d4 H4 s4 hd4=>⟨CN,rfl,fun a5 ha5=>.inl ⟨C.tL,?_⟩⟩),(fun he=>by rw[hq] at he;cases he)⟩
   have s5:=(Same.refl H4).upd_free (o:=.ext (ExcAt a5 CN (some d4))) ha5
   have q5:upd H4 a5 (.ext (ExcAt a5 CN (some d4))) a5=some (.ext (ExcAt a5 CN (some d4))):=upd_same
   generalize upd H4 a5 (.ext (ExcAt a5 CN (some d4)))=H5 at s5 q5 ⊢
   have hd5:=s5 _ _ hd4
   have dd5:∀d',some d4=some d'->∃o,H5 d'=some o:=fun d' e=>by cases e;exact⟨_,hd5⟩
   refine⟨_,rfl,a5,_,CN,some d4,true,rfl,q5,dd5,C.get,C.iV,?_⟩
   have q35:=(s4.trans s5) _ _ q3
   refine⟨_,rfl,rfl,false,rfl,iteF ⟨_,rfl,p,_,_,_,rfl,rfl,SqT.of q35,rfl,_,_,_,true,rfl,.int _,C.it,true,rfl,iteF ⟨_,rfl,p,_,_,_,rfl,rfl,SqT.of q35,rfl,_,_,_,false,rfl,.int _,C.nt,false,rfl,iteF ?_⟩⟩⟩
   refine⟨_,rfl,_,rfl,(by show 2<=sizeLine;decide),fun p6 hp6=>?_⟩
   have s6:=(Same.refl H5).upd_free (o:=.tup [.int (e:Int),.bl false]) hp6
   refine⟨_,_,xdk (s6 _ _ q35),xdk upd_same,ok2,ok2,true,congrArg V.bl (nb_eq e),iteT ⟨_,rfl,k _ (s13.trans (s4.trans (s5.trans s6)))⟩⟩
end
end QL
namespace QL
open PySem L2
def od1:List Str:=[Str.ofString "",Str.ofString "row",Str.ofString "with",Str.ofString "behind",Str.ofString "ahead",Str.ofString "times",Str.ofString "both",Str.ofString "either",Str.ofString "not",Str.ofString "0",Str.ofString "7",Str.ofString "8",Str.ofString "9",Str.ofString "1",Str.ofString "20"]
def od2:List Str:=[Str.ofString "21",Str.ofString "00",Str.ofString "01",Str.ofString "-1",Str.ofString "Row",Str.ofString "a",Str.ofString "[",Str.ofString "[]",Str.ofString "[a,,b]",Str.ofString "[a,b,1,2,c]",Str.ofString "a1=",Str.ofString "a#",Str.ofString "thirteensigns"]
def od3:List Str:=[Str.ofString "1234567890",Str.ofString "[A]"]
theorem od_ok:∀x∈od1++od2++od3,SL.Tn 60 x:=by
 intro x hx
 simp only[od1,od2,od3,List.cons_append,List.nil_append,List.mem_cons,List.not_mem_nil,or_false] at hx
 rcases hx with rfl|rfl|rfl|rfl|rfl|rfl|rfl|rfl|rfl|rfl|rfl|rfl|rfl|rfl|rfl|rfl|rfl|rfl|rfl|rfl|rfl|rfl|rfl|rfl|rfl|rfl|rfl|rfl|rfl|rfl<;>exact⟨by decide,by decide +kernel⟩
def spOp:Sp:=fun vs H Q _=>∃(c:Int) (l:Addr) (ws:List Str),vs=[.int c,.ref l]/\H l=some (.lst (ws.map V.str))/\ws.length=5/\(∀x∈ws,SL.Tn 60 x)/\∀(z:Str) (H':Hp),SL.Tn 60 z->Same H H'->Q (.str z) H'
section
variable {P:Program} {w:World} {K:W.Frag} {mg:Str->Option Value} {base:Heap}
abbrev nOp:List Str:=["_law_cell","_law_pool_here","_law_some"]
theorem scOp:FnScope nOp ["_law_cell","_law_pool_here"] (defScope sOp):=.of (by decide +kernel)
theorem ok_op (F:Fun K "_law_odd_piece" "_law_odd_piece" sOp f fd)(T:Txt mg)(FM:Fun K "_law_mix" "_law_mix" sMi fM fdM)(bM:Binds K fdM ["_law_cell","_law_k"] [])(gM:mg "_law_mix"=some (.ref fM)):FnOk P w K mg base CX0 2 f fd ["_law_cell","_law_pool_here"] spOp:=by
 have GM:FnOk P w K mg base CX0 1 fM fdM ["_law_cell","_law_k"] spMi:=ok_mi FM
 refine F.ok scOp (fun vs H Q E h=>?_) (fun cdv A outer s H vs Q E hr h=>?_)
 ·obtain⟨c,l,ws,rfl,_⟩:=h
  rfl
 ·obtain⟨c,l,ws,rfl,hl,wl,wt,k⟩:=h
  refine⟨_,@pss_cons _ _ _ _ _ (@ps_set _ _ 2 _ _ _ _ scOp.nd rfl (Or.inl rfl) (@pe_lst _ _ _ _ (@pa_cons _ _ _ _ _ pe_str (@pa_cons _ _ _ _ _ pe_str (@pa_cons _ _ _ _ _ pe_str (@pa_cons _ _ _ _ _ pe_str (@pa_cons _ _ _ _ _ pe_str (@pa_cons _ _ _ _ _ pe_str (@pa_cons _ _ _ _ _ pe_str (@pa_cons _ _ _ _ _ pe_str (@pa_cons _ _ _ _ _ pe_str (@pa_cons _ _ _ _ _ pe_str (@pa_cons _ _ _ _ _ pe_str (@pa_cons _ _ _ _ _ pe_str (@pa_cons _ _ _ _ _ pe_str (@pa_cons _ _ _ _ _ pe_str (@pa_cons _ _ _ _ _ pe_str pa_nil (by rfl)) (by rfl)) (by rfl)) (by rfl)) (by rfl)) (by rfl)) (by rfl)) (by rfl)) (by rfl)) (by rfl)) (by rfl)) (by rfl)) (by rfl)) (by rfl)) (by rfl))) (by rfl) (by first|exact Or.inl rfl|exact Or.inr rfl))
   (@pss_cons _ _ _ _ _ (@ps_set _ _ 2 _ _ _ _ scOp.nd rfl (Or.inl rfl) (@pe_op _ _ _ _ _ _ _ _ op_catL (pv 2) (@pe_lst _ _ _ _ (@pa_cons _ _ _ _ _ pe_str (@pa_cons _ _ _ _ _ pe_str (@pa_cons _ _ _ _ _ pe_str (@pa_cons _ _ _ _ _ pe_str (@pa_cons _ _ _ _ _ pe_str (@pa_cons _ _ _ _ _ pe_str (@pa_cons _ _ _ _ _ pe_str (@pa_cons _ _ _ _ _ pe_str (@pa_cons _ _ _ _ _ pe_str (@pa_cons _ _ _ _ _ pe_str (@pa_cons _ _ _ _ _ pe_str (@pa_cons _ _ _ _ _ pe_str (@pa_cons _ _ _ _ _ pe_str pa_nil (by rfl)) (by rfl)) (by rfl)) (by rfl)) (by rfl)) (by rfl)) (by rfl)) (by rfl)) (by rfl)) (by rfl)) (by rfl)) (by rfl)) (by rfl)))) (by rfl) (by first|exact Or.inl rfl|exact Or.inr rfl))
   (pss_one (ps_ret (pe_ix ix_list (pe_op op_catL (pe_op op_catL (pv 2) (pe_lst (pa_cons pe_str (pa_cons pe_str pa_nil)))) (pv 1)) (pe_op op_mod (pe_call GM hr rfl gM FM.kp bM .nil pass0 (pa_cons (pv 0) (pa_cons pe_int pa_nil))) (pe_op op_add (pe_callB call_len_seq (by rfl) T.len PySem.boot_len (pa_cons (pv 2) pa_nil)) pe_int)) (fun _ _=>rfl))))),?_⟩
  refine⟨(by show 15<=sizeLine;decide),fun l1 h1=>⟨_,rfl,(by show 13<=sizeLine;decide),fun l2 h2=>?_⟩⟩
  have s1:=(Same.refl H).upd_free (o:=.lst (od1.map V.str)) h1
  have q1:upd H l1 (.lst (od1.map V.str)) l1=some (.lst (od1.map V.str)):=upd_same
  change (upd H l1 (.lst (od1.map V.str))) l2=none at h2
  change rCatL K _ _ (upd (upd H l1 (.lst (od1.map V.str))) l2 (.lst (od2.map V.str))) _
  generalize upd H l1 (.lst (od1.map V.str))=H1 at s1 q1 h2 ⊢
  have s2:=(Same.refl H1).upd_free (o:=.lst (od2.map V.str)) h2
  refine⟨l1,l2,od1.map V.str,od2.map V.str,rfl,rfl,SqL.of (s2 _ _ q1),SqL.of upd_same,(by show 28<=sizeLine;decide),fun l3 h3=>?_⟩
  generalize upd H1 l2 (.lst (od2.map V.str))=H2 at s2 h3 ⊢
  rw[<- List.map_append]
  have s3:=(Same.refl H2).upd_free (o:=.lst ((od1++od2).map V.str)) h3
  have q3:upd H2 l3 (.lst ((od1++od2).map V.str)) l3=some (.lst ((od1++od2).map V.str)):=upd_same
  generalize upd H2 l3 (.lst ((od1++od2).map V.str))=H3 at s3 q3 ⊢
  refine⟨_,rfl,(by show 2<=sizeLine;decide),fun l4 h4=>?_⟩
  change rCatL K _ _ (upd H3 l4 (.lst (od3.map V.str))) _
  have s4:=(Same.refl H3).upd_free (o:=.lst (od3.map V.str)) h4
  refine⟨l3,l4,(od1++od2).map V.str,od3.map V.str,rfl,rfl,SqL.of (s4 _ _ q3),SqL.of upd_same,(by show 30<=sizeLine;decide),fun l5 h5=>?_⟩
  generalize upd H3 l4 (.lst (od3.map V.str))=H4 at s4 h5 ⊢
  rw[<- List.map_append]
  have s5:=(Same.refl H4).upd_free (o:=.lst ((od1++od2++od3).map V.str)) h5
  have q5:upd H4 l5 (.lst ((od1++od2++od3).map V.str)) l5=some (.lst ((od1++od2++od3).map V.str)):=upd_same
  generalize upd H4 l5 (.lst ((od1++od2++od3).map V.str))=H5 at s5 q5 ⊢
  have s15:=s1.trans (s2.trans (s3.trans (s4.trans s5)))
  have big:1000<=sizeLine:=by decide
  have hlen:((od1++od2++od3).map V.str).length=30:=rfl
  refine⟨_,rfl,l5,l,_,_,rfl,rfl,SqL.of q5,SqL.of (s15 _ _ hl),(by rw[hlen,List.length_map,wl];omega),fun l6 h6=>?_⟩
  rw[<- List.map_append]
  have s6:=(Same.refl H5).upd_free (o:=.lst ((od1++od2++od3++ws).map V.str)) h6
  have q6:upd H5 l6 (.lst ((od1++od2++od3++ws).map V.str)) l6=some (.lst ((od1++od2++od3++ws).map V.str)):=upd_same
  generalize upd H5 l6 (.lst ((od1++od2++od3++ws).map V.str))=H6 at s6 q6 ⊢
  have q36:=(s4.trans (s5.trans s6)) _ _ q3
  refine⟨_,rfl,c,1,rfl,by decide,by decide,fun z z0=>⟨_,rfl,l3,_,rfl,.inl (SqL.of q36),_,_,rfl,rfl,_,_,rfl,rfl,?_,?_⟩⟩
  ·show(0:Int)<28+7
   decide
  ·have hL:(od1++od2++od3++ws).length=35:=by rw[List.length_append,wl];rfl
   have m0:=Int.emod_nonneg z (show(35:Int)≠0 by decide)
   have m1:=Int.emod_lt_of_pos z (show(0:Int)<35 by decide)
   obtain⟨v,hv,ex⟩:=atI_some ((od1++od2++od3++ws).map V.str) (z%35) m0 (by rw[List.length_map,hL];exact m1)
   obtain⟨x,hx,rfl⟩:=List.mem_map.mp hv
   refine⟨l6,_,_,_,rfl,rfl,SqL.of q6,ex,k x H6 ?_ (s15.trans s6)⟩
   rcases List.mem_append.mp hx with q|q
   ·exact od_ok x q
   ·exact wt x q
end
end QL
namespace QL
open PySem L2
theorem cutT (xs:List V)(k:Nat):cutV xs none (some (k:Int))=xs.take k:=by
 unfold cutV
 rw[HT.sIx_nat,HT.sIx_none,List.drop_zero,Nat.sub_zero,<- List.take_take,List.take_length]
theorem cutD (xs:List V)(k:Nat):cutV xs (some (k:Int)) none=xs.drop k:=by
 unfold cutV
 rw[HT.sIx_nat,HT.sIx_none]
 by_cases h:k<=xs.length
 ·rw[Nat.min_eq_left h,List.take_of_length_le (by rw[List.length_drop];omega)]
 ·rw[Nat.min_eq_right (by omega),List.drop_eq_nil_of_le (Nat.le_refl _),List.drop_eq_nil_of_le (by omega),List.take_nil]
theorem deI (a b:Int):V.bl (decide (V.int a=V.int b))=V.bl (decide (a=b)):=congrArg V.bl (decide_eq_decide.mpr ⟨fun e=>by injection e,fun e=>by rw[e]⟩)
def six:List Str:=[Str.ofString "row",Str.ofString "not",Str.ofString "both",Str.ofString "either",Str.ofString "behind",Str.ofString "ahead"]
def sixK:List (Key×V):=[(Sum.inr (Str.ofString "row"),V.str (Str.ofString "not")),(Sum.inr (Str.ofString "not"),V.str (Str.ofString "row")),(Sum.inr (Str.ofString "both"),V.str (Str.ofString "either")),(Sum.inr (Str.ofString "either"),V.str (Str.ofString "times")),(Sum.inr (Str.ofString "behind"),V.str (Str.ofString "ahead")),(Sum.inr (Str.ofString "ahead"),V.str (Str.ofString "with"))]
theorem six_val:∀p∈six,∃q,SL.Tn 60 q/\valV (mergeK [] sixK) (Sum.inr p:Key)=some (.str q):=by
 intro p hp
 simp only[six,List.mem_cons,List.not_mem_nil,or_false] at hp
 rcases hp with rfl|rfl|rfl|rfl|rfl|rfl
 ·exact⟨Str.ofString "not",⟨by decide,by decide +kernel⟩,by decide +kernel⟩
 ·exact⟨Str.ofString "row",⟨by decide,by decide +kernel⟩,by decide +kernel⟩
 ·exact⟨Str.ofString "either",⟨by decide,by decide +kernel⟩,by decide +kernel⟩
 ·exact⟨Str.ofString "times",⟨by decide,by decide +kernel⟩,by decide +kernel⟩
 ·exact⟨Str.ofString "ahead",⟨by decide,by decide +kernel⟩,by decide +kernel⟩
 ·exact⟨Str.ofString "with",⟨by decide,by decide +kernel⟩,by decide +kernel⟩
theorem rcat {K:W.Frag}{H:Hp}{x y:Addr}{xs ys:List Str}{Q:VK}(hx:H x=some (.lst (xs.map V.str)))(hy:H y=some (.lst (ys.map V.str)))(hb:xs.length+ys.length<=2000)(h:∀r H',Same H H'->H' r=some (.lst ((xs++ys).map V.str))->Q (.ref r) H'):rCatL K (.ref x) (.ref y) H Q:=by
 refine⟨x,y,_,_,rfl,rfl,SqL.of hx,SqL.of hy,?_,fun r hr=>?_⟩
 ·rw[List.length_map,List.length_map]
  exact Nat.le_trans hb (by decide)
 ·rw[<- List.map_append]
  exact h r _ ((Same.refl H).upd_free hr) upd_same
theorem rsl {K:W.Frag}{H:Hp}{a:Addr}{xs:List V}{lo hi:Option Int}{qs:List Str}{Q:VK}(ha:H a=some (.lst xs))(e:cutV xs lo hi=qs.map V.str)(h:∀r H',Same H H'->H' r=some (.lst (qs.map V.str))->Q (.ref r) H'):rSlL K (.ref a) lo hi H Q:=by
 refine⟨a,_,rfl,SqL.of ha,fun r hr=>?_⟩
 rw[e]
 exact h r _ ((Same.refl H).upd_free hr) upd_same
theorem rl1 {H:Hp}{r:Addr}(y:Str)(n:H r=none):∃H',upd H r (.lst [V.str y])=H'/\Same H H'/\H' r=some (.lst ([y].map V.str)):=
 ⟨_,rfl,(Same.refl H).upd_free n,upd_same⟩
theorem mapT (ps:List Str)(k:Nat):cutV (ps.map V.str) none (some (k:Int))=(ps.take k).map V.str:=by rw[cutT,List.map_take]
theorem mapT1 (ps:List Str)(k:Nat):cutV (ps.map V.str) none (some ((k:Int)+1))=(ps.take (k+1)).map V.str:=mapT ps (k+1)
theorem mapD (ps:List Str)(k:Nat):cutV (ps.map V.str) (some (k:Int)) none=(ps.drop k).map V.str:=by rw[cutD,List.map_drop]
theorem mapD1 (ps:List Str)(k:Nat):cutV (ps.map V.str) (some ((k:Int)+1)) none=(ps.drop (k+1)).map V.str:=mapD ps (k+1)
def spCh:Sp:=fun vs H Q _=>∃(a l:Addr) (c:Int) (ps ws:List Str),vs=[.ref a,.int c,.ref l]/\H a=some (.lst (ps.map V.str))/\ps.length<=900/\(∀p∈ps,SL.Tn 60 p)/\H l=some (.lst (ws.map V.str))/\ws.length=5/\(∀x∈ws,SL.Tn 60 x)∧
 ∀(r:Addr) (qs:List Str) (H':Hp),Same H H'->H' r=some (.lst (qs.map V.str))->qs.length<=ps.length+1->(∀q∈qs,SL.Tn 60 q)->Q (.ref r) H'
section
variable {P:Program} {w:World} {K:W.Frag} {mg:Str->Option Value} {base:Heap}
abbrev nCh:List Str:=["_law_pieces","_law_cell","_law_pool_here","_law_way","_law_at","_law_piece","_law_turned"]
theorem scCh:FnScope nCh ["_law_pieces","_law_cell","_law_pool_here"] (defScope sCh):=.of (by decide +kernel)
theorem tnp {σ:St}{H:Hp}{F:Option Int->Hp->Prop}(h:F none H):tNoPart σ H F:=h
theorem ok_ch (F:Fun K "_law_changed" "_law_changed" sCh f fd)(T:Txt mg)(FM:Fun K "_law_mix" "_law_mix" sMi fM fdM)(bM:Binds K fdM ["_law_cell","_law_k"] [])(gM:mg "_law_mix"=some (.ref fM))
  (FO:Fun K "_law_odd_piece" "_law_odd_piece" sOp fO fdO) (bO:Binds K fdO ["_law_cell","_law_pool_here"] []) (gO:mg "_law_odd_piece"=some (.ref fO)):FnOk P w K mg base CX0 3 f fd ["_law_pieces","_law_cell","_law_pool_here"] spCh:=by
 have GM:FnOk P w K mg base CX0 1 fM fdM ["_law_cell","_law_k"] spMi:=ok_mi FM
 have GO:FnOk P w K mg base CX0 2 fO fdO ["_law_cell","_law_pool_here"] spOp:=ok_op FO T FM bM gM
 refine F.ok scCh (fun vs H Q E h=>?_) (fun cdv A outer s H vs Q E hr h=>?_)
 ·obtain⟨a,l,c,ps,ws,rfl,_⟩:=h
  rfl
 ·obtain⟨a,l,c,ps,ws,rfl,ha,p9,pt,hl,wl,wt,k⟩:=h
  have hu:=hr.units
  have hu1:=Nat.lt_of_le_of_lt (Nat.add_le_add_left (show 1<=64 by decide) _) hu
  have hr1:Room 1 _:=hr.mono (by decide)
  refine⟨_,@pss_cons _ _ _ _ _ (ps_cut (ps_set (i:=3) scCh.nd rfl (Or.inl rfl) (pe_op op_mod (pv 1) pe_int)))
   (@pss_cons _ _ _ _ _ (ps_cut (ps_set (i:=4) scCh.nd rfl (Or.inl rfl) (pe_op op_mod (pe_call GM hr1 rfl gM FM.kp bM .nil pass0 (pa_cons (pe_op op_fdiv (pv 1) pe_int) (pa_cons pe_int pa_nil))) (pe_op op_add (pe_callB call_len_seq (by rfl) T.len PySem.boot_len (pa_cons (pv 0) pa_nil)) pe_int))))
   (@pss_cons _ _ _ _ _ (ps_set (i:=5) scCh.nd rfl (Or.inl rfl) (pe_call GO hr rfl gO FO.kp bO .nil pass0 (pa_cons (pe_op op_fdiv (pv 1) pe_int) (pa_cons (pv 2) pa_nil))))
   (@pss_cons _ _ _ _ _ (@ps_if _ _ _ _ _ _ _ _ (pt_cmpR op_eq (pv 3) pe_int (nomark _)) (@pss_one _ _ _ (@ps_ret _ _ _ _ (pe_op op_catL (pe_slice sl_list (pv 0) po_none (po_some (pv 4))) (pe_slice sl_list (pv 0) (po_some (pe_op op_add (pv 4) pe_int)) po_none)))) pss_nil)
   (@pss_cons _ _ _ _ _ (@ps_if _ _ _ _ _ _ _ _ (pt_cmpR op_eq (pv 3) pe_int (nomark _)) (@pss_one _ _ _ (@ps_ret _ _ _ _ (pe_op op_catL (pe_slice sl_list (pv 0) po_none (po_some (pe_op op_add (pv 4) pe_int))) (pe_slice sl_list (pv 0) (po_some (pv 4)) po_none)))) pss_nil)
   (@pss_cons _ _ _ _ _ (@ps_if _ _ _ _ _ _ _ _ (pt_cmpR op_eq (pv 3) pe_int (nomark _)) (@pss_one _ _ _ (@ps_ret _ _ _ _ (pe_op op_catL (pe_op op_catL (pe_slice sl_list (pv 0) po_none (po_some (pv 4))) (pe_lst (pa_cons (pv 5) pa_nil))) (pe_slice sl_list (pv 0) (po_some (pv 4)) po_none)))) pss_nil)
   (@pss_cons _ _ _ _ _ (@ps_if _ _ _ _ _ _ _ _ (pt_cmpR op_eq (pv 3) pe_int (nomark _)) (@pss_one _ _ _ (@ps_ret _ _ _ _ (pe_op op_catL (pe_op op_catL (pe_slice sl_list (pv 0) po_none (po_some (pv 4))) (pe_lst (pa_cons (pv 5) pa_nil))) (pe_slice sl_list (pv 0) (po_some (pe_op op_add (pv 4) pe_int)) po_none)))) pss_nil)
   (@pss_cons _ _ _ _ _ (@ps_if _ _ _ _ _ _ _ _ (@pt_cut _ _ _ (@PW.pt _ _ _ (@pw_and _ _ _ _ _ _ _ (pt_cmpR op_eq (pv 3) pe_int (nomark _)) (@pw_and _ _ _ _ _ _ _ (pt_cmpR op_lt (pv 4) (pe_callB call_len_seq (by rfl) T.len PySem.boot_len (pa_cons (pv 0) pa_nil)) (nomark _)) (@pw_and1 _ _ _ _ (@pt_cmpR _ _ _ _ _ _ _ _ (op_inD hu) (pe_ix ix_list (pv 0) (pv 4) (fun _ _=>rfl)) (@pe_lst _ _ _ _ (@pa_cons _ _ _ _ _ pe_str (@pa_cons _ _ _ _ _ pe_str (@pa_cons _ _ _ _ _ pe_str (@pa_cons _ _ _ _ _ pe_str (@pa_cons _ _ _ _ _ pe_str (@pa_cons _ _ _ _ _ pe_str pa_nil (by rfl)) (by rfl)) (by rfl)) (by rfl)) (by rfl)) (by rfl))) (by with_unfolding_all rfl)))))))
    (@pss_cons _ _ _ _ _ (@ps_set _ _ 6 _ _ _ _ scCh.nd rfl (Or.inl rfl) (@pe_disp _ _ _ _ _ (@pps_cons _ _ _ _ _ _ _ _ _ pe_str pe_str (@pps_cons _ _ _ _ _ _ _ _ _ pe_str pe_str (@pps_cons _ _ _ _ _ _ _ _ _ pe_str pe_str (@pps_cons _ _ _ _ _ _ _ _ _ pe_str pe_str (@pps_cons _ _ _ _ _ _ _ _ _ pe_str pe_str (@pps_cons _ _ _ _ _ _ _ _ _ pe_str pe_str pps_nil)))))) rfl rfl (by decide) (by decide)) (by rfl) (by first|exact Or.inl rfl|exact Or.inr rfl))
    (@pss_one _ _ _ (@ps_ret _ _ _ _ (pe_op op_catL (pe_op op_catL (pe_slice sl_list (pv 0) po_none (po_some (pv 4))) (pe_lst (pa_cons (pe_dget hu1 (pv 6) (pe_ix ix_list (pv 0) (pv 4) (fun _ _=>rfl)) (fun _ _=>rfl)) pa_nil))) (pe_slice sl_list (pv 0) (po_some (pe_op op_add (pv 4) pe_int)) po_none))))) pss_nil)
   (@pss_one _ _ _ (@ps_ret _ _ _ _ (pv 0)))))))))),?_⟩
  refine⟨fun σ' H'=>∃way:Int,σ'=[some (.ref a),some (.int c),some (.ref l),some (.int way),none,none,none]/\H=H',⟨_,rfl,_,_,rfl,rfl,(by show(0:Int)<6;decide),_,rfl,rfl⟩,?_⟩
  rintro _ _ ⟨way,rfl,rfl⟩
  refine⟨fun σ' H'=>∃n:Nat,σ'=[some (.ref a),some (.int c),some (.ref l),some (.int way),some (.int (n:Int)),none,none]/\n<=ps.length/\H=H',?_,?_⟩
  ·refine⟨_,rfl,_,_,rfl,rfl,⟨by decide,by decide⟩,_,2,rfl,by decide,by decide,fun z z0=>⟨_,rfl,a,_,rfl,.inl (SqL.of ha),_,_,rfl,rfl,_,_,rfl,rfl,?_,?_⟩⟩
   ·show(0:Int)<((ps.map V.str).length:Int)+1
    omega
   ·have m0:0<=z%(((ps.map V.str).length:Int)+1):=Int.emod_nonneg _ (by omega)
    have m1:z%(((ps.map V.str).length:Int)+1)<((ps.map V.str).length:Int)+1:=Int.emod_lt_of_pos _ (by omega)
    refine⟨(z%(((ps.map V.str).length:Int)+1)).toNat,?_,?_,rfl⟩
    ·rw[Int.toNat_of_nonneg m0]
     rfl
    ·rw[List.length_map] at *
     omega
  rintro _ _ ⟨n,rfl,nl,rfl⟩
  refine⟨_,rfl,_,_,rfl,rfl,⟨by decide,by decide⟩,_,rfl,_,l,ws,rfl,hl,wl,wt,fun z H1 tz s1=>?_⟩
  have ha1:=s1 _ _ ha
  have tT:∀m,∀q∈ps.take m,SL.Tn 60 q:=fun m q hq=>pt q (List.mem_of_mem_take hq)
  have tD:∀m,∀q∈ps.drop m,SL.Tn 60 q:=fun m q hq=>pt q (List.mem_of_mem_drop hq)
  have t1:∀(y:Str),SL.Tn 60 y->∀q∈[y],SL.Tn 60 q:=fun y ty q hq=>by rw[List.mem_singleton.mp hq];exact ty
  refine⟨_,rfl,rfl,decide (way=0),deI _ _,?_⟩
  by_cases c0:way=0
  ·rw[decide_eq_true c0]
   refine iteT ⟨_,rfl,_,rfl,_,rfl,?_⟩
   refine rsl ha1 (mapT ps n) fun r2 H2 s2 h2=>?_
   refine⟨_,rfl,_,rfl,_,_,rfl,rfl,_,rfl,?_⟩
   refine tnp ?_
   refine rsl (s2 _ _ ha1) (mapD1 ps n) fun r3 H3 s3 h3=>?_
   refine rcat (s3 _ _ h2) h3 (by rw[List.length_take,List.length_drop];omega) fun r H4 s4 h4=>?_
   refine k r _ H4 (s1.trans (s2.trans (s3.trans s4))) h4 ?_ ?_
   ·rw[List.length_append,List.length_take,List.length_drop];omega
   ·exact fun q hq=>(List.mem_append.mp hq).elim (tT _ q) (tD _ q)
  rw[decide_eq_false c0]
  refine iteF ⟨_,rfl,rfl,decide (way=1),deI _ _,?_⟩
  by_cases c1:way=1
  ·rw[decide_eq_true c1]
   refine iteT ⟨_,rfl,_,rfl,_,_,rfl,rfl,_,rfl,?_⟩
   refine rsl ha1 (mapT1 ps n) fun r2 H2 s2 h2=>?_
   refine⟨_,rfl,_,rfl,_,rfl,?_⟩
   refine tnp ?_
   refine rsl (s2 _ _ ha1) (mapD ps n) fun r3 H3 s3 h3=>?_
   refine rcat (s3 _ _ h2) h3 (by rw[List.length_take,List.length_drop];omega) fun r H4 s4 h4=>?_
   refine k r _ H4 (s1.trans (s2.trans (s3.trans s4))) h4 ?_ ?_
   ·rw[List.length_append,List.length_take,List.length_drop];omega
   ·exact fun q hq=>(List.mem_append.mp hq).elim (tT _ q) (tD _ q)
  rw[decide_eq_false c1]
  refine iteF ⟨_,rfl,rfl,decide (way=2),deI _ _,?_⟩
  by_cases c2:way=2
  ·rw[decide_eq_true c2]
   refine iteT ⟨_,rfl,_,rfl,_,rfl,?_⟩
   refine rsl ha1 (mapT ps n) fun r2 H2 s2 h2=>?_
   refine⟨_,rfl,(by show 1<=sizeLine;decide),fun r5 n5=>?_⟩
   obtain⟨H5,e5,s5,h5⟩:=rl1 z n5
   rw[e5]
   refine rcat (s5 _ _ h2) h5 (by rw[List.length_take,List.length_singleton];omega) fun r6 H6 s6 h6=>?_
   refine⟨_,rfl,_,rfl,_,rfl,?_⟩
   refine tnp ?_
   refine rsl ((s2.trans (s5.trans s6)) _ _ ha1) (mapD ps n) fun r3 H3 s3 h3=>?_
   refine rcat (s3 _ _ h6) h3 (by rw[List.length_append,List.length_take,List.length_singleton,List.length_drop];omega) fun r H4 s4 h4=>?_
   refine k r _ H4 (s1.trans (s2.trans (s5.trans (s6.trans (s3.trans s4))))) h4 ?_ ?_
   ·rw[List.length_append,List.length_append,List.length_take,List.length_singleton,List.length_drop];omega
   ·exact fun q hq=>(List.mem_append.mp hq).elim (fun hq=>(List.mem_append.mp hq).elim (tT _ q) (t1 z tz q)) (tD _ q)
  rw[decide_eq_false c2]
  refine iteF ⟨_,rfl,rfl,decide (way=3),deI _ _,?_⟩
  by_cases c3:way=3
  ·rw[decide_eq_true c3]
   refine iteT ⟨_,rfl,_,rfl,_,rfl,?_⟩
   refine rsl ha1 (mapT ps n) fun r2 H2 s2 h2=>?_
   refine⟨_,rfl,(by show 1<=sizeLine;decide),fun r5 n5=>?_⟩
   obtain⟨H5,e5,s5,h5⟩:=rl1 z n5
   rw[e5]
   refine rcat (s5 _ _ h2) h5 (by rw[List.length_take,List.length_singleton];omega) fun r6 H6 s6 h6=>?_
   refine⟨_,rfl,_,rfl,_,_,rfl,rfl,_,rfl,?_⟩
   refine tnp ?_
   refine rsl ((s2.trans (s5.trans s6)) _ _ ha1) (mapD1 ps n) fun r3 H3 s3 h3=>?_
   refine rcat (s3 _ _ h6) h3 (by rw[List.length_append,List.length_take,List.length_singleton,List.length_drop];omega) fun r H4 s4 h4=>?_
   refine k r _ H4 (s1.trans (s2.trans (s5.trans (s6.trans (s3.trans s4))))) h4 ?_ ?_
   ·rw[List.length_append,List.length_append,List.length_take,List.length_singleton,List.length_drop];omega
   ·exact fun q hq=>(List.mem_append.mp hq).elim (fun hq=>(List.mem_append.mp hq).elim (tT _ q) (t1 z tz q)) (tD _ q)
  rw[decide_eq_false c3]
  refine iteF ⟨fun b H2=>Same H1 H2/\(b=true->∃p,ps[n]?=some p/\p∈six),?_,?_⟩
  ·refine⟨_,rfl,rfl,decide (way=4),deI _ _,?_⟩
   by_cases c4:way=4
   ·rw[decide_eq_true c4]
    refine iteT ⟨_,rfl,_,rfl,a,_,rfl,.inl (SqL.of ha1),_,_,rfl,rfl,decide (n<ps.length),(congrArg V.bl (decide_eq_decide.mpr (by rw[List.length_map];exact Int.ofNat_lt))),?_⟩
    by_cases c5:n<ps.length
    ·rw[decide_eq_true c5]
     have er:ps[n]?=some ps[n]:=List.getElem?_eq_getElem c5
     have tp:=pt _ (List.getElem_mem c5)
     generalize ps[n]=p at er tp
     refine iteT ⟨_,rfl,_,rfl,a,_,_,_,rfl,rfl,SqL.of ha1,atI_nat (by rw[List.getElem?_map,er];rfl),(by show 6<=sizeLine;decide),fun lb hlb=>?_⟩
     have s2:Same H1 (upd H1 lb (.lst (six.map V.str))):=(Same.refl H1).upd_free hlb
     refine⟨lb,_,_,_,rfl,.inl (SqL.of upd_same),strs_atE six,.str p,str_ok tp.tx,(by decide +kernel),decide (p∈six),congrArg V.bl (any_strE p six),s2,fun e=>⟨p,er,of_decide_eq_true e⟩⟩
    ·rw[decide_eq_false c5]
     exact iteF ⟨Same.refl _,fun e=>by cases e⟩
   ·rw[decide_eq_false c4]
    exact iteF ⟨Same.refl _,fun e=>by cases e⟩
  rintro b H2 ⟨s2,hb⟩
  cases b with
  |false=>exact iteF ⟨_,rfl,k a ps H2 (s1.trans s2) (s2 _ _ ha1) (by omega) pt⟩
  |true=>
   obtain⟨p,ep,hp⟩:=hb rfl
   obtain⟨y,ty,hy⟩:=six_val p hp
   refine iteT fun d hd=>⟨upd_same,sixK,rfl,by decide,?_⟩
   have s3:Same H2 (upd (upd H2 d (.dK [])) d (.dK (mergeK [] sixK))):=((Same.refl H2).upd_free hd).upd_free hd
   have q3:upd (upd H2 d (.dK [])) d (.dK (mergeK [] sixK)) d=some (.dK (mergeK [] sixK)):=upd_same
   generalize upd (upd H2 d (.dK [])) d (.dK (mergeK [] sixK))=H3 at s3 q3 ⊢
   have t3:=s1.trans (s2.trans s3)
   have ha3:=t3 _ _ ha
   have at3:atI (ps.map V.str) (n:Int)=some (.str p):=atI_nat (by rw[List.getElem?_map,ep];rfl)
   refine⟨_,rfl,_,rfl,_,rfl,?_⟩
   refine rsl ha3 (mapT ps n) fun r2 H4 s4 h4=>?_
   refine⟨_,rfl,_,rfl,_,rfl,a,_,_,_,rfl,rfl,SqL.of (s4 _ _ ha3),at3,d,_,rfl,(by rw[<- hy];exact DGet.k (k:=Sum.inr p) (s4 _ _ q3)),?_⟩
   refine⟨(by show 1<=sizeLine;decide),fun r5 n5=>?_⟩
   obtain⟨H5,e5,s5,h5⟩:=rl1 y n5
   rw[e5]
   refine rcat (s5 _ _ h4) h5 (by rw[List.length_take,List.length_singleton];omega) fun r6 H6 s6 h6=>?_
   refine⟨_,rfl,_,rfl,_,_,rfl,rfl,_,rfl,?_⟩
   refine tnp ?_
   refine rsl ((s4.trans (s5.trans s6)) _ _ ha3) (mapD1 ps n) fun r7 H7 s7 h7=>?_
   refine rcat (s7 _ _ h6) h7 (by rw[List.length_append,List.length_take,List.length_singleton,List.length_drop];omega) fun r H8 s8 h8=>?_
   refine k r _ H8 (t3.trans (s4.trans (s5.trans (s6.trans (s7.trans s8))))) h8 ?_ ?_
   ·rw[List.length_append,List.length_append,List.length_take,List.length_singleton,List.length_drop];omega
   ·exact fun q hq=>(List.mem_append.mp hq).elim (fun hq=>(List.mem_append.mp hq).elim (tT _ q) (t1 y ty q)) (tD _ q)
end
end QL
namespace QL
open PySem L2
theorem sj {ps:List Str}(hl:ps.length<=100)(h:∀p∈ps,SL.Tn 60 p):(Str.join (Str.ofString " ") ps).length<=7000/\(Txt.split (Str.join (Str.ofString " ") ps) (Str.ofString " ")).length<=101/\∀y∈Txt.split (Str.join (Str.ofString " ") ps) (Str.ofString " "),Tx 1000 y:=by
 have hz:=join_tx (n:=60) (m:=1) (Str.ofString " ") ⟨by decide,by decide⟩ (ys:=ps) fun p hp=>(h p hp).tx
 have hz1:=hz.1
 refine⟨by omega,?_⟩
 by_cases e:ps=[]
 ·subst e
  have q:Txt.split (Str.join (Str.ofString " ") []) (Str.ofString " ")=[Str.ofString ""]:=by decide +kernel
  rw[q]
  exact⟨by decide,fun y hy=>by rw[List.mem_singleton.mp hy];exact⟨by decide,by decide⟩⟩
 ·have q:Txt.split (Str.join (Str.ofString " ") ps) (Str.ofString " ")=ps:=by
   rw[show Str.ofString " "=(⟨#[32]⟩:Str) from rfl,SL.split_spl _ (by decide)]
   exact SL.spl_join ps [] e fun x hx k hk=>((h x hx).2 k hk).2
  rw[q]
  exact⟨by omega,fun y hy=>(h y hy).tx.mono (by decide)⟩
theorem sumJ {ps:List Str}(hl:ps.length<=100)(h:∀p∈ps,SL.Tn 60 p):(ps.map (·.length)).sum+ps.length*(Str.ofString " ").length<=16777216:=by
 have h1:=sum_lenL (n:=60) fun y hy=>(h y hy).1
 rw[show(Str.ofString " ").length=1 from rfl]
 omega
def spLaw (K:W.Frag):Sp:=fun vs H Q _=>∃(a:Addr) (ns:List Int),vs=[.ref a]/\SqL K H a (ns.map V.int)/\ns.length<=63/\∀H',Q (.bl true) H'
section
variable {P:Program} {w:World} {K:W.Frag} {mg:Str->Option Value} {base:Heap} {cl:Kd->Addr}
abbrev nLaw:List Str:=["_law_script","_law_pool_here","_law_letters_here","_law_k","_law_asked","_law_pieces","_law_way","_law_text_here"]
theorem scLaw:FnScope nLaw ["_law_script"] (defScope sLaw):=.of (by decide +kernel)
def scopeC:Scope:=⟨.function,[(".0",.local),("_law_k",.local),("_law_cell_at",.globalImplicit),("_law_script",.free)],false,false,[]⟩
theorem scC:BlkScope (defScope sLaw) nLaw ["_law_k"] ["_law_script"] [0] scopeC:=.of (by decide +kernel)
theorem ok_law (F:Fun K "law" "law" sLaw f fd)(T:Txt mg)
  (FC:Fun K "_law_cell_at" "_law_cell_at" sCe fC dC) (bC:Binds K dC ["_law_script","_law_k"] []) (gC:mg "_law_cell_at"=some (.ref fC))
  (FP:Fun K "_law_pool" "_law_pool" sPo fP dP) (bP:Binds K dP ["_law_cell","_law_other"] []) (gP:mg "_law_pool"=some (.ref fP)) (GP:FnOk P w K mg base CX0 2 fP dP ["_law_cell","_law_other"] spPo2)
  (FL:Fun K "_law_letters" "_law_letters" sLe fL dL) (bL:Binds K dL ["_law_cell"] []) (gL:mg "_law_letters"=some (.ref fL))
  (FGw:Fun K "_law_grown" "_law_grown" sGw fGw dGw) (bGw:Binds K dGw ["_law_cells","_law_letters_here","_law_pool_here","_law_within"] []) (gGw:mg "_law_grown"=some (.ref fGw)) (GGw:FnOk P w K mg base CX0 8 fGw dGw ["_law_cells","_law_letters_here","_law_pool_here","_law_within"] (spGw 5))
  (FTe:Fun K "_law_text" "_law_text" sTe fTe dTe) (bTe:Binds K dTe ["_law_asked"] []) (gTe:mg "_law_text"=some (.ref fTe)) (GTe:FnOk P w K mg base CX0 6 fTe dTe ["_law_asked"] (spTe 5))
  (FM:Fun K "_law_mix" "_law_mix" sMi fM dM) (bM:Binds K dM ["_law_cell","_law_k"] []) (gM:mg "_law_mix"=some (.ref fM))
  (FR:Fun K "_law_right" "_law_right" sLr fR dR) (bR:Binds K dR ["_law_text_here","_law_due_here"] []) (gR:mg "_law_right"=some (.ref fR)) (GR:FnOk P w K mg base CX0 91 fR dR ["_law_text_here","_law_due_here"] (spRw ()))
  (FD:Fun K "_law_due" "_law_due" sDu fD dD) (bD:Binds K dD ["_law_pieces"] []) (gD:mg "_law_due"=some (.ref fD)) (GD:FnOk P w K mg base CX0 5 fD dD ["_law_pieces"] spDu)
  (FCh:Fun K "_law_changed" "_law_changed" sCh fCh dCh) (bCh:Binds K dCh ["_law_pieces","_law_cell","_law_pool_here"] []) (gCh:mg "_law_changed"=some (.ref fCh)) (GCh:FnOk P w K mg base CX0 3 fCh dCh ["_law_pieces","_law_cell","_law_pool_here"] spCh):
  FnOk P w K mg base CX0 92 f fd ["_law_script"] (spLaw K):=by
 have GC:FnOk P w K mg base CX0 1 fC dC ["_law_script","_law_k"] (spCe K):=ok_ce FC T
 have GL:FnOk P w K mg base CX0 1 fL dL ["_law_cell"] spLe:=ok_le FL
 have GM:FnOk P w K mg base CX0 1 fM dM ["_law_cell","_law_k"] spMi:=ok_mi FM
 refine F.ok scLaw (fun vs H Q E h=>?_) (fun cdv A outer s H vs Q E hr h=>?_)
 ·obtain⟨a,ns,rfl,_⟩:=h
  rfl
 ·obtain⟨a,ns,rfl,hS,hln,k⟩:=h
  have hr1:Room 1 _:=hr.mono (by decide)
  have hr2:Room 2 _:=hr.mono (by decide)
  have hr3:Room 3 _:=hr.mono (by decide)
  have hr5:Room 5 _:=hr.mono (by decide)
  have hr6:Room 6 _:=hr.mono (by decide)
  have hr8:Room 8 _:=hr.mono (by decide)
  refine⟨_,pss_cons (ps_set (i:=1) scLaw.nd rfl (Or.inl rfl) (pe_call GP hr2 rfl gP FP.kp bP .nil pass0 (pa_cons (pe_call GC hr1 rfl gC FC.kp bC .nil pass0 (pa_cons (pv 0) (pa_cons pe_int pa_nil))) (pa_cons (pe_call GC hr1 rfl gC FC.kp bC .nil pass0 (pa_cons (pv 0) (pa_cons pe_int pa_nil))) pa_nil))))
   (pss_cons (ps_set (i:=2) scLaw.nd rfl (Or.inl rfl) (pe_call GL hr1 rfl gL FL.kp bL .nil pass0 (pa_cons (pe_call GC hr1 rfl gC FC.kp bC .nil pass0 (pa_cons (pv 0) (pa_cons pe_int pa_nil))) pa_nil)))
   (pss_cons (ps_set (i:=4) scLaw.nd rfl (Or.inl rfl) (pe_call GGw hr8 rfl gGw FGw.kp bGw .nil pass0 (pa_cons (pe_lc scC rfl rfl rfl (pi_range1 rfl T.range (pa_cons pe_int pa_nil)) (fun fp C s1 H1=>pg_name (i:=0) scC.nd rfl (Or.inl rfl)) (fun fp C s1 H1=>pts_nil)
    (fun fp C s1 H1=>pe_call GC hr1 rfl gC FC.kp bC .nil pass0 (pa_cons (pv 1) (pa_cons (pe_op op_add pe_int (pv 0)) pa_nil)))) (pa_cons (pv 2) (pa_cons (pv 1) (pa_cons pe_bl pa_nil))))))
   (pss_cons (ps_cut (ps_set (i:=5) scLaw.nd rfl (Or.inl rfl) (pe_bm PySem.F.plainAttrs_str PySem.F.slot_str_split PySem.F.type_str_split mt_split (pe_call GTe hr6 rfl gTe FTe.kp bTe .nil pass0 (pa_cons (pv 4) pa_nil)) (pa_cons pe_str pa_nil))))
   (pss_cons (ps_set (i:=6) scLaw.nd rfl (Or.inl rfl) (pe_call GC hr1 rfl gC FC.kp bC .nil pass0 (pa_cons (pv 0) (pa_cons pe_int pa_nil))))
   (pss_cons (ps_cut (ps_if (pt_cmpR op_eq (pe_op op_mod (pv 6) pe_int) pe_int (nomark _)) (pss_one (ps_set (i:=5) scLaw.nd rfl (Or.inl rfl) (pe_op op_catL (pe_op op_rep (pe_lst (pa_cons pe_str pa_nil)) (pe_op op_add pe_int (pe_op op_mod (pe_op op_fdiv (pv 6) pe_int) pe_int))) (pv 5)))) pss_nil))
   (pss_cons (ps_cut (ps_if (pt_cmpR op_eq (pe_op op_mod (pe_op op_fdiv (pv 6) pe_int) pe_int) pe_int (nomark _)) (pss_one (ps_set (i:=5) scLaw.nd rfl (Or.inl rfl) (pe_slice sl_list (pv 5) po_none (po_some (pe_op op_mod (pe_call GM hr1 rfl gM FM.kp bM .nil pass0 (pa_cons (pv 6) (pa_cons pe_int pa_nil))) (pe_op op_add (pe_callB call_len_seq (by rfl) T.len PySem.boot_len (pa_cons (pv 5) pa_nil)) pe_int)))))) pss_nil))
   (pss_cons (ps_cut (ps_if (pt_cmpR op_eq (pe_op op_mod (pe_op op_fdiv (pv 6) pe_int) pe_int) pe_int (nomark _)) (pss_one (ps_set (i:=5) scLaw.nd rfl (Or.inl rfl) (pe_op op_catL (pe_lst (pa_cons pe_str (pa_cons pe_str (pa_cons pe_str pa_nil)))) (pv 5)))) pss_nil))
   (pss_cons (ps_if (pt_not (pt_val (pe_call GR hr rfl gR FR.kp bR .nil pass0 (pa_cons (pe_bm PySem.F.plainAttrs_str PySem.F.slot_str_join PySem.F.type_str_join mt_join pe_str (pa_cons (pv 5) pa_nil)) (pa_cons (pe_call GD hr5 rfl gD FD.kp bD .nil pass0 (pa_cons (pe_bm PySem.F.plainAttrs_str PySem.F.slot_str_split PySem.F.type_str_split mt_split (pe_bm PySem.F.plainAttrs_str PySem.F.slot_str_join PySem.F.type_str_join mt_join pe_str (pa_cons (pv 5) pa_nil)) (pa_cons pe_str pa_nil)) pa_nil)) pa_nil))))) (pss_one (ps_ret pe_bl)) pss_nil)
   (pss_cons (ps_for PassesOwn.never rfl (pi_list (pe_lst (pa_cons pe_int (pa_cons pe_int (pa_cons pe_int (pa_cons pe_int pa_nil)))))) (pg_name (i:=3) scLaw.nd rfl (Or.inl rfl))
    (pss_cons (ps_set (i:=5) scLaw.nd rfl (Or.inl rfl) (pe_call GCh hr3 rfl gCh FCh.kp bCh .nil pass0 (pa_cons (pv 5) (pa_cons (pe_call GC hr1 rfl gC FC.kp bC .nil pass0 (pa_cons (pv 0) (pa_cons (pv 3) pa_nil))) (pa_cons (pv 1) pa_nil)))))
    (pss_cons (ps_set (i:=7) scLaw.nd rfl (Or.inl rfl) (pe_bm PySem.F.plainAttrs_str PySem.F.slot_str_join PySem.F.type_str_join mt_join pe_str (pa_cons (pv 5) pa_nil)))
    (pss_one (ps_if (pt_not (pt_val (pe_call GR hr rfl gR FR.kp bR .nil pass0 (pa_cons (pv 7) (pa_cons (pe_call GD hr5 rfl gD FD.kp bD .nil pass0 (pa_cons (pe_bm PySem.F.plainAttrs_str PySem.F.slot_str_split PySem.F.type_str_split mt_split (pv 7) (pa_cons pe_str pa_nil)) pa_nil)) pa_nil))))) (pss_one (ps_ret pe_bl)) pss_nil)))))
   (pss_one (ps_ret pe_bl))))))))))),?_⟩
  refine⟨_,rfl,a,ns,0,rfl,hS,by omega,by decide,by decide,fun c0 H1 s1=>?_⟩
  refine⟨_,rfl,a,ns,1,rfl,s1.seq hS,by omega,by decide,by decide,fun c1 H2 s2=>?_⟩
  refine⟨c0,c1,rfl,fun po ws H3 s3 hpo wl wt=>?_⟩
  have t3:Same H H3:=(s1.trans s2).trans s3
  refine⟨_,rfl,a,ns,2,rfl,t3.seq hS,by omega,by decide,by decide,fun c2 H4 s4=>?_⟩
  refine⟨c2,rfl,fun le ls H5 s5 hle ll lb=>?_⟩
  have t5:Same H3 H5:=s4.trans s5
  have hS5:=(t3.trans t5).seq hS
  have hpo5:=t5 _ _ hpo
  refine⟨_,rfl,by decide,by decide,fun D hD=>?_⟩
  refine lc_range (lo:=0) (n:=(4:Int).toNat) (fun j ys H7=>Same H5 H7/\∃cs:List Int,ys=cs.map V.int/\cs.length=j/\H7 D=some (.lst ys)) (by decide) ⟨(Same.refl H5).upd_free hD,[],rfl,rfl,upd_same⟩
   (fun j ys H7 ⟨_,cs,h1,h2,_⟩=>by rw[h1,List.length_map,h2];exact Nat.le_refl _) ?_ ?_
  ·rintro j ys H7 N M hj ⟨u1,cs,rfl,rfl,hD7⟩ hN hM
   refine⟨_,rfl,_,rfl,_,_,rfl,rfl,a,ns,_,rfl,u1.seq hS5,by omega,by omega,by omega,fun z H8 u8=>?_⟩
   exact hN _ H8 (u8 _ _ hD7) ⟨(u1.trans u8).upd_free hD,cs++[z],by rw[List.map_append];rfl,by rw[List.length_append];rfl,upd_same⟩
  rintro ys H7 ⟨u7,cs,rfl,hcl,hD7⟩
  have nDa:D≠le:=fun z=>by
   rw[z,hle] at hD
   cases hD
  have nDb:D≠po:=fun z=>by
   rw[z,hpo5] at hD
   cases hD
  refine⟨_,rfl,_,rfl,D,le,po,false,cs,ls,ws,rfl,hD7,by omega,by omega,by omega,nDa,nDb,u7 _ _ hle,ll,lb,u7 _ _ hpo5,wl,wt,fun p q cs' H8 kp8 hD8 lt8 hp hd hok hpl=>?_⟩
  have hpo8:=kp8 _ _ (u7 _ _ hpo5) (Ne.symm nDb)
  have hS8:SqL K H8 a (ns.map V.int):=by
   rcases hS5 with h|h
   ·rcases h with h|⟨ob,h⟩
    ·exact .inl (.inl (kp8 _ _ (u7 _ _ h) (ne_of_none h hD)))
    ·exact .inl (.inr ⟨ob,kp8 _ _ (u7 _ _ h) (ne_of_none h hD)⟩)
   ·exact .inr h
  have hcl4:cs.length=4:=hcl
  have hpl28:q.pcs.length<=28:=by omega
  have wn:∀x∈ws,SL.Tn 60 x:=fun x hx=>(wt x hx).tn
  clear kp8 u7 hD7 hD8 hle nDa nDb hcl lb ll hpl lt8
  refine⟨fun σ' H'=>∃lp,σ'=[some (.ref a),some (.ref po),some (.ref le),none,some (.ref p),some (.ref lp),none,none]/\Same H8 H'/\H' lp=some (.lst (q.pcs.map V.str)),?_,?_⟩
  ·refine⟨_,rfl,p,q,false,rfl,hp,by omega,hok,by omega,fun H9 s9=>?_⟩
   have e:=split_tx hok
   have hz:q.tx.length<=7000:=by
    have:=(join_tx (n:=60) (m:=1) SP ⟨Nat.le_refl 1,fun c hc=>by
     have:c=32:=by simpa [SP] using hc
     omega⟩ (ys:=q.pcs) fun x hx=>(pcs_tn hok x hx).tx).1
    show(Str.join SP q.pcs).length<=7000
    omega
   have l2:=parts_len q.tx (Str.ofString " ")
   refine⟨rfl,q.tx,Str.ofString " ",rfl,rfl,rfl,Nat.le_of_lt (small9 (by omega)),Nat.le_of_lt (small9 (by omega)),by rw[show Txt.split q.tx (Str.ofString " ")=q.pcs from e];exact Nat.le_of_lt (small9 (by omega)),fun lp hlp=>?_⟩
   rw[show Txt.split q.tx (Str.ofString " ")=q.pcs from e]
   exact⟨lp,rfl,s9.trans ((Same.refl H9).upd_free hlp),upd_same⟩
  rintro σ9 H9 ⟨lp0,rfl,s9,hlp0⟩
  refine⟨_,rfl,a,ns,7,rfl,s9.seq hS8,by omega,by decide,by decide,fun way H10 s10=>?_⟩
  have t10:=s9.trans s10
  have pn:∀x∈q.pcs,SL.Tn 60 x:=fun x hx=>pcs_tn hok x hx
  refine⟨fun σ' H'=>∃(lp:Addr) (ps:List Str),σ'=[some (.ref a),some (.ref po),some (.ref le),none,some (.ref p),some (.ref lp),some (.int way),none]/\Same H8 H'/\H' lp=some (.lst (ps.map V.str))/\ps.length<=70/\∀x∈ps,SL.Tn 60 x,?_,?_⟩
  ·refine⟨_,rfl,_,_,rfl,rfl,(by show(0:Int)<6;decide),rfl,decide (way%6=5),deI _ _,?_⟩
   by_cases c:way%6=5
   ·rw[decide_eq_true c]
    refine iteT ⟨(by show 1<=sizeLine;decide),fun ln hln'=>?_⟩
    have sn:Same H10 (upd H10 ln (.lst [.str (Str.ofString "not")])):=(Same.refl H10).upd_free hln'
    have qn:upd H10 ln (.lst [.str (Str.ofString "not")]) ln=some (.lst [.str (Str.ofString "not")]):=upd_same
    generalize upd H10 ln (.lst [.str (Str.ofString "not")])=H11 at sn qn ⊢
    have m0:0<=way / 6%13:=Int.emod_nonneg _ (by decide)
    have m1:way / 6%13<13:=Int.emod_lt_of_pos _ (by decide)
    refine⟨_,rfl,_,_,rfl,rfl,⟨by decide,by decide⟩,_,_,rfl,rfl,(by show(0:Int)<13;decide),_,_,rfl,rfl,ln,28+way / 6%13,_,rfl,rfl,qn,by omega,by omega,?_,fun lr hlr=>?_⟩
    ·show 1*_<=sizeLine
     have:1000<=sizeLine:=by decide
     omega
    ·have er:(List.replicate (28+way / 6%13).toNat [V.str (Str.ofString "not")]).flatten=(List.replicate (28+way / 6%13).toNat (Str.ofString "not")).map V.str:=by
      rw[List.map_replicate,List.flatten_replicate_singleton]
     rw[er]
     have s12:Same H11 (upd H11 lr (.lst ((List.replicate (28+way / 6%13).toNat (Str.ofString "not")).map V.str))):=(Same.refl H11).upd_free hlr
     have q12:upd H11 lr (.lst ((List.replicate (28+way / 6%13).toNat (Str.ofString "not")).map V.str)) lr=_:=upd_same
     generalize upd H11 lr (.lst ((List.replicate (28+way / 6%13).toNat (Str.ofString "not")).map V.str))=H12 at s12 q12 ⊢
     refine⟨_,rfl,rcat q12 ((s10.trans (sn.trans s12)) _ _ hlp0) (by rw[List.length_replicate];omega) fun r H13 s13 h13=>⟨r,_,rfl,t10.trans (sn.trans (s12.trans s13)),h13,by rw[List.length_append,List.length_replicate];omega,fun x hx=>?_⟩⟩
     rcases List.mem_append.mp hx with hx|hx
     ·rw[List.eq_of_mem_replicate hx]
      exact⟨by decide,by decide +kernel⟩
     ·exact pn x hx
   ·rw[decide_eq_false c]
    exact iteF ⟨lp0,q.pcs,rfl,t10,s10 _ _ hlp0,by omega,pn⟩
  rintro σ11 H11 ⟨lp1,ps1,rfl,s11,hlp1,pl1,pn1⟩
  refine⟨fun σ' H'=>∃(lp:Addr) (ps:List Str),σ'=[some (.ref a),some (.ref po),some (.ref le),none,some (.ref p),some (.ref lp),some (.int way),none]/\Same H8 H'/\H' lp=some (.lst (ps.map V.str))/\ps.length<=70/\∀x∈ps,SL.Tn 60 x,?_,?_⟩
  ·refine⟨_,rfl,_,_,rfl,rfl,⟨by decide,by decide⟩,_,_,rfl,rfl,(by show(0:Int)<8;decide),rfl,decide (way / 78%8=3),deI _ _,?_⟩
   by_cases c:way / 78%8=3
   ·rw[decide_eq_true c]
    refine iteT ⟨_,rfl,_,rfl,way,1,rfl,by decide,by decide,fun z z0=>⟨_,rfl,lp1,_,rfl,.inl (SqL.of hlp1),_,_,rfl,rfl,_,_,rfl,rfl,?_,?_⟩⟩
    ·show(0:Int)<((ps1.map V.str).length:Int)+1
     omega
    ·have m0:0<=z%(((ps1.map V.str).length:Int)+1):=Int.emod_nonneg _ (by omega)
     have e0:((z%(((ps1.map V.str).length:Int)+1)).toNat:Int)=z%(((ps1.map V.str).length:Int)+1):=Int.toNat_of_nonneg m0
     refine⟨_,rfl,rsl hlp1 (qs:=ps1.take (z%(((ps1.map V.str).length:Int)+1)).toNat) (by rw[<- mapT,e0]) fun r H12 s12 h12=>⟨r,_,rfl,s11.trans s12,h12,?_,fun x hx=>pn1 x (List.mem_of_mem_take hx)⟩⟩
     rw[List.length_take]
     omega
   ·rw[decide_eq_false c]
    exact iteF ⟨lp1,ps1,rfl,s11,hlp1,pl1,pn1⟩
  rintro σ12 H12 ⟨lp2,ps2,rfl,s12,hlp2,pl2,pn2⟩
  refine⟨fun σ' H'=>∃(lp:Addr) (ps:List Str),σ'=[some (.ref a),some (.ref po),some (.ref le),none,some (.ref p),some (.ref lp),some (.int way),none]/\Same H8 H'/\H' lp=some (.lst (ps.map V.str))/\ps.length<=73/\∀x∈ps,SL.Tn 60 x,?_,?_⟩
  ·refine⟨_,rfl,_,_,rfl,rfl,⟨by decide,by decide⟩,_,_,rfl,rfl,(by show(0:Int)<8;decide),rfl,decide (way / 624%8=2),deI _ _,?_⟩
   by_cases c:way / 624%8=2
   ·rw[decide_eq_true c]
    refine iteT ⟨(by show 3<=sizeLine;decide),fun ln hln'=>?_⟩
    have sn:Same H12 (upd H12 ln (.lst [.str (Str.ofString "times"),.str (Str.ofString "3"),.str (Str.ofString "20")])):=(Same.refl H12).upd_free hln'
    have qn:upd H12 ln (.lst [.str (Str.ofString "times"),.str (Str.ofString "3"),.str (Str.ofString "20")]) ln=some (.lst ([Str.ofString "times",Str.ofString "3",Str.ofString "20"].map V.str)):=upd_same
    generalize upd H12 ln (.lst [.str (Str.ofString "times"),.str (Str.ofString "3"),.str (Str.ofString "20")])=H13 at sn qn ⊢
    refine⟨_,rfl,rcat qn (sn _ _ hlp2) (by show 3+_<=2000;omega) fun r H14 s14 h14=>⟨r,_,rfl,s12.trans (sn.trans s14),h14,by rw[List.length_append];show 3+_<=73;omega,fun x hx=>?_⟩⟩
    rcases List.mem_append.mp hx with hx|hx
    ·simp only[List.mem_cons,List.not_mem_nil,or_false] at hx
     rcases hx with rfl|rfl|rfl<;>exact⟨by decide,by decide +kernel⟩
    ·exact pn2 x hx
   ·rw[decide_eq_false c]
    exact iteF ⟨lp2,ps2,rfl,s12,hlp2,by omega,pn2⟩
  rintro σ13 H13 ⟨lp3,ps3,rfl,s13,hlp3,pl3,pn3⟩
  obtain⟨j1,j2,j3⟩:=sj (by omega) pn3
  have l3:=parts_len (Str.join (Str.ofString " ") ps3) (Str.ofString " ")
  refine⟨rfl,_,rfl,Str.ofString " ",lp3,ps3,rfl,rfl,SqL.of hlp3,sumJ (by omega) pn3,?_⟩
  refine⟨rfl,_,rfl,Str.ofString " ",lp3,ps3,rfl,rfl,SqL.of hlp3,sumJ (by omega) pn3,?_⟩
  refine⟨rfl,Str.join (Str.ofString " ") ps3,Str.ofString " ",rfl,rfl,rfl,Nat.le_of_lt (small9 (by omega)),Nat.le_of_lt (small9 (by omega)),Nat.le_of_lt (small9 (by omega)),fun ly hly=>?_⟩
  refine⟨ly,Txt.split (Str.join (Str.ofString " ") ps3) (Str.ofString " "),rfl,upd_same,by omega,j3,fun H14 s14=>?_⟩
  rw[due_qo]
  refine⟨Str.join (Str.ofString " ") ps3,rfl,by omega,by omega,j3,fun H15 s15=>⟨true,rfl,iteF ?_⟩⟩
  have t15:Same H8 H15:=s13.trans (((Same.refl H13).upd_free hly).trans (s14.trans s15))
  have hlp15:=(((Same.refl H13).upd_free hly).trans (s14.trans s15)) _ _ hlp3
  clear hlp3 s13 s14 s15
  refine⟨(by show 4<=sizeLine;decide),fun lx hlx=>?_⟩
  have s16:Same H15 (upd H15 lx (.lst (([8,9,10,11]:List Int).map V.int))):=(Same.refl H15).upd_free hlx
  have q16:upd H15 lx (.lst (([8,9,10,11]:List Int).map V.int)) lx=some (.lst (([8,9,10,11]:List Int).map V.int)):=upd_same
  change ∃_,_
  refine⟨lx,rfl,⟨_,SqL.of q16⟩,?_⟩
  refine for_list (K:=K) (a:=lx) (xs:=([8,9,10,11]:List Int).map V.int) (fun i σ H'=>∃(lp:Addr) (ps:List Str) (v3 v7:Option V),σ=[some (.ref a),some (.ref po),some (.ref le),v3,some (.ref p),some (.ref lp),some (.int way),v7]/\Same (upd H15 lx (.lst (([8,9,10,11]:List Int).map V.int))) H'/\H' lp=some (.lst (ps.map V.str))/\ps.length<=73+i/\∀x∈ps,SL.Tn 60 x)
   ⟨lp3,ps3,none,none,rfl,Same.refl _,s16 _ _ hlp15,by omega,pn3⟩ (fun i σ H' _ ⟨_,_,_,_,_,s,_⟩=>SqL.of (s _ _ q16)) ?_ ?_
  ·rintro i x σ H17 hx ⟨lp,ps,v3,v7,rfl,s17,hlp,pl,pn⟩
   have hi:i<4:=(List.getElem?_eq_some_iff.mp hx).1
   obtain⟨n,hn,rfl⟩:=List.mem_map.mp (List.mem_of_getElem? hx)
   have hn2:0<=n/\n<=11:=by
    simp only[List.mem_cons,List.not_mem_nil,or_false] at hn
    omega
   have t17:=t15.trans (s16.trans s17)
   refine⟨_,rfl,_,rfl,_,rfl,a,ns,n,rfl,t17.seq hS8,by omega,hn2.1,by omega,fun c H18 s18=>?_⟩
   refine⟨_,rfl,lp,po,c,ps,ws,rfl,s18 _ _ hlp,by omega,pn,(t17.trans s18) _ _ hpo8,wl,wn,fun r qs H19 s19 hr' ql qn=>?_⟩
   obtain⟨j1,j2,j3⟩:=sj (by omega) qn
   have l3:=parts_len (Str.join (Str.ofString " ") qs) (Str.ofString " ")
   refine⟨rfl,_,rfl,Str.ofString " ",r,qs,rfl,rfl,SqL.of hr',sumJ (by omega) qn,?_⟩
   refine⟨_,rfl,_,rfl,rfl,Str.join (Str.ofString " ") qs,Str.ofString " ",rfl,rfl,rfl,Nat.le_of_lt (small9 (by omega)),Nat.le_of_lt (small9 (by omega)),Nat.le_of_lt (small9 (by omega)),fun ly hly=>?_⟩
   refine⟨ly,Txt.split (Str.join (Str.ofString " ") qs) (Str.ofString " "),rfl,upd_same,by omega,j3,fun H20 s20=>?_⟩
   rw[due_qo]
   refine⟨Str.join (Str.ofString " ") qs,rfl,by omega,by omega,j3,fun H21 s21=>⟨true,rfl,iteF ?_⟩⟩
   have u21:=((Same.refl H19).upd_free hly).trans (s20.trans s21)
   exact⟨r,qs,_,_,rfl,s17.trans (s18.trans (s19.trans u21)),u21 _ _ hr',by omega,qn⟩
  ·rintro σ H17 ⟨lp,ps,v3,v7,rfl,_⟩
   exact k H17
end
end QL
namespace QL
open PySem L2
abbrev clF (r w h a t b e n:Addr):Kd->Addr
 |.row=>r
 |.wit=>w
 |.beh=>h
 |.ahd=>a
 |.tim=>t
 |.bot=>b
 |.eit=>e
 |.non=>n
theorem kinds_nd (as:Kd->Addr):((kindsT as).map (·.1)).Nodup:=by
 show([Str.ofString "row",Str.ofString "with",Str.ofString "behind",Str.ofString "ahead",Str.ofString "times",Str.ofString "both",Str.ofString "either",Str.ofString "not"]:List Str).Nodup
 decide +kernel
section
variable {P:Program} {w:World} {K:W.Frag} {mg:Str->Option Value} {base:Heap} {cl:Kd->Addr}
theorem ok_all {as:Kd->Addr}(F:Fun K "law" "law" sLaw f fd)(T:Txt mg)
  (M4:Mk4 P w K mg base cl fRi fWi fHi fAi dRi dWi dHi dAi) (M5:Mk5 P w K mg base cl fTi fJi fNi dTi dJi dNi) (TT:TK w K mg aK aL aG as)
  (RG:RiG mg XQ C1 C2 C3 C4 CQ CL) (RC:RiC K cl XQ C1 C2 C3 C4 CQ CL) (MX:MkX K XQ fXi) (FXi:Fun K "__init__" "NoQuestion.__init__" sXq fXi dXi) (bXi:Binds K dXi ["self","at"] []) (hS:excSet K XQ "at"=true) (rz:excRz K XQ=true)
  (FC1:Fun K "_law_cell_at" "_law_cell_at" sCe fC1 dC1) (bC1:Binds K dC1 ["_law_script","_law_k"] []) (gC1:mg "_law_cell_at"=some (.ref fC1))
  (FM1:Fun K "_law_mix" "_law_mix" sMi fM1 dM1) (bM1:Binds K dM1 ["_law_cell","_law_k"] []) (gM1:mg "_law_mix"=some (.ref fM1))
  (FP:Fun K "_law_pool" "_law_pool" sPo fP dP) (bP:Binds K dP ["_law_cell","_law_other"] []) (gP:mg "_law_pool"=some (.ref fP))
  (FL:Fun K "_law_letters" "_law_letters" sLe fL dL) (bL:Binds K dL ["_law_cell"] []) (gL:mg "_law_letters"=some (.ref fL))
  (FCo:Fun K "_law_count" "_law_count" sCo fCo dCo) (bCo:Binds K dCo ["_law_cell","_law_k"] []) (gCo:mg "_law_count"=some (.ref fCo))
  (FSh:Fun K "_law_short" "_law_short" sSh fSh dSh) (bSh:Binds K dSh ["_law_cell","_law_letters_here","_law_pool_here"] []) (gSh:mg "_law_short"=some (.ref fSh))
  (FNr:Fun K "_law_nearer" "_law_nearer" sNr fNr dNr) (bNr:Binds K dNr ["_law_asked","_law_within"] []) (gNr:mg "_law_nearer"=some (.ref fNr))
  (FGw:Fun K "_law_grown" "_law_grown" sGw fGw dGw) (bGw:Binds K dGw ["_law_cells","_law_letters_here","_law_pool_here","_law_within"] []) (gGw:mg "_law_grown"=some (.ref fGw))
  (FTe:Fun K "_law_text" "_law_text" sTe fTe dTe) (bTe:Binds K dTe ["_law_asked"] []) (gTe:mg "_law_text"=some (.ref fTe))
  (FOp:Fun K "_law_odd_piece" "_law_odd_piece" sOp fOp dOp) (bOp:Binds K dOp ["_law_cell","_law_pool_here"] []) (gOp:mg "_law_odd_piece"=some (.ref fOp))
  (FCh:Fun K "_law_changed" "_law_changed" sCh fCh dCh) (bCh:Binds K dCh ["_law_pieces","_law_cell","_law_pool_here"] []) (gCh:mg "_law_changed"=some (.ref fCh))
  (FLm:Fun K "_law_made_of" "_law_made_of" sLm fLm dLm) (bLm:Binds K dLm ["_law_text_here","_law_signs"] []) (gLm:mg "_law_made_of"=some (.ref fLm))
  (FLi:Fun K "_law_is_item" "_law_is_item" sLi fLi dLi) (bLi:Binds K dLi ["_law_text_here"] []) (gLi:mg "_law_is_item"=some (.ref fLi))
  (FLw:Fun K "_law_is_word" "_law_is_word" sLw fLw dLw) (bLw:Binds K dLw ["_law_text_here"] []) (gLw:mg "_law_is_word"=some (.ref fLw))
  (FLn:Fun K "_law_wanted" "_law_wanted" sLn fLn dLn) (bLn:Binds K dLn ["_law_kind","_law_within"] []) (gLn:mg "_law_wanted"=some (.ref fLn))
  (FLo:Fun K "_law_goes" "_law_goes" sLo fLo dLo) (bLo:Binds K dLo ["_law_piece","_law_wanted_here"] []) (gLo:mg "_law_goes"=some (.ref fLo))
  (FDu:Fun K "_law_due" "_law_due" sDu fDu dDu) (bDu:Binds K dDu ["_law_pieces"] []) (gDu:mg "_law_due"=some (.ref fDu))
  (FRt:Fun K "_law_right" "_law_right" sLr fRt dRt) (bRt:Binds K dRt ["_law_text_here","_law_due_here"] []) (gRt:mg "_law_right"=some (.ref fRt))
  (FXm:Fun K "made" "made" sMd fXm dXm) (bXm:Binds K dXm ["word","parts"] []) (gXm:mg "made"=some (.ref fXm))
  (FXv:Fun K "value_of" "value_of" sVo fXv dXv) (bXv:Binds K dXv ["kind","piece"] []) (gXv:mg "value_of"=some (.ref fXv))
  (FXp:Fun K "piece_at" "piece_at" sPi fXp dXp) (bXp:Binds K dXp ["pieces","at"] []) (gXp:mg "piece_at"=some (.ref fXp))
  (FXa:Fun K "part_at" "part_at" sPt fXa dXa) (bXa:Binds K dXa ["kind","pieces","at","within"] []) (gXa:mg "part_at"=some (.ref fXa))
  (FXq:Fun K "question_at" "question_at" sQt fXq dXq) (bXq:Binds K dXq ["pieces","at","within"] []) (gXq:mg "question_at"=some (.ref fXq))
  (FXo:Fun K "question_of" "question_of" sQo fXo dXo) (bXo:Binds K dXo ["text"] []) (gXo:mg "question_of"=some (.ref fXo))
  (FSo:Fun K "sort_of" "sort_of" SL.sSo fSo dSo) (bSo:Binds K dSo ["text"] []) (gSo:mg "sort_of"=some (.ref fSo))
  (GSo:FnOk P w K mg base CX0 5 fSo dSo ["text"] SL.spSo):FnOk P w K mg base CX0 92 f fd ["_law_script"] (spLaw K):=by
 have GP:FnOk P w K mg base CX0 2 fP dP ["_law_cell","_law_other"] spPo2:=ok_po2 FP T FM1 bM1 gM1
 have GGw:FnOk P w K mg base CX0 8 fGw dGw ["_law_cells","_law_letters_here","_law_pool_here","_law_within"] (spGw 5):=ok_gw FGw bGw gGw FM1 bM1 gM1 FCo bCo gCo FSh bSh gSh FNr bNr gNr 5
 have GTe:FnOk P w K mg base CX0 6 fTe dTe ["_law_asked"] (spTe 5):=ok_te FTe T bTe gTe 5
 have GXi:FnOk P w K mg base CX0 1 fXi dXi ["self","at"] (SL.spNi XQ):=ok_xq FXi hS
 have GXp:FnOk P w K mg base (CX1 P w) 3 fXp dXp ["pieces","at"] (spPiX XQ):=ok_piX FXp T TT MX RG.gN bXi GXi rz
 have GXv:FnOk P w K mg base CX0 6 fXv dXv ["kind","piece"] spVoX:=ok_voX FXv T TT FSo bSo gSo GSo
 have GXm:FnOk P w K mg base CX0 3 fXm dXm ["word","parts"] (spMd cl):=ok_md FXm M4 M5
 have GXq:FnOk P w K mg base (CX1 P w) 89 fXq dXq ["pieces","at","within"] (spQtX cl XQ 41):=ok_qtX FXq bXq gXq TT FXp bXp gXp GXp FXv bXv gXv GXv FXa bXa gXa FXm bXm gXm GXm MX RG.gN bXi GXi rz 41
 have GXo:FnOk P w K mg base (CX1 P w) 90 fXo dXo ["text"] (spQoY cl XQ):=ok_qoX FXo T FXq bXq gXq GXq MX RG.gN bXi GXi rz
 have GRt:FnOk P w K mg base CX0 91 fRt dRt ["_law_text_here","_law_due_here"] (spRw ()):=ok_rw FRt T RG RC FXo bXo gXo GXo
 have GLw:FnOk P w K mg base CX0 3 fLw dLw ["_law_text_here"] (spBo fun z=>(SL.sortM z).isSome):=ok_lw FLw T FLm bLm gLm FLi bLi gLi
 have GLo:FnOk P w K mg base CX0 4 fLo dLo nLo spLo:=ok_lo FLo T FLw bLw gLw GLw FLn bLn gLn
 have GDu:FnOk P w K mg base CX0 5 fDu dDu ["_law_pieces"] spDu:=ok_du FDu T FLo bLo gLo GLo FLn bLn gLn
 have GCh:FnOk P w K mg base CX0 3 fCh dCh ["_law_pieces","_law_cell","_law_pool_here"] spCh:=ok_ch FCh T FM1 bM1 gM1 FOp bOp gOp
 exact ok_law F T FC1 bC1 gC1 FP bP gP GP FL bL gL FGw bGw gGw GGw FTe bTe gTe GTe FM1 bM1 gM1 FRt bRt gRt GRt FDu bDu gDu GDu FCh bCh gCh GCh
end
end QL
namespace QL
open PySem L2
abbrev fO (x q:Str)(st:Stmt)(oc:Value)(od:Option Addr)(kV dc pm:Value)(an:Option Addr)(cd ct:Value)(sl:Array (Option Value)):Option Obj:=some ⟨oc,od,.func (W.fnOf x q (defArgs st) (defBody st) (defScope st) .none kV dc pm an cd ct),sl⟩
theorem all_mk {l:W.OpenLaw}{w:World}{K:W.Frag}{h:Heap}{mg:Str->Option Value}{CR CE SK:Addr}(X:K.In h)(G:h.Ns mainGlobals mg)(hfa:mg "law"=some (.ref fa))
  {U0 U1 U2 U3 U4 U5 U6 U7:Addr} {esK esL esG:Array DictEntry} {epK epL epG nt0 nt1 nt2 nt3 nt4 nt5 nt6 nt7:Nat} {it0 it1 it2 it3 it4 it5 it6 it7:Array Value}
  {tkf tks tkn tkm tka tkb tkc tkp:Tok}
  (aCR:W.nsIn K mainGlobals "Row"=some (some (.ref CR)))
  (pgCR:W.plainGet K CR Str.empty=true)
  (hdCR:W.hasDictIn K CR=true)
  (poCR:W.plainOver K CR=true)
  (saCR:W.findIn K (.ref CR) "__setattr__"=some (some (.builtin "object.__setattr__")))
  (mkCR:W.makesIn K CR=true)
  (kcCR:W.keepIn K (.ref CR)=true)
  (haCR:W.findIn K (.ref CR) "__class__"=some (some (.builtin "object.__class__")))
  (hmCR:W.mroIn K CR (.type "object")=some true)
  (nCR_wanted:W.findIn K (.ref CR) "wanted"=some none)
  (aCW:W.nsIn K mainGlobals "With"=some (some (.ref CW)))
  (pgCW:W.plainGet K CW Str.empty=true)
  (hdCW:W.hasDictIn K CW=true)
  (poCW:W.plainOver K CW=true)
  (saCW:W.findIn K (.ref CW) "__setattr__"=some (some (.builtin "object.__setattr__")))
  (mkCW:W.makesIn K CW=true)
  (kcCW:W.keepIn K (.ref CW)=true)
  (haCW:W.findIn K (.ref CW) "__class__"=some (some (.builtin "object.__class__")))
  (hmCW:W.mroIn K CW (.type "object")=some true)
  (nCW_here:W.findIn K (.ref CW) "here"=some none)
  (nCW_wanted:W.findIn K (.ref CW) "wanted"=some none)
  (aCH:W.nsIn K mainGlobals "Behind"=some (some (.ref CH)))
  (pgCH:W.plainGet K CH Str.empty=true)
  (hdCH:W.hasDictIn K CH=true)
  (poCH:W.plainOver K CH=true)
  (saCH:W.findIn K (.ref CH) "__setattr__"=some (some (.builtin "object.__setattr__")))
  (mkCH:W.makesIn K CH=true)
  (kcCH:W.keepIn K (.ref CH)=true)
  (haCH:W.findIn K (.ref CH) "__class__"=some (some (.builtin "object.__class__")))
  (hmCH:W.mroIn K CH (.type "object")=some true)
  (nCH_here:W.findIn K (.ref CH) "here"=some none)
  (nCH_away:W.findIn K (.ref CH) "away"=some none)
  (nCH_reach:W.findIn K (.ref CH) "reach"=some none)
  (aCA:W.nsIn K mainGlobals "Ahead"=some (some (.ref CA)))
  (pgCA:W.plainGet K CA Str.empty=true)
  (hdCA:W.hasDictIn K CA=true)
  (poCA:W.plainOver K CA=true)
  (saCA:W.findIn K (.ref CA) "__setattr__"=some (some (.builtin "object.__setattr__")))
  (mkCA:W.makesIn K CA=true)
  (kcCA:W.keepIn K (.ref CA)=true)
  (haCA:W.findIn K (.ref CA) "__class__"=some (some (.builtin "object.__class__")))
  (hmCA:W.mroIn K CA (.type "object")=some true)
  (nCA_here:W.findIn K (.ref CA) "here"=some none)
  (nCA_away:W.findIn K (.ref CA) "away"=some none)
  (nCA_reach:W.findIn K (.ref CA) "reach"=some none)
  (aCT:W.nsIn K mainGlobals "Times"=some (some (.ref CT)))
  (pgCT:W.plainGet K CT Str.empty=true)
  (hdCT:W.hasDictIn K CT=true)
  (poCT:W.plainOver K CT=true)
  (saCT:W.findIn K (.ref CT) "__setattr__"=some (some (.builtin "object.__setattr__")))
  (mkCT:W.makesIn K CT=true)
  (kcCT:W.keepIn K (.ref CT)=true)
  (haCT:W.findIn K (.ref CT) "__class__"=some (some (.builtin "object.__class__")))
  (hmCT:W.mroIn K CT (.type "object")=some true)
  (nCT_reach:W.findIn K (.ref CT) "reach"=some none)
  (nCT_least:W.findIn K (.ref CT) "least"=some none)
  (nCT_inner:W.findIn K (.ref CT) "inner"=some none)
  (aCB:W.nsIn K mainGlobals "Both"=some (some (.ref CB)))
  (pgCB:W.plainGet K CB Str.empty=true)
  (hdCB:W.hasDictIn K CB=true)
  (poCB:W.plainOver K CB=true)
  (saCB:W.findIn K (.ref CB) "__setattr__"=some (some (.builtin "object.__setattr__")))
  (mkCB:W.makesIn K CB=true)
  (kcCB:W.keepIn K (.ref CB)=true)
  (haCB:W.findIn K (.ref CB) "__class__"=some (some (.builtin "object.__class__")))
  (hmCB:W.mroIn K CB (.type "object")=some true)
  (nCB_one:W.findIn K (.ref CB) "one"=some none)
  (nCB_other:W.findIn K (.ref CB) "other"=some none)
  (aCE:W.nsIn K mainGlobals "Either"=some (some (.ref CE)))
  (pgCE:W.plainGet K CE Str.empty=true)
  (hdCE:W.hasDictIn K CE=true)
  (poCE:W.plainOver K CE=true)
  (saCE:W.findIn K (.ref CE) "__setattr__"=some (some (.builtin "object.__setattr__")))
  (mkCE:W.makesIn K CE=true)
  (kcCE:W.keepIn K (.ref CE)=true)
  (haCE:W.findIn K (.ref CE) "__class__"=some (some (.builtin "object.__class__")))
  (hmCE:W.mroIn K CE (.type "object")=some true)
  (nCE_one:W.findIn K (.ref CE) "one"=some none)
  (nCE_other:W.findIn K (.ref CE) "other"=some none)
  (aCN:W.nsIn K mainGlobals "Not"=some (some (.ref CN)))
  (pgCN:W.plainGet K CN Str.empty=true)
  (hdCN:W.hasDictIn K CN=true)
  (poCN:W.plainOver K CN=true)
  (saCN:W.findIn K (.ref CN) "__setattr__"=some (some (.builtin "object.__setattr__")))
  (mkCN:W.makesIn K CN=true)
  (kcCN:W.keepIn K (.ref CN)=true)
  (haCN:W.findIn K (.ref CN) "__class__"=some (some (.builtin "object.__class__")))
  (hmCN:W.mroIn K CN (.type "object")=some true)
  (nCN_one:W.findIn K (.ref CN) "one"=some none)
  (aSN:W.nsIn K mainGlobals "Number"=some (some (.ref SN)))
  (pgSN:W.plainGet K SN Str.empty=true)
  (hdSN:W.hasDictIn K SN=true)
  (poSN:W.plainOver K SN=true)
  (saSN:W.findIn K (.ref SN) "__setattr__"=some (some (.builtin "object.__setattr__")))
  (mkSN:W.makesIn K SN=true)
  (kcSN:W.keepIn K (.ref SN)=true)
  (haSN:W.findIn K (.ref SN) "__class__"=some (some (.builtin "object.__class__")))
  (hmSN:W.mroIn K SN (.type "object")=some true)
  (inSN:W.findIn K (.ref SN) "__init__"=some (some (.builtin "object.__init__")))
  (aSA:W.nsIn K mainGlobals "Name"=some (some (.ref SA)))
  (pgSA:W.plainGet K SA Str.empty=true)
  (hdSA:W.hasDictIn K SA=true)
  (poSA:W.plainOver K SA=true)
  (saSA:W.findIn K (.ref SA) "__setattr__"=some (some (.builtin "object.__setattr__")))
  (mkSA:W.makesIn K SA=true)
  (kcSA:W.keepIn K (.ref SA)=true)
  (haSA:W.findIn K (.ref SA) "__class__"=some (some (.builtin "object.__class__")))
  (hmSA:W.mroIn K SA (.type "object")=some true)
  (inSA:W.findIn K (.ref SA) "__init__"=some (some (.builtin "object.__init__")))
  (aSI:W.nsIn K mainGlobals "Items"=some (some (.ref SI)))
  (pgSI:W.plainGet K SI Str.empty=true)
  (hdSI:W.hasDictIn K SI=true)
  (poSI:W.plainOver K SI=true)
  (saSI:W.findIn K (.ref SI) "__setattr__"=some (some (.builtin "object.__setattr__")))
  (mkSI:W.makesIn K SI=true)
  (kcSI:W.keepIn K (.ref SI)=true)
  (haSI:W.findIn K (.ref SI) "__class__"=some (some (.builtin "object.__class__")))
  (hmSI:W.mroIn K SI (.type "object")=some true)
  (inSI:W.findIn K (.ref SI) "__init__"=some (some (.builtin "object.__init__")))
  (aSK:W.nsIn K mainGlobals "Mark"=some (some (.ref SK)))
  (pgSK:W.plainGet K SK Str.empty=true)
  (hdSK:W.hasDictIn K SK=true)
  (poSK:W.plainOver K SK=true)
  (saSK:W.findIn K (.ref SK) "__setattr__"=some (some (.builtin "object.__setattr__")))
  (mkSK:W.makesIn K SK=true)
  (kcSK:W.keepIn K (.ref SK)=true)
  (haSK:W.findIn K (.ref SK) "__class__"=some (some (.builtin "object.__class__")))
  (hmSK:W.mroIn K SK (.type "object")=some true)
  (inSK:W.findIn K (.ref SK) "__init__"=some (some (.builtin "object.__init__")))
  (aAK:W.nsIn K mainGlobals "KINDS"=some (some (.ref AK)))
  (aAL:W.nsIn K mainGlobals "LEAST"=some (some (.ref AL)))
  (aAG:W.nsIn K mainGlobals "GREATEST"=some (some (.ref AG)))
  (aXQ:W.nsIn K mainGlobals "NoQuestion"=some (some (.ref XQ)))
  (kcXQ:W.keepIn K (.ref XQ)=true)
  (aXC1:W.nsIn K mainGlobals "NoRow"=some (some (.ref XC1)))
  (aXC2:W.nsIn K mainGlobals "NoForm"=some (some (.ref XC2)))
  (aXC3:W.nsIn K mainGlobals "NoGap"=some (some (.ref XC3)))
  (aXC4:W.nsIn K mainGlobals "NoFit"=some (some (.ref XC4)))
  (aXU:W.nsIn K mainGlobals "Question"=some (some (.ref XU)))
  (aXL:W.nsIn K mainGlobals "LoomError"=some (some (.ref XL)))
  (hn:W.specialIn K (.builtin "object.__class__") "__get__"=some (some (.builtin "getset_descriptor.__get__")))
  (htk:W.takesIn K (.builtin "object.__class__")=some true)
  (kitCRXU:W.kitOne K (.ref CR) (.ref XU)=some true)
  (kitCWXU:W.kitOne K (.ref CW) (.ref XU)=some true)
  (kitCHXU:W.kitOne K (.ref CH) (.ref XU)=some true)
  (kitCAXU:W.kitOne K (.ref CA) (.ref XU)=some true)
  (kitCTXU:W.kitOne K (.ref CT) (.ref XU)=some true)
  (kitCBXU:W.kitOne K (.ref CB) (.ref XU)=some true)
  (kitCEXU:W.kitOne K (.ref CE) (.ref XU)=some true)
  (kitCNXU:W.kitOne K (.ref CN) (.ref XU)=some true)
  (lkK:K.lookup AK=some ⟨.type "dict",none,.dict esK epK,#[]⟩)
  (smK:(AK==sysModules)=false)
  (lkL:K.lookup AL=some ⟨.type "dict",none,.dict esL epL,#[]⟩)
  (smL:(AL==sysModules)=false)
  (lkG:K.lookup AG=some ⟨.type "dict",none,.dict esG epG,#[]⟩)
  (smG:(AG==sysModules)=false)
  (enK:KEnt w.params esK.toList (kindsT (clF U0 U1 U2 U3 U4 U5 U6 U7)))
  (enL:KEnt w.params esL.toList leastT)
  (enG:KEnt w.params esG.toList greatT)
  (lT0:K.lookup U0=some ⟨.type "tuple",none,.seq it0 nt0,#[]⟩)
  (zT0:it0.size<=sizeLine)
  (vT0:Vals ((kindsOf .row).map V.str) it0.toList)
  (lT1:K.lookup U1=some ⟨.type "tuple",none,.seq it1 nt1,#[]⟩)
  (zT1:it1.size<=sizeLine)
  (vT1:Vals ((kindsOf .wit).map V.str) it1.toList)
  (lT2:K.lookup U2=some ⟨.type "tuple",none,.seq it2 nt2,#[]⟩)
  (zT2:it2.size<=sizeLine)
  (vT2:Vals ((kindsOf .beh).map V.str) it2.toList)
  (lT3:K.lookup U3=some ⟨.type "tuple",none,.seq it3 nt3,#[]⟩)
  (zT3:it3.size<=sizeLine)
  (vT3:Vals ((kindsOf .ahd).map V.str) it3.toList)
  (lT4:K.lookup U4=some ⟨.type "tuple",none,.seq it4 nt4,#[]⟩)
  (zT4:it4.size<=sizeLine)
  (vT4:Vals ((kindsOf .tim).map V.str) it4.toList)
  (lT5:K.lookup U5=some ⟨.type "tuple",none,.seq it5 nt5,#[]⟩)
  (zT5:it5.size<=sizeLine)
  (vT5:Vals ((kindsOf .bot).map V.str) it5.toList)
  (lT6:K.lookup U6=some ⟨.type "tuple",none,.seq it6 nt6,#[]⟩)
  (zT6:it6.size<=sizeLine)
  (vT6:Vals ((kindsOf .eit).map V.str) it6.toList)
  (lT7:K.lookup U7=some ⟨.type "tuple",none,.seq it7 nt7,#[]⟩)
  (zT7:it7.size<=sizeLine)
  (vT7:Vals ((kindsOf .non).map V.str) it7.toList)
  (xi1:W.kitOne K (.ref XQ) (.ref XC1)=some false)
  (xi2:W.kitOne K (.ref XQ) (.ref XC2)=some false)
  (xi3:W.kitOne K (.ref XQ) (.ref XC3)=some false)
  (xi4:W.kitOne K (.ref XQ) (.ref XC4)=some false)
  (xiV:W.kitOne K (.ref XQ) (.type "ValueError")=some true)
  (xnt:W.kitOne K (.type "int") (.type "bool")=some false)
  (xit:W.kitOne K (.type "int") (.type "int")=some true)
  (xget:excGet K XQ=true)
  (xfat:excGetF K XQ "at"=true)
  (xset:excSet K XQ "at"=true)
  (xrz:excRz K XQ=true)
  (xtN:takesX K XQ (.ref XQ)=true)
  (xtL:takesX K XQ (.ref XL)=true)
  (aC1:W.nsIn K mainGlobals "_law_cell_at"=some (some (.ref fC1)))
  (lC1:K.lookup fC1=fO "_law_cell_at" "_law_cell_at" sCe ocC1 odC1 kVC1 dcC1 pmC1 anC1 cdC1 ctC1 slC1)
  (cC1:W.codeIn K cdC1 "_law_cell_at"=true)
  (kC1:W.keepIn K (.ref fC1)=true)
  (aM1:W.nsIn K mainGlobals "_law_mix"=some (some (.ref fM1)))
  (lM1:K.lookup fM1=fO "_law_mix" "_law_mix" sMi ocM1 odM1 kVM1 dcM1 pmM1 anM1 cdM1 ctM1 slM1)
  (cM1:W.codeIn K cdM1 "_law_mix"=true)
  (kM1:W.keepIn K (.ref fM1)=true)
  (aP:W.nsIn K mainGlobals "_law_pool"=some (some (.ref fP)))
  (lP:K.lookup fP=fO "_law_pool" "_law_pool" sPo ocP odP kVP dcP pmP anP cdP ctP slP)
  (cP:W.codeIn K cdP "_law_pool"=true)
  (kP:W.keepIn K (.ref fP)=true)
  (aL:W.nsIn K mainGlobals "_law_letters"=some (some (.ref fL)))
  (lL:K.lookup fL=fO "_law_letters" "_law_letters" sLe ocL odL kVL dcL pmL anL cdL ctL slL)
  (cL:W.codeIn K cdL "_law_letters"=true)
  (kL:W.keepIn K (.ref fL)=true)
  (aCo:W.nsIn K mainGlobals "_law_count"=some (some (.ref fCo)))
  (lCo:K.lookup fCo=fO "_law_count" "_law_count" sCo ocCo odCo kVCo dcCo pmCo anCo cdCo ctCo slCo)
  (cCo:W.codeIn K cdCo "_law_count"=true)
  (kCo:W.keepIn K (.ref fCo)=true)
  (aSh:W.nsIn K mainGlobals "_law_short"=some (some (.ref fSh)))
  (lSh:K.lookup fSh=fO "_law_short" "_law_short" sSh ocSh odSh kVSh dcSh pmSh anSh cdSh ctSh slSh)
  (cSh:W.codeIn K cdSh "_law_short"=true)
  (kSh:W.keepIn K (.ref fSh)=true)
  (aNr:W.nsIn K mainGlobals "_law_nearer"=some (some (.ref fNr)))
  (lNr:K.lookup fNr=fO "_law_nearer" "_law_nearer" sNr ocNr odNr kVNr dcNr pmNr anNr cdNr ctNr slNr)
  (cNr:W.codeIn K cdNr "_law_nearer"=true)
  (kNr:W.keepIn K (.ref fNr)=true)
  (aGw:W.nsIn K mainGlobals "_law_grown"=some (some (.ref fGw)))
  (lGw:K.lookup fGw=fO "_law_grown" "_law_grown" sGw ocGw odGw kVGw dcGw pmGw anGw cdGw ctGw slGw)
  (cGw:W.codeIn K cdGw "_law_grown"=true)
  (kGw:W.keepIn K (.ref fGw)=true)
  (aTe:W.nsIn K mainGlobals "_law_text"=some (some (.ref fTe)))
  (lTe:K.lookup fTe=fO "_law_text" "_law_text" sTe ocTe odTe kVTe dcTe pmTe anTe cdTe ctTe slTe)
  (cTe:W.codeIn K cdTe "_law_text"=true)
  (kTe:W.keepIn K (.ref fTe)=true)
  (aOp:W.nsIn K mainGlobals "_law_odd_piece"=some (some (.ref fOp)))
  (lOp:K.lookup fOp=fO "_law_odd_piece" "_law_odd_piece" sOp ocOp odOp kVOp dcOp pmOp anOp cdOp ctOp slOp)
  (cOp:W.codeIn K cdOp "_law_odd_piece"=true)
  (kOp:W.keepIn K (.ref fOp)=true)
  (aCh:W.nsIn K mainGlobals "_law_changed"=some (some (.ref fCh)))
  (lCh:K.lookup fCh=fO "_law_changed" "_law_changed" sCh ocCh odCh kVCh dcCh pmCh anCh cdCh ctCh slCh)
  (cCh:W.codeIn K cdCh "_law_changed"=true)
  (kCh:W.keepIn K (.ref fCh)=true)
  (aLm:W.nsIn K mainGlobals "_law_made_of"=some (some (.ref fLm)))
  (lLm:K.lookup fLm=fO "_law_made_of" "_law_made_of" sLm ocLm odLm kVLm dcLm pmLm anLm cdLm ctLm slLm)
  (cLm:W.codeIn K cdLm "_law_made_of"=true)
  (kLm:W.keepIn K (.ref fLm)=true)
  (aLi:W.nsIn K mainGlobals "_law_is_item"=some (some (.ref fLi)))
  (lLi:K.lookup fLi=fO "_law_is_item" "_law_is_item" sLi ocLi odLi kVLi dcLi pmLi anLi cdLi ctLi slLi)
  (cLi:W.codeIn K cdLi "_law_is_item"=true)
  (kLi:W.keepIn K (.ref fLi)=true)
  (aLw:W.nsIn K mainGlobals "_law_is_word"=some (some (.ref fLw)))
  (lLw:K.lookup fLw=fO "_law_is_word" "_law_is_word" sLw ocLw odLw kVLw dcLw pmLw anLw cdLw ctLw slLw)
  (cLw:W.codeIn K cdLw "_law_is_word"=true)
  (kLw:W.keepIn K (.ref fLw)=true)
  (aLn:W.nsIn K mainGlobals "_law_wanted"=some (some (.ref fLn)))
  (lLn:K.lookup fLn=fO "_law_wanted" "_law_wanted" sLn ocLn odLn kVLn dcLn pmLn anLn cdLn ctLn slLn)
  (cLn:W.codeIn K cdLn "_law_wanted"=true)
  (kLn:W.keepIn K (.ref fLn)=true)
  (aLo:W.nsIn K mainGlobals "_law_goes"=some (some (.ref fLo)))
  (lLo:K.lookup fLo=fO "_law_goes" "_law_goes" sLo ocLo odLo kVLo dcLo pmLo anLo cdLo ctLo slLo)
  (cLo:W.codeIn K cdLo "_law_goes"=true)
  (kLo:W.keepIn K (.ref fLo)=true)
  (aDu:W.nsIn K mainGlobals "_law_due"=some (some (.ref fDu)))
  (lDu:K.lookup fDu=fO "_law_due" "_law_due" sDu ocDu odDu kVDu dcDu pmDu anDu cdDu ctDu slDu)
  (cDu:W.codeIn K cdDu "_law_due"=true)
  (kDu:W.keepIn K (.ref fDu)=true)
  (aRt:W.nsIn K mainGlobals "_law_right"=some (some (.ref fRt)))
  (lRt:K.lookup fRt=fO "_law_right" "_law_right" sLr ocRt odRt kVRt dcRt pmRt anRt cdRt ctRt slRt)
  (cRt:W.codeIn K cdRt "_law_right"=true)
  (kRt:W.keepIn K (.ref fRt)=true)
  (aXm:W.nsIn K mainGlobals "made"=some (some (.ref fXm)))
  (lXm:K.lookup fXm=fO "made" "made" sMd ocXm odXm kVXm dcXm pmXm anXm cdXm ctXm slXm)
  (cXm:W.codeIn K cdXm "made"=true)
  (kXm:W.keepIn K (.ref fXm)=true)
  (aXv:W.nsIn K mainGlobals "value_of"=some (some (.ref fXv)))
  (lXv:K.lookup fXv=fO "value_of" "value_of" sVo ocXv odXv kVXv dcXv pmXv anXv cdXv ctXv slXv)
  (cXv:W.codeIn K cdXv "value_of"=true)
  (kXv:W.keepIn K (.ref fXv)=true)
  (aXp:W.nsIn K mainGlobals "piece_at"=some (some (.ref fXp)))
  (lXp:K.lookup fXp=fO "piece_at" "piece_at" sPi ocXp odXp kVXp dcXp pmXp anXp cdXp ctXp slXp)
  (cXp:W.codeIn K cdXp "piece_at"=true)
  (kXp:W.keepIn K (.ref fXp)=true)
  (aXa:W.nsIn K mainGlobals "part_at"=some (some (.ref fXa)))
  (lXa:K.lookup fXa=fO "part_at" "part_at" sPt ocXa odXa kVXa dcXa pmXa anXa cdXa ctXa slXa)
  (cXa:W.codeIn K cdXa "part_at"=true)
  (kXa:W.keepIn K (.ref fXa)=true)
  (aXq:W.nsIn K mainGlobals "question_at"=some (some (.ref fXq)))
  (lXq:K.lookup fXq=fO "question_at" "question_at" sQt ocXq odXq kVXq dcXq pmXq anXq cdXq ctXq slXq)
  (cXq:W.codeIn K cdXq "question_at"=true)
  (kXq:W.keepIn K (.ref fXq)=true)
  (aXo:W.nsIn K mainGlobals "question_of"=some (some (.ref fXo)))
  (lXo:K.lookup fXo=fO "question_of" "question_of" sQo ocXo odXo kVXo dcXo pmXo anXo cdXo ctXo slXo)
  (cXo:W.codeIn K cdXo "question_of"=true)
  (kXo:W.keepIn K (.ref fXo)=true)
  (aMo:W.nsIn K mainGlobals "made_of"=some (some (.ref fMo)))
  (lMo:K.lookup fMo=fO "made_of" "made_of" SL.sMo ocMo odMo kVMo dcMo pmMo anMo cdMo ctMo slMo)
  (cMo:W.codeIn K cdMo "made_of"=true)
  (kMo:W.keepIn K (.ref fMo)=true)
  (aIi:W.nsIn K mainGlobals "is_item"=some (some (.ref fIi)))
  (lIi:K.lookup fIi=fO "is_item" "is_item" SL.sIi ocIi odIi kVIi dcIi pmIi anIi cdIi ctIi slIi)
  (cIi:W.codeIn K cdIi "is_item"=true)
  (kIi:W.keepIn K (.ref fIi)=true)
  (aAl:W.nsIn K mainGlobals "all_sorts"=some (some (.ref fAl)))
  (lAl:K.lookup fAl=fO "all_sorts" "all_sorts" SL.sAl ocAl odAl kVAl dcAl pmAl anAl cdAl ctAl slAl)
  (cAl:W.codeIn K cdAl "all_sorts"=true)
  (kAl:W.keepIn K (.ref fAl)=true)
  (aSo:W.nsIn K mainGlobals "sort_of"=some (some (.ref fSo)))
  (lSo:K.lookup fSo=fO "sort_of" "sort_of" SL.sSo ocSo odSo kVSo dcSo pmSo anSo cdSo ctSo slSo)
  (cSo:W.codeIn K cdSo "sort_of"=true)
  (kSo:W.keepIn K (.ref fSo)=true)
  (aZ:W.nsIn K mainGlobals "law"=some (some (.ref fZ)))
  (lZ:K.lookup fZ=fO "law" "law" sLaw ocZ odZ kVZ dcZ pmZ anZ cdZ ctZ slZ)
  (cZ:W.codeIn K cdZ "law"=true)
  (kZ:W.keepIn K (.ref fZ)=true)
  (aRi:W.findIn K (.ref CR) "__init__"=some (some (.ref fRi)))
  (iRi:W.isFn K (.ref fRi)=true)
  (lRi:K.lookup fRi=fO "__init__" "Row.__init__" sRi ocRi odRi kVRi dcRi pmRi anRi cdRi ctRi slRi)
  (cRi:W.codeIn K cdRi "Row.__init__"=true)
  (kRi:W.keepIn K (.ref fRi)=true)
  (aWi:W.findIn K (.ref CW) "__init__"=some (some (.ref fWi)))
  (iWi:W.isFn K (.ref fWi)=true)
  (lWi:K.lookup fWi=fO "__init__" "With.__init__" sWi ocWi odWi kVWi dcWi pmWi anWi cdWi ctWi slWi)
  (cWi:W.codeIn K cdWi "With.__init__"=true)
  (kWi:W.keepIn K (.ref fWi)=true)
  (aHi:W.findIn K (.ref CH) "__init__"=some (some (.ref fHi)))
  (iHi:W.isFn K (.ref fHi)=true)
  (lHi:K.lookup fHi=fO "__init__" "Behind.__init__" sHi ocHi odHi kVHi dcHi pmHi anHi cdHi ctHi slHi)
  (cHi:W.codeIn K cdHi "Behind.__init__"=true)
  (kHi:W.keepIn K (.ref fHi)=true)
  (aAi:W.findIn K (.ref CA) "__init__"=some (some (.ref fAi)))
  (iAi:W.isFn K (.ref fAi)=true)
  (lAi:K.lookup fAi=fO "__init__" "Ahead.__init__" sAi ocAi odAi kVAi dcAi pmAi anAi cdAi ctAi slAi)
  (cAi:W.codeIn K cdAi "Ahead.__init__"=true)
  (kAi:W.keepIn K (.ref fAi)=true)
  (aTi:W.findIn K (.ref CT) "__init__"=some (some (.ref fTi)))
  (iTi:W.isFn K (.ref fTi)=true)
  (lTi:K.lookup fTi=fO "__init__" "Times.__init__" sTi ocTi odTi kVTi dcTi pmTi anTi cdTi ctTi slTi)
  (cTi:W.codeIn K cdTi "Times.__init__"=true)
  (kTi:W.keepIn K (.ref fTi)=true)
  (aJi:W.findIn K (.ref CB) "__init__"=some (some (.ref fJi)))
  (iJi:W.isFn K (.ref fJi)=true)
  (lJi:K.lookup fJi=fO "__init__" "Joint.__init__" sJi ocJi odJi kVJi dcJi pmJi anJi cdJi ctJi slJi)
  (cJi:W.codeIn K cdJi "Joint.__init__"=true)
  (kJi:W.keepIn K (.ref fJi)=true)
  (aNi:W.findIn K (.ref CN) "__init__"=some (some (.ref fNi)))
  (iNi:W.isFn K (.ref fNi)=true)
  (lNi:K.lookup fNi=fO "__init__" "Not.__init__" sNi ocNi odNi kVNi dcNi pmNi anNi cdNi ctNi slNi)
  (cNi:W.codeIn K cdNi "Not.__init__"=true)
  (kNi:W.keepIn K (.ref fNi)=true)
  (aXi:W.findIn K (.ref XQ) "__init__"=some (some (.ref fXi)))
  (iXi:W.isFn K (.ref fXi)=true)
  (lXi:K.lookup fXi=fO "__init__" "NoQuestion.__init__" sXq ocXi odXi kVXi dcXi pmXi anXi cdXi ctXi slXi)
  (cXi:W.codeIn K cdXi "NoQuestion.__init__"=true)
  (kXi:W.keepIn K (.ref fXi)=true)
  (mxXQ:excInI K XQ fXi=true)
  (tfXQ:W.typeIn K (.ref fXi)=some (.type "function"))
  (aNt:W.findIn K (.ref SN) "takes"=some (some (.ref fNt)))
  (iNt:W.isFn K (.ref fNt)=true)
  (lNt:K.lookup fNt=fO "takes" "Number.takes" SL.sNt ocNt odNt kVNt dcNt pmNt anNt cdNt ctNt slNt)
  (cNt:W.codeIn K cdNt "Number.takes"=true)
  (kNt:W.keepIn K (.ref fNt)=true)
  (aNw:W.findIn K (.ref SN) "word"=some (some (.ref fNw)))
  (iNw:W.isFn K (.ref fNw)=true)
  (lNw:K.lookup fNw=fO "word" "Number.word" SL.sNw ocNw odNw kVNw dcNw pmNw anNw cdNw ctNw slNw)
  (cNw:W.codeIn K cdNw "Number.word"=true)
  (kNw:W.keepIn K (.ref fNw)=true)
  (aAt:W.findIn K (.ref SA) "takes"=some (some (.ref fAt)))
  (iAt:W.isFn K (.ref fAt)=true)
  (lAt:K.lookup fAt=fO "takes" "Name.takes" SL.sAt ocAt odAt kVAt dcAt pmAt anAt cdAt ctAt slAt)
  (cAt:W.codeIn K cdAt "Name.takes"=true)
  (kAt:W.keepIn K (.ref fAt)=true)
  (aAw:W.findIn K (.ref SA) "word"=some (some (.ref fAw)))
  (iAw:W.isFn K (.ref fAw)=true)
  (lAw:K.lookup fAw=fO "word" "Name.word" SL.sAw ocAw odAw kVAw dcAw pmAw anAw cdAw ctAw slAw)
  (cAw:W.codeIn K cdAw "Name.word"=true)
  (kAw:W.keepIn K (.ref fAw)=true)
  (aIt:W.findIn K (.ref SI) "takes"=some (some (.ref fIt)))
  (iIt:W.isFn K (.ref fIt)=true)
  (lIt:K.lookup fIt=fO "takes" "Items.takes" SL.sIt ocIt odIt kVIt dcIt pmIt anIt cdIt ctIt slIt)
  (cIt:W.codeIn K cdIt "Items.takes"=true)
  (kIt:W.keepIn K (.ref fIt)=true)
  (aIw:W.findIn K (.ref SI) "word"=some (some (.ref fIw)))
  (iIw:W.isFn K (.ref fIw)=true)
  (lIw:K.lookup fIw=fO "word" "Items.word" SL.sIw ocIw odIw kVIw dcIw pmIw anIw cdIw ctIw slIw)
  (cIw:W.codeIn K cdIw "Items.word"=true)
  (kIw:W.keepIn K (.ref fIw)=true)
  (aKt:W.findIn K (.ref SK) "takes"=some (some (.ref fKt)))
  (iKt:W.isFn K (.ref fKt)=true)
  (lKt:K.lookup fKt=fO "takes" "Mark.takes" SL.sKt ocKt odKt kVKt dcKt pmKt anKt cdKt ctKt slKt)
  (cKt:W.codeIn K cdKt "Mark.takes"=true)
  (kKt:W.keepIn K (.ref fKt)=true)
  (aKw:W.findIn K (.ref SK) "word"=some (some (.ref fKw)))
  (iKw:W.isFn K (.ref fKw)=true)
  (lKw:K.lookup fKw=fO "word" "Mark.word" SL.sKw ocKw odKw kVKw dcKw pmKw anKw cdKw ctKw slKw)
  (cKw:W.codeIn K cdKw "Mark.word"=true)
  (kKw:W.keepIn K (.ref fKw)=true)
  (aCEJi:W.findIn K (.ref CE) "__init__"=some (some (.ref fJi)))
  (qf:W.nsIn K mainGlobals "FIGURES"=some (some (.str SL.FIG tkf)))
  (qs:W.nsIn K mainGlobals "SMALL_LETTERS"=some (some (.str SL.SMA tks)))
  (qn:W.nsIn K mainGlobals "NAME_SIGNS"=some (some (.str SL.NAM tkn)))
  (qm:W.nsIn K mainGlobals "MARK_SIGNS"=some (some (.str SL.MAR tkm)))
  (qa:W.nsIn K mainGlobals "MOST_FIGURES"=some (some (.int 9 tka)))
  (qb:W.nsIn K mainGlobals "MOST_SIGNS"=some (some (.int 12 tkb)))
  (qc:W.nsIn K mainGlobals "MOST_ITEMS"=some (some (.int 4 tkc)))
  (qp:W.nsIn K mainGlobals "MOST_PIECES"=some (some (.int 40 tkp)))
  (zverr:W.nsIn K mainGlobals "ValueError"=some none)
  (zlen:W.nsIn K mainGlobals "len"=some none)
  (zrange:W.nsIn K mainGlobals "range"=some none)
  (ztuple:W.nsIn K mainGlobals "tuple"=some none)
  (zisin:W.nsIn K mainGlobals "isinstance"=some none)
  (zstr:W.nsIn K mainGlobals "str"=some none)
  (zlist:W.nsIn K mainGlobals "list"=some none)
  (zint:W.nsIn K mainGlobals "int"=some none)
  (zbool:W.nsIn K mainGlobals "bool"=some none)
  (zall:W.nsIn K mainGlobals "all"=some none)
  (zmin:W.nsIn K mainGlobals "min"=some none)
  (zmax:W.nsIn K mainGlobals "max"=some none)
  :∃fd:FuncData,(∀(s:Shared) (v:Value),BindsTo s fd ⟨[v],[]⟩ [("_law_script",v)])/\∀base:Heap,K.In base->base.Ns mainGlobals mg->FnOk l.prog w K mg base CX0 92 fa fd ["_law_script"] (spLaw K):=by
 have e:=hfa.symm.trans (W.mg_of X G aZ)
 cases e
 have T:Txt mg:=⟨W.mg_none_of X G zlen,W.mg_none_of X G zrange,W.mg_none_of X G ztuple,W.mg_none_of X G zisin,W.mg_none_of X G zstr,W.mg_none_of X G zlist,W.mg_none_of X G zint,W.mg_none_of X G zbool,W.mg_none_of X G zall,W.mg_none_of X G zmin,W.mg_none_of X G zmax⟩
 have mgCR:=W.mg_of X G aCR
 have clCR:Cls K CR:=⟨pgCR,hdCR,poCR,saCR⟩
 have mgCW:=W.mg_of X G aCW
 have clCW:Cls K CW:=⟨pgCW,hdCW,poCW,saCW⟩
 have mgCH:=W.mg_of X G aCH
 have clCH:Cls K CH:=⟨pgCH,hdCH,poCH,saCH⟩
 have mgCA:=W.mg_of X G aCA
 have clCA:Cls K CA:=⟨pgCA,hdCA,poCA,saCA⟩
 have mgCT:=W.mg_of X G aCT
 have clCT:Cls K CT:=⟨pgCT,hdCT,poCT,saCT⟩
 have mgCB:=W.mg_of X G aCB
 have clCB:Cls K CB:=⟨pgCB,hdCB,poCB,saCB⟩
 have mgCE:=W.mg_of X G aCE
 have clCE:Cls K CE:=⟨pgCE,hdCE,poCE,saCE⟩
 have mgCN:=W.mg_of X G aCN
 have clCN:Cls K CN:=⟨pgCN,hdCN,poCN,saCN⟩
 have mgSN:=W.mg_of X G aSN
 have clSN:Cls K SN:=⟨pgSN,hdSN,poSN,saSN⟩
 have MSN:MkN K SN:=⟨mkSN,inSN,kcSN⟩
 have mgSA:=W.mg_of X G aSA
 have clSA:Cls K SA:=⟨pgSA,hdSA,poSA,saSA⟩
 have MSA:MkN K SA:=⟨mkSA,inSA,kcSA⟩
 have mgSI:=W.mg_of X G aSI
 have clSI:Cls K SI:=⟨pgSI,hdSI,poSI,saSI⟩
 have MSI:MkN K SI:=⟨mkSI,inSI,kcSI⟩
 have mgSK:=W.mg_of X G aSK
 have clSK:Cls K SK:=⟨pgSK,hdSK,poSK,saSK⟩
 have MSK:MkN K SK:=⟨mkSK,inSK,kcSK⟩
 have mgAK:=W.mg_of X G aAK
 have mgAL:=W.mg_of X G aAL
 have mgAG:=W.mg_of X G aAG
 have mgXQ:=W.mg_of X G aXQ
 have mgXC1:=W.mg_of X G aXC1
 have mgXC2:=W.mg_of X G aXC2
 have mgXC3:=W.mg_of X G aXC3
 have mgXC4:=W.mg_of X G aXC4
 have mgXU:=W.mg_of X G aXU
 have mgXL:=W.mg_of X G aXL
 have FC1:=fun_mk (st:=sCe) lC1 cC1 kC1
 have bC1:=FC1.binds (ps:=["_law_script","_law_k"]) fun _ _ _ _ _ _ u h=>match u,h with | [_,_],_=>rfl
 have FM1:=fun_mk (st:=sMi) lM1 cM1 kM1
 have bM1:=FM1.binds (ps:=["_law_cell","_law_k"]) fun _ _ _ _ _ _ u h=>match u,h with | [_,_],_=>rfl
 have FP:=fun_mk (st:=sPo) lP cP kP
 have bP:=FP.binds (ps:=["_law_cell","_law_other"]) fun _ _ _ _ _ _ u h=>match u,h with | [_,_],_=>rfl
 have FL:=fun_mk (st:=sLe) lL cL kL
 have bL:=FL.binds (ps:=["_law_cell"]) fun _ _ _ _ _ _ u h=>match u,h with | [_],_=>rfl
 have FCo:=fun_mk (st:=sCo) lCo cCo kCo
 have bCo:=FCo.binds (ps:=["_law_cell","_law_k"]) fun _ _ _ _ _ _ u h=>match u,h with | [_,_],_=>rfl
 have FSh:=fun_mk (st:=sSh) lSh cSh kSh
 have bSh:=FSh.binds (ps:=["_law_cell","_law_letters_here","_law_pool_here"]) fun _ _ _ _ _ _ u h=>match u,h with | [_,_,_],_=>rfl
 have FNr:=fun_mk (st:=sNr) lNr cNr kNr
 have bNr:=FNr.binds (ps:=["_law_asked","_law_within"]) fun _ _ _ _ _ _ u h=>match u,h with | [_,_],_=>rfl
 have FGw:=fun_mk (st:=sGw) lGw cGw kGw
 have bGw:=FGw.binds (ps:=["_law_cells","_law_letters_here","_law_pool_here","_law_within"]) fun _ _ _ _ _ _ u h=>match u,h with | [_,_,_,_],_=>rfl
 have FTe:=fun_mk (st:=sTe) lTe cTe kTe
 have bTe:=FTe.binds (ps:=["_law_asked"]) fun _ _ _ _ _ _ u h=>match u,h with | [_],_=>rfl
 have FOp:=fun_mk (st:=sOp) lOp cOp kOp
 have bOp:=FOp.binds (ps:=["_law_cell","_law_pool_here"]) fun _ _ _ _ _ _ u h=>match u,h with | [_,_],_=>rfl
 have FCh:=fun_mk (st:=sCh) lCh cCh kCh
 have bCh:=FCh.binds (ps:=["_law_pieces","_law_cell","_law_pool_here"]) fun _ _ _ _ _ _ u h=>match u,h with | [_,_,_],_=>rfl
 have FLm:=fun_mk (st:=sLm) lLm cLm kLm
 have bLm:=FLm.binds (ps:=["_law_text_here","_law_signs"]) fun _ _ _ _ _ _ u h=>match u,h with | [_,_],_=>rfl
 have FLi:=fun_mk (st:=sLi) lLi cLi kLi
 have bLi:=FLi.binds (ps:=["_law_text_here"]) fun _ _ _ _ _ _ u h=>match u,h with | [_],_=>rfl
 have FLw:=fun_mk (st:=sLw) lLw cLw kLw
 have bLw:=FLw.binds (ps:=["_law_text_here"]) fun _ _ _ _ _ _ u h=>match u,h with | [_],_=>rfl
 have FLn:=fun_mk (st:=sLn) lLn cLn kLn
 have bLn:=FLn.binds (ps:=["_law_kind","_law_within"]) fun _ _ _ _ _ _ u h=>match u,h with | [_,_],_=>rfl
 have FLo:=fun_mk (st:=sLo) lLo cLo kLo
 have bLo:=FLo.binds (ps:=["_law_piece","_law_wanted_here"]) fun _ _ _ _ _ _ u h=>match u,h with | [_,_],_=>rfl
 have FDu:=fun_mk (st:=sDu) lDu cDu kDu
 have bDu:=FDu.binds (ps:=["_law_pieces"]) fun _ _ _ _ _ _ u h=>match u,h with | [_],_=>rfl
 have FRt:=fun_mk (st:=sLr) lRt cRt kRt
 have bRt:=FRt.binds (ps:=["_law_text_here","_law_due_here"]) fun _ _ _ _ _ _ u h=>match u,h with | [_,_],_=>rfl
 have FXm:=fun_mk (st:=sMd) lXm cXm kXm
 have bXm:=FXm.binds (ps:=["word","parts"]) fun _ _ _ _ _ _ u h=>match u,h with | [_,_],_=>rfl
 have FXv:=fun_mk (st:=sVo) lXv cXv kXv
 have bXv:=FXv.binds (ps:=["kind","piece"]) fun _ _ _ _ _ _ u h=>match u,h with | [_,_],_=>rfl
 have FXp:=fun_mk (st:=sPi) lXp cXp kXp
 have bXp:=FXp.binds (ps:=["pieces","at"]) fun _ _ _ _ _ _ u h=>match u,h with | [_,_],_=>rfl
 have FXa:=fun_mk (st:=sPt) lXa cXa kXa
 have bXa:=FXa.binds (ps:=["kind","pieces","at","within"]) fun _ _ _ _ _ _ u h=>match u,h with | [_,_,_,_],_=>rfl
 have FXq:=fun_mk (st:=sQt) lXq cXq kXq
 have bXq:=FXq.binds (ps:=["pieces","at","within"]) fun _ _ _ _ _ _ u h=>match u,h with | [_,_,_],_=>rfl
 have FXo:=fun_mk (st:=sQo) lXo cXo kXo
 have bXo:=FXo.binds (ps:=["text"]) fun _ _ _ _ _ _ u h=>match u,h with | [_],_=>rfl
 have FMo:=fun_mk (st:=SL.sMo) lMo cMo kMo
 have bMo:=FMo.binds (ps:=["signs","text"]) fun _ _ _ _ _ _ u h=>match u,h with | [_,_],_=>rfl
 have FIi:=fun_mk (st:=SL.sIi) lIi cIi kIi
 have bIi:=FIi.binds (ps:=["text"]) fun _ _ _ _ _ _ u h=>match u,h with | [_],_=>rfl
 have FAl:=fun_mk (st:=SL.sAl) lAl cAl kAl
 have bAl:=FAl.binds (ps:=[]) fun _ _ _ _ _ _ u h=>match u,h with | [],_=>rfl
 have FSo:=fun_mk (st:=SL.sSo) lSo cSo kSo
 have bSo:=FSo.binds (ps:=["text"]) fun _ _ _ _ _ _ u h=>match u,h with | [_],_=>rfl
 have FZ:=fun_mk (st:=sLaw) lZ cZ kZ
 have FRi:=fun_mk (st:=sRi) lRi cRi kRi
 have bRi:=FRi.binds (ps:=["self","letter"]) fun _ _ _ _ _ _ u h=>match u,h with | [_,_],_=>rfl
 have FWi:=fun_mk (st:=sWi) lWi cWi kWi
 have bWi:=FWi.binds (ps:=["self","letter","gap","word"]) fun _ _ _ _ _ _ u h=>match u,h with | [_,_,_,_],_=>rfl
 have FHi:=fun_mk (st:=sHi) lHi cHi kHi
 have bHi:=FHi.binds (ps:=["self","letter","gap","other","there","reach"]) fun _ _ _ _ _ _ u h=>match u,h with | [_,_,_,_,_,_],_=>rfl
 have FAi:=fun_mk (st:=sAi) lAi cAi kAi
 have bAi:=FAi.binds (ps:=["self","letter","gap","other","there","reach"]) fun _ _ _ _ _ _ u h=>match u,h with | [_,_,_,_,_,_],_=>rfl
 have FTi:=fun_mk (st:=sTi) lTi cTi kTi
 have bTi:=FTi.binds (ps:=["self","reach","least","question"]) fun _ _ _ _ _ _ u h=>match u,h with | [_,_,_,_],_=>rfl
 have FJi:=fun_mk (st:=sJi) lJi cJi kJi
 have bJi:=FJi.binds (ps:=["self","one","other"]) fun _ _ _ _ _ _ u h=>match u,h with | [_,_,_],_=>rfl
 have FNi:=fun_mk (st:=sNi) lNi cNi kNi
 have bNi:=FNi.binds (ps:=["self","one"]) fun _ _ _ _ _ _ u h=>match u,h with | [_,_],_=>rfl
 have FXi:=fun_mk (st:=sXq) lXi cXi kXi
 have bXi:=FXi.binds (ps:=["self","at"]) fun _ _ _ _ _ _ u h=>match u,h with | [_,_],_=>rfl
 have FNt:=fun_mk (st:=SL.sNt) lNt cNt kNt
 have bNt:=FNt.binds (ps:=["self","text"]) fun _ _ _ _ _ _ u h=>match u,h with | [_,_],_=>rfl
 have FNw:=fun_mk (st:=SL.sNw) lNw cNw kNw
 have bNw:=FNw.binds (ps:=["self"]) fun _ _ _ _ _ _ u h=>match u,h with | [_],_=>rfl
 have FAt:=fun_mk (st:=SL.sAt) lAt cAt kAt
 have bAt:=FAt.binds (ps:=["self","text"]) fun _ _ _ _ _ _ u h=>match u,h with | [_,_],_=>rfl
 have FAw:=fun_mk (st:=SL.sAw) lAw cAw kAw
 have bAw:=FAw.binds (ps:=["self"]) fun _ _ _ _ _ _ u h=>match u,h with | [_],_=>rfl
 have FIt:=fun_mk (st:=SL.sIt) lIt cIt kIt
 have bIt:=FIt.binds (ps:=["self","text"]) fun _ _ _ _ _ _ u h=>match u,h with | [_,_],_=>rfl
 have FIw:=fun_mk (st:=SL.sIw) lIw cIw kIw
 have bIw:=FIw.binds (ps:=["self"]) fun _ _ _ _ _ _ u h=>match u,h with | [_],_=>rfl
 have FKt:=fun_mk (st:=SL.sKt) lKt cKt kKt
 have bKt:=FKt.binds (ps:=["self","text"]) fun _ _ _ _ _ _ u h=>match u,h with | [_,_],_=>rfl
 have FKw:=fun_mk (st:=SL.sKw) lKw cKw kKw
 have bKw:=FKw.binds (ps:=["self"]) fun _ _ _ _ _ _ u h=>match u,h with | [_],_=>rfl
 have gC1:=W.mg_of X G aC1
 have gM1:=W.mg_of X G aM1
 have gP:=W.mg_of X G aP
 have gL:=W.mg_of X G aL
 have gCo:=W.mg_of X G aCo
 have gSh:=W.mg_of X G aSh
 have gNr:=W.mg_of X G aNr
 have gGw:=W.mg_of X G aGw
 have gTe:=W.mg_of X G aTe
 have gOp:=W.mg_of X G aOp
 have gCh:=W.mg_of X G aCh
 have gLm:=W.mg_of X G aLm
 have gLi:=W.mg_of X G aLi
 have gLw:=W.mg_of X G aLw
 have gLn:=W.mg_of X G aLn
 have gLo:=W.mg_of X G aLo
 have gDu:=W.mg_of X G aDu
 have gRt:=W.mg_of X G aRt
 have gXm:=W.mg_of X G aXm
 have gXv:=W.mg_of X G aXv
 have gXp:=W.mg_of X G aXp
 have gXa:=W.mg_of X G aXa
 have gXq:=W.mg_of X G aXq
 have gXo:=W.mg_of X G aXo
 have gMo:=W.mg_of X G aMo
 have gIi:=W.mg_of X G aIi
 have gAl:=W.mg_of X G aAl
 have gSo:=W.mg_of X G aSo
 have MCR:Mk K CR fRi:=⟨mkCR,aRi,iRi,kcCR⟩
 have MCW:Mk K CW fWi:=⟨mkCW,aWi,iWi,kcCW⟩
 have MCH:Mk K CH fHi:=⟨mkCH,aHi,iHi,kcCH⟩
 have MCA:Mk K CA fAi:=⟨mkCA,aAi,iAi,kcCA⟩
 have MCT:Mk K CT fTi:=⟨mkCT,aTi,iTi,kcCT⟩
 have MCB:Mk K CB fJi:=⟨mkCB,aJi,iJi,kcCB⟩
 have MCN:Mk K CN fNi:=⟨mkCN,aNi,iNi,kcCN⟩
 have MXQ:MkX K XQ fXi:=⟨mxXQ,tfXQ,kcXQ⟩
 have mNt:Meth K SN "takes" fNt:=⟨aNt,iNt,kNt⟩
 have mNw:Meth K SN "word" fNw:=⟨aNw,iNw,kNw⟩
 have mAt:Meth K SA "takes" fAt:=⟨aAt,iAt,kAt⟩
 have mAw:Meth K SA "word" fAw:=⟨aAw,iAw,kAw⟩
 have mIt:Meth K SI "takes" fIt:=⟨aIt,iIt,kIt⟩
 have mIw:Meth K SI "word" fIw:=⟨aIw,iIw,kIw⟩
 have mKt:Meth K SK "takes" fKt:=⟨aKt,iKt,kKt⟩
 have mKw:Meth K SK "word" fKw:=⟨aKw,iKw,kKw⟩
 have mCEJi:Meth K CE "__init__" fJi:=⟨aCEJi,iJi,kJi⟩
 have MCE:Mk K CE fJi:=⟨mkCE,aCEJi,iJi,kcCE⟩
 have TS:SL.TS mg:=⟨T.len,T.all,⟨_,W.mg_of X G qf,_,rfl⟩,⟨_,W.mg_of X G qs,_,rfl⟩,⟨_,W.mg_of X G qn,_,rfl⟩,⟨_,W.mg_of X G qm,_,rfl⟩,⟨_,W.mg_of X G qa,_,rfl⟩,⟨_,W.mg_of X G qb,_,rfl⟩,⟨_,W.mg_of X G qc,_,rfl⟩⟩
 have TKK:TK w K mg AK AL AG (clF U0 U1 U2 U3 U4 U5 U6 U7):=⟨mgAK,mgAL,mgAG,⟨_,W.mg_of X G qp,_,rfl⟩,⟨_,_,lkK,smK,enK,kinds_nd _⟩,⟨_,_,lkL,smL,enL,by decide +kernel⟩,⟨_,_,lkG,smG,enG,by decide +kernel⟩,fun k=>match k with | .row=>⟨_,_,_,lT0,rfl,rfl,zT0,vT0⟩ | .wit=>⟨_,_,_,lT1,rfl,rfl,zT1,vT1⟩ | .beh=>⟨_,_,_,lT2,rfl,rfl,zT2,vT2⟩ | .ahd=>⟨_,_,_,lT3,rfl,rfl,zT3,vT3⟩ | .tim=>⟨_,_,_,lT4,rfl,rfl,zT4,vT4⟩ | .bot=>⟨_,_,_,lT5,rfl,rfl,zT5,vT5⟩ | .eit=>⟨_,_,_,lT6,rfl,rfl,zT6,vT6⟩ | .non=>⟨_,_,_,lT7,rfl,rfl,zT7,vT7⟩⟩
 have RGG:RiG mg XQ XC1 XC2 XC3 XC4 XU XL:=⟨mgXQ,mgXC1,mgXC2,mgXC3,mgXC4,mgXU,mgXL,W.mg_none_of X G zverr⟩
 have RCC:RiC K (clF CR CW CH CA CT CB CE CN) XQ XC1 XC2 XC3 XC4 XU XL:=⟨xi1,xi2,xi3,xi4,xiV,xget,xfat,xtN,xtL,fun k=>match k with | .row=>clCR | .wit=>clCW | .beh=>clCH | .ahd=>clCA | .tim=>clCT | .bot=>clCB | .eit=>clCE | .non=>clCN,fun k=>match k with | .row=>haCR | .wit=>haCW | .beh=>haCH | .ahd=>haCA | .tim=>haCT | .bot=>haCB | .eit=>haCE | .non=>haCN,hn,htk,fun k=>match k with | .row=>hmCR | .wit=>hmCW | .beh=>hmCH | .ahd=>hmCA | .tim=>hmCT | .bot=>hmCB | .eit=>hmCE | .non=>hmCN,fun k=>match k with | .row=>kitCRXU | .wit=>kitCWXU | .beh=>kitCHXU | .ahd=>kitCAXU | .tim=>kitCTXU | .bot=>kitCBXU | .eit=>kitCEXU | .non=>kitCNXU,xnt,xit⟩
 exact⟨W.fnOf "law" "law" (defArgs sLaw) (defBody sLaw) (defScope sLaw) .none kVZ dcZ pmZ anZ cdZ ctZ,fun s v=>.of_eq rfl,fun base _ _=>ok_all FZ T (cl:=(clF CR CW CH CA CT CB CE CN)) ⟨MCR,MCW,MCH,MCA,mgCR,mgCW,mgCH,mgCA,bRi,bWi,bHi,bAi,ok_ri FRi clCR nCR_wanted,ok_wi FWi clCW nCW_here nCW_wanted,ok_hi FHi clCH nCH_here nCH_away nCH_reach,ok_ai FAi clCA nCA_here nCA_away nCA_reach⟩ ⟨MCT,MCB,MCE,MCN,mgCT,mgCB,mgCE,mgCN,bTi,bJi,bNi,ok_ti FTi clCT nCT_reach nCT_least nCT_inner,ok_ji true FJi clCB nCB_one nCB_other,ok_ji false FJi clCE nCE_one nCE_other,ok_ni FNi clCN nCN_one⟩ TKK RGG RCC MXQ FXi bXi xset xrz FC1 bC1 gC1 FM1 bM1 gM1 FP bP gP FL bL gL FCo bCo gCo FSh bSh gSh FNr bNr gNr FGw bGw gGw FTe bTe gTe FOp bOp gOp FCh bCh gCh FLm bLm gLm FLi bLi gLi FLw bLw gLw FLn bLn gLn FLo bLo gLo FDu bDu gDu FRt bRt gRt FXm bXm gXm FXv bXv gXv FXp bXp gXp FXa bXa gXa FXq bXq gXq FXo bXo gXo FSo bSo gSo (SL.sorts_ok TS ⟨MSN,mgSN,clSN,mNt,bNt,mNw,bNw⟩ ⟨MSA,mgSA,clSA,mAt,bAt,mAw,bAw⟩ ⟨MSI,mgSI,clSI,mIt,bIt,mIw,bIw⟩ ⟨MSK,mgSK,clSK,mKt,bKt,mKw,bKw⟩ FNt FNw FAt FAw FIt FIw FKt FKw FMo bMo gMo FIi bIi gIi FAl bAl gAl FSo)⟩
theorem walk {l:W.OpenLaw}{q:Program}{loose:List Str}{XP:(Str->Option Value)->Heap->Prop}{YP:World->Heap->Prop}{d:DefRec}{K:Params->W.Frag}(hn:l.most=some 63)(hdf:d.params.defaults=[])
  (hY:∀(w:World) (h:Heap),YP w h->(K w.params).In h)
  (F:∀(w:World) (mg:Str->Option Value) (fa:Addr) (h:Heap),(K w.params).In h->h.Ns mainGlobals mg->mg d.name=some (.ref fa)→
   ∃fd:FuncData,(∀(s:Shared) (u:Value),BindsTo s fd ⟨[u],[]⟩ [("_law_script",u)])/\∀base:Heap,(K w.params).In base->base.Ns mainGlobals mg->FnOk l.prog w (K w.params) mg base CX0 92 fa fd ["_law_script"] (spLaw (K w.params))):
  W.WalkO q loose XP YP l.row.toRowW d [] (fun f vs=>PySem.call f vs):=
 L2.walk_of (n:=63) (k:=92) (x:="_law_script") (CX:=fun _=>CX0) (sp:=fun w=>spLaw (K w.params)) hn (by decide) hdf ⟨rfl,by decide,by decide⟩ hY F (fun _ _ a ns hl _ hS=>⟨a,ns,rfl,hS,hl,fun _=>rfl⟩) fun _ _ _ _ _ z=>z
end QL
open PySem PySem.W PyProof.Rows
set_option maxRecDepth 100000 in
set_option maxHeartbeats 0 in
theorem PySem.Challenge.cw_logloom_k52_questions_refused_holds : PySem.Challenge.rw_logloom_k52_questions_refused.Holds := by
 w_on;o_law
 refine PySem.W.holds_open (q:=QL.hQ) (loose:=[PySem.Str.ofString "KINDS",PySem.Str.ofString "LEAST",PySem.Str.ofString "GREATEST"]) (Xt:=QL.hX)
  (XP:=PySem.W.XL QL.hQ [])
  (Yf:=(PySem.W.kHook QL.hK QL.hA QL.hE).obs) (Ya:=(PySem.W.kHook QL.hK QL.hA QL.hE).val)
  (YP:=(PySem.W.kHook QL.hK QL.hA QL.hE).says)
  (N:=14226) QL.hL (PySem.W.kHook QL.hK QL.hA QL.hE).of (PySem.W.kHook QL.hK QL.hA QL.hE).keeps
  (fun s e=>PySem.W.xl_of s (Bool.and_eq_true_iff.mp e).1) PySem.W.XL.keeps
  rfl rfl rfl
  (fun s e=>PySem.W.recFacts_of (Bool.and_eq_true_iff.mp e).2)
  rfl (by first|assumption|decide +kernel) (by decide +kernel)
  ⟨rfl,rfl,rfl,rfl,rfl,by decide +kernel⟩ ?hw ?hc
 case hw=>w_witness2
 k_fill
 refine QL.walk (l:=PySem.Challenge.rw_logloom_k52_questions_refused) rfl rfl (fun w h Y=>PySem.W.kIn_of Y) ?F
 case F=>
  intro w mg fa h KX G hmg
  refine' QL.all_mk KX G hmg ?aCR ?pgCR ?hdCR ?poCR ?saCR ?mkCR ?kcCR ?haCR ?hmCR ?nCR_wanted ?aCW ?pgCW ?hdCW ?poCW ?saCW ?mkCW ?kcCW ?haCW ?hmCW ?nCW_here ?nCW_wanted ?aCH ?pgCH ?hdCH ?poCH ?saCH ?mkCH ?kcCH ?haCH ?hmCH ?nCH_here ?nCH_away ?nCH_reach ?aCA ?pgCA ?hdCA ?poCA ?saCA ?mkCA ?kcCA ?haCA ?hmCA ?nCA_here ?nCA_away ?nCA_reach ?aCT ?pgCT ?hdCT ?poCT ?saCT ?mkCT ?kcCT ?haCT ?hmCT ?nCT_reach ?nCT_least ?nCT_inner ?aCB ?pgCB ?hdCB ?poCB ?saCB ?mkCB ?kcCB ?haCB ?hmCB ?nCB_one ?nCB_other ?aCE ?pgCE ?hdCE ?poCE ?saCE ?mkCE ?kcCE ?haCE ?hmCE ?nCE_one ?nCE_other ?aCN ?pgCN ?hdCN ?poCN ?saCN ?mkCN ?kcCN ?haCN ?hmCN ?nCN_one ?aSN ?pgSN ?hdSN ?poSN ?saSN ?mkSN ?kcSN ?haSN ?hmSN ?inSN ?aSA ?pgSA ?hdSA ?poSA ?saSA ?mkSA ?kcSA ?haSA ?hmSA ?inSA ?aSI ?pgSI ?hdSI ?poSI ?saSI ?mkSI ?kcSI ?haSI ?hmSI ?inSI ?aSK ?pgSK ?hdSK ?poSK ?saSK ?mkSK ?kcSK ?haSK ?hmSK ?inSK ?aAK ?aAL ?aAG ?aXQ ?kcXQ ?aXC1 ?aXC2 ?aXC3 ?aXC4 ?aXU ?aXL ?hn ?htk ?kitCRXU ?kitCWXU ?kitCHXU ?kitCAXU ?kitCTXU ?kitCBXU ?kitCEXU ?kitCNXU ?lkK ?smK ?lkL ?smL ?lkG ?smG ?enK ?enL ?enG ?lT0 ?zT0 ?vT0 ?lT1 ?zT1 ?vT1 ?lT2 ?zT2 ?vT2 ?lT3 ?zT3 ?vT3 ?lT4 ?zT4 ?vT4 ?lT5 ?zT5 ?vT5 ?lT6 ?zT6 ?vT6 ?lT7 ?zT7 ?vT7 ?xi1 ?xi2 ?xi3 ?xi4 ?xiV ?xnt ?xit ?xget ?xfat ?xset ?xrz ?xtN ?xtL ?aC1 ?lC1 ?cC1 ?kC1 ?aM1 ?lM1 ?cM1 ?kM1 ?aP ?lP ?cP ?kP ?aL ?lL ?cL ?kL ?aCo ?lCo ?cCo ?kCo ?aSh ?lSh ?cSh ?kSh ?aNr ?lNr ?cNr ?kNr ?aGw ?lGw ?cGw ?kGw ?aTe ?lTe ?cTe ?kTe ?aOp ?lOp ?cOp ?kOp ?aCh ?lCh ?cCh ?kCh ?aLm ?lLm ?cLm ?kLm ?aLi ?lLi ?cLi ?kLi ?aLw ?lLw ?cLw ?kLw ?aLn ?lLn ?cLn ?kLn ?aLo ?lLo ?cLo ?kLo ?aDu ?lDu ?cDu ?kDu ?aRt ?lRt ?cRt ?kRt ?aXm ?lXm ?cXm ?kXm ?aXv ?lXv ?cXv ?kXv ?aXp ?lXp ?cXp ?kXp ?aXa ?lXa ?cXa ?kXa ?aXq ?lXq ?cXq ?kXq ?aXo ?lXo ?cXo ?kXo ?aMo ?lMo ?cMo ?kMo ?aIi ?lIi ?cIi ?kIi ?aAl ?lAl ?cAl ?kAl ?aSo ?lSo ?cSo ?kSo ?aZ ?lZ ?cZ ?kZ ?aRi ?iRi ?lRi ?cRi ?kRi ?aWi ?iWi ?lWi ?cWi ?kWi ?aHi ?iHi ?lHi ?cHi ?kHi ?aAi ?iAi ?lAi ?cAi ?kAi ?aTi ?iTi ?lTi ?cTi ?kTi ?aJi ?iJi ?lJi ?cJi ?kJi ?aNi ?iNi ?lNi ?cNi ?kNi ?aXi ?iXi ?lXi ?cXi ?kXi ?mxXQ ?tfXQ ?aNt ?iNt ?lNt ?cNt ?kNt ?aNw ?iNw ?lNw ?cNw ?kNw ?aAt ?iAt ?lAt ?cAt ?kAt ?aAw ?iAw ?lAw ?cAw ?kAw ?aIt ?iIt ?lIt ?cIt ?kIt ?aIw ?iIw ?lIw ?cIw ?kIw ?aKt ?iKt ?lKt ?cKt ?kKt ?aKw ?iKw ?lKw ?cKw ?kKw ?aCEJi ?qf ?qs ?qn ?qm ?qa ?qb ?qc ?qp ?zverr ?zlen ?zrange ?ztuple ?zisin ?zstr ?zlist ?zint ?zbool ?zall ?zmin ?zmax
  case aCR|pgCR|hdCR|poCR|saCR|mkCR|kcCR|haCR|hmCR|nCR_wanted|aCW|pgCW|hdCW|poCW|saCW|mkCW|kcCW|haCW|hmCW|nCW_here|nCW_wanted|aCH|pgCH|hdCH|poCH|saCH|mkCH|kcCH|haCH|hmCH|nCH_here|nCH_away|nCH_reach|aCA|pgCA|hdCA|poCA|saCA|mkCA|kcCA|haCA|hmCA|nCA_here|nCA_away|nCA_reach|aCT|pgCT|hdCT|poCT|saCT|mkCT|kcCT|haCT|hmCT|nCT_reach|nCT_least|nCT_inner|aCB|pgCB|hdCB|poCB|saCB|mkCB|kcCB|haCB|hmCB|nCB_one|nCB_other|aCE|pgCE|hdCE|poCE|saCE|mkCE|kcCE|haCE|hmCE|nCE_one|nCE_other|aCN|pgCN|hdCN|poCN|saCN|mkCN|kcCN|haCN|hmCN|nCN_one|aSN|pgSN|hdSN|poSN|saSN|mkSN|kcSN|haSN|hmSN|inSN|aSA|pgSA|hdSA|poSA|saSA|mkSA|kcSA|haSA|hmSA|inSA|aSI|pgSI|hdSI|poSI|saSI|mkSI|kcSI|haSI|hmSI|inSI|aSK|pgSK|hdSK|poSK|saSK|mkSK|kcSK|haSK|hmSK|inSK|aAK|aAL|aAG|aXQ|kcXQ|aXC1|aXC2|aXC3|aXC4|aXU|aXL|hn|htk=>k_is
  case kitCRXU|kitCWXU|kitCHXU|kitCAXU|kitCTXU|kitCBXU|kitCEXU|kitCNXU=>kit_is
  case lkK=>k_is
  case smK=>(first|kernel_rfl|decide +kernel)
  case lkL=>k_is
  case smL=>(first|kernel_rfl|decide +kernel)
  case lkG=>k_is
  case smG=>(first|kernel_rfl|decide +kernel)
  (case enK=>(exact⟨⟨rfl,⟨_,rfl⟩,rfl⟩,⟨rfl,⟨_,rfl⟩,rfl⟩,⟨rfl,⟨_,rfl⟩,rfl⟩,⟨rfl,⟨_,rfl⟩,rfl⟩,⟨rfl,⟨_,rfl⟩,rfl⟩,⟨rfl,⟨_,rfl⟩,rfl⟩,⟨rfl,⟨_,rfl⟩,rfl⟩,⟨rfl,⟨_,rfl⟩,rfl⟩,True.intro⟩))
  (case enL=>(exact⟨⟨rfl,⟨_,rfl⟩,⟨_,rfl⟩⟩,⟨rfl,⟨_,rfl⟩,⟨_,rfl⟩⟩,⟨rfl,⟨_,rfl⟩,⟨_,rfl⟩⟩,True.intro⟩))
  (case enG=>(exact⟨⟨rfl,⟨_,rfl⟩,⟨_,rfl⟩⟩,⟨rfl,⟨_,rfl⟩,⟨_,rfl⟩⟩,⟨rfl,⟨_,rfl⟩,⟨_,rfl⟩⟩,True.intro⟩))
  case lT0=>k_is
  (case zT0=>(exact Nat.le_of_lt (L2.small1000 (by show 1<=1000;decide))))
  (case vT0=>(exact .cons ⟨_,rfl⟩ (.nil)))
  case lT1=>k_is
  (case zT1=>(exact Nat.le_of_lt (L2.small1000 (by show 3<=1000;decide))))
  (case vT1=>(exact .cons ⟨_,rfl⟩ (.cons ⟨_,rfl⟩ (.cons ⟨_,rfl⟩ (.nil)))))
  case lT2=>k_is
  (case zT2=>(exact Nat.le_of_lt (L2.small1000 (by show 5<=1000;decide))))
  (case vT2=>(exact .cons ⟨_,rfl⟩ (.cons ⟨_,rfl⟩ (.cons ⟨_,rfl⟩ (.cons ⟨_,rfl⟩ (.cons ⟨_,rfl⟩ (.nil)))))))
  case lT3=>k_is
  (case zT3=>(exact Nat.le_of_lt (L2.small1000 (by show 5<=1000;decide))))
  (case vT3=>(exact .cons ⟨_,rfl⟩ (.cons ⟨_,rfl⟩ (.cons ⟨_,rfl⟩ (.cons ⟨_,rfl⟩ (.cons ⟨_,rfl⟩ (.nil)))))))
  case lT4=>k_is
  (case zT4=>(exact Nat.le_of_lt (L2.small1000 (by show 3<=1000;decide))))
  (case vT4=>(exact .cons ⟨_,rfl⟩ (.cons ⟨_,rfl⟩ (.cons ⟨_,rfl⟩ (.nil)))))
  case lT5=>k_is
  (case zT5=>(exact Nat.le_of_lt (L2.small1000 (by show 2<=1000;decide))))
  (case vT5=>(exact .cons ⟨_,rfl⟩ (.cons ⟨_,rfl⟩ (.nil))))
  case lT6=>k_is
  (case zT6=>(exact Nat.le_of_lt (L2.small1000 (by show 2<=1000;decide))))
  (case vT6=>(exact .cons ⟨_,rfl⟩ (.cons ⟨_,rfl⟩ (.nil))))
  case lT7=>k_is
  (case zT7=>(exact Nat.le_of_lt (L2.small1000 (by show 1<=1000;decide))))
  (case vT7=>(exact .cons ⟨_,rfl⟩ (.nil)))
  case xi1|xi2|xi3|xi4|xiV|xnt|xit=>kit_is
  case xget|xfat|xset|xrz|xtN|xtL=>(first|kernel_rfl|decide +kernel)
  case aC1|lC1|cC1|kC1|aM1|lM1|cM1|kM1|aP|lP|cP|kP|aL|lL|cL|kL|aCo|lCo|cCo|kCo|aSh|lSh|cSh|kSh|aNr|lNr|cNr|kNr|aGw|lGw|cGw|kGw|aTe|lTe|cTe|kTe|aOp|lOp|cOp|kOp|aCh|lCh|cCh|kCh|aLm|lLm|cLm|kLm|aLi|lLi|cLi|kLi|aLw|lLw|cLw|kLw|aLn|lLn|cLn|kLn|aLo|lLo|cLo|kLo|aDu|lDu|cDu|kDu|aRt|lRt|cRt|kRt|aXm|lXm|cXm|kXm|aXv|lXv|cXv|kXv|aXp|lXp|cXp|kXp|aXa|lXa|cXa|kXa|aXq|lXq|cXq|kXq|aXo|lXo|cXo|kXo|aMo|lMo|cMo|kMo|aIi|lIi|cIi|kIi|aAl|lAl|cAl|kAl|aSo|lSo|cSo|kSo|aZ|lZ|cZ|kZ|aRi|iRi|lRi|cRi|kRi|aWi|iWi|lWi|cWi|kWi|aHi|iHi|lHi|cHi|kHi|aAi|iAi|lAi|cAi|kAi|aTi|iTi|lTi|cTi|kTi|aJi|iJi|lJi|cJi|kJi|aNi|iNi|lNi|cNi|kNi|aXi|iXi|lXi|cXi|kXi=>k_is
  case mxXQ|tfXQ=>(first|kernel_rfl|decide +kernel)
  case aNt|iNt|lNt|cNt|kNt|aNw|iNw|lNw|cNw|kNw|aAt|iAt|lAt|cAt|kAt|aAw|iAw|lAw|cAw|kAw|aIt|iIt|lIt|cIt|kIt|aIw|iIw|lIw|cIw|kIw|aKt|iKt|lKt|cKt|kKt|aKw|iKw|lKw|cKw|kKw|aCEJi|qf|qs|qn|qm|qa|qb|qc|qp|zverr|zlen|zrange|ztuple|zisin|zstr|zlist|zint|zbool|zall|zmin|zmax=>k_is
