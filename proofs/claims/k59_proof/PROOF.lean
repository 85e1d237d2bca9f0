import PyProof.Rows.All
import Wide.All
import OpenK.AllK
import Wide.FinOn
import Lean
import PyProof.EqAt
import PyProof.EqKinds
import PyProof.TupleCall
import PySem.Challenge.RW_logloom_k59_whole_watch
set_option Elab.async false
set_option linter.all false
set_option maxRecDepth 100000
theorem hWs59:PySem.Challenge.rw_logloom_k59_whole_watch.wellSaid=true:=by kernel_rfl
namespace HT
open PySem PySem.W
abbrev annR:Option Value:=some (.ref 6)
noncomputable abbrev okQ:Thread->Bool:=Fast.tw6613529449190102663 11 annR
noncomputable abbrev stQ (p:Program) (w:World):SharedT->Thread->Option (SharedT×Thread):=
 Fast.tw10156331382660048174 (Fast.tw11892475500146522536 Fast.tw14364793385576792824) p w
noncomputable def runQ (p:Program) (w:World):Nat->SharedT->Thread->Option SharedT
 |0,_,_=>none
 |fuel+1,a,th=>@Bool.rec (fun _=>Option SharedT)
   (@Bool.rec (fun _=>Option SharedT) none (@Option.rec (SharedT×Thread) (fun _=>Option SharedT) none (fun r=>runQ p w fuel r.1 r.2) (stQ p w a th)) (okQ th))
   (some a) (through th)
theorem okQ_is (th:Thread):okQ th=stepOk 11 annR th:=by
 show Fast.tw6613529449190102663 11 annR th=_
 rw[<- Fast.te6613529449190102663]
theorem stQ_is (p:Program)(w:World)(a:SharedT)(th:Thread):stQ p w a th=stepT (denote treeTable) p w a th:=by
 show Fast.tw10156331382660048174 (Fast.tw11892475500146522536 Fast.tw14364793385576792824) p w a th=_
 rw[<- Fast.te10156331382660048174,<- Fast.te11892475500146522536,<- Fast.te14364793385576792824]
theorem runQ_top {p:Program}{w:World}:∀(fuel:Nat) (a b:SharedT) (th:Thread),
  runQ p w fuel a th=some b->topRun treeTable p w 11 annR fuel a.abs th=some b.abs
 |0,_,_,_,e=>by cases e
 |fuel+1,a,b,th,e=>by
  unfold runQ at e
  unfold topRun
  rw[okQ_is,stQ_is] at e
  cases e1:through th
  ·rw[e1] at e
   cases e2:stepOk 11 annR th
   ·rw[e2] at e;cases e
   ·rw[e2] at e
    cases e3:stepT (denote treeTable) p w a th with
    |none=>rw[e3] at e;cases e
    |some r=>
     rw[e3] at e
     have e4:=stepT_spec (s':=r.1) (t':=r.2) e3
     rw[e4]
     exact runQ_top fuel r.1 b r.2 e
  ·rw[e1] at e
   have:a=b:=Option.some.inj e
   rw[this]
noncomputable def bT (P:Params):BT:=
 .node (boot_o_0 P)
  (.node (boot_o_1 P) (.node (boot_o_3 P) (.node (boot_o_7 P) .nil .nil) .nil) (.node (boot_o_5 P) (.node (boot_o_9 P) .nil .nil) .nil))
  (.node (boot_o_2 P) (.node (boot_o_4 P) (.node (boot_o_8 P) .nil .nil) .nil) (.node (boot_o_6 P) (.node (boot_o_10 P) .nil .nil) .nil))
theorem bT_boot:∀P,boot_heap P=absHeap (bT P) 11 {}:=fun P=>by kernel_rfl
noncomputable abbrev at0 (w:World) (os:OsState):SharedT:=⟨bT w.params,11,{},Array.mk [],boot_drawn,boot_toks,os⟩
theorem at0_abs (w:World)(os:OsState):(at0 w os).abs=⟨boot_heap w.params,Array.mk [],boot_drawn,boot_toks,os⟩:=by
 rw[bT_boot];rfl
theorem boot_looks:∀P:Params,(((boot_heap P).isNs mainGlobals&&(#[]:Array GenState).size==0)=true/\(boot_heap P).objs.size=11)∧
  (boot_heap P).nsMap mainGlobals "__annotations__"=annR:=fun P=>⟨⟨by kernel_rfl,by kernel_rfl⟩,by kernel_rfl⟩
noncomputable abbrev kept (p:Program) (P:Params) (b:Shared):Bool:=
 staticsOk (importedModules p.main.body) (boot_heap P) b.heap&&namesBound p b.heap&&gensDone b&&laidKept (boot_heap P) b.heap
theorem left1 {p q:Program}{loose:List Str}{Xt:Shared->Bool}{α:Type}{Yf:Shared->α}{Ya:World->α}{N:Nat}{g0:Bool}
  (e:opening p=plainProg p.main.scope.names) (hN:Nat.ble 600 N=true) (f:∀s,fenceModules? p s=some s)
  (run:∀(w:World) (os:OsState),(runQ p w N (at0 w os) (topStub p)).map (fun b=>
   (kept p w.params b.abs,Fast.tw4187177175401517315 q loose (importedModules p.main.body) Xt g0 b.abs,Yf b.abs))=some (true,openGood q loose,Ya w)):
  LeftO p q loose Xt Yf Ya N g0:=by
 intro w
 obtain⟨⟨hp,gs,d,k,os⟩,o1,o2⟩:=Option.map_eq_some_iff.mp (boot_open e hN f w)
 obtain⟨rfl,rfl,rfl,rfl⟩:hp=boot_heap w.params/\gs=Array.mk []/\d=boot_drawn/\k=boot_toks:=by
  simpa using o2
 obtain⟨⟨z1,z2⟩,z3⟩:=boot_looks w.params
 have r:=run w os
 rw[<- Fast.te4187177175401517315] at r
 obtain⟨b,r1,r2⟩:=Option.map_eq_some_iff.mp r
 rw[Prod.mk.injEq,Prod.mk.injEq] at r2
 have r3:=runQ_top N _ b _ r1
 rw[at0_abs] at r3
 have r4:topFrom treeTable p w N ⟨boot_heap w.params,Array.mk [],boot_drawn,boot_toks,os⟩=some b.abs:=by
  have k1:kept p w.params b.abs=true:=r2.1
  unfold kept at k1
  unfold topFrom
  simp only[z1,z2,z3,r3,Option.bind_some,k1]
 have r5:openEnds treeTable p w N=some b.abs:=by
  unfold openEnds
  simp only[o1,Option.bind_some,r4]
 rw[r5]
 exact congrArg some (by rw[<- r2.2.1,<- r2.2.2])
theorem left3 {p q:Program}{loose:List Str}{Xt:Shared->Bool}{α:Type}{Yf:Shared->α}{Ya:World->α}{N:Nat}{g0:Bool}(e:opening p=plainProg p.main.scope.names)(hN:Nat.ble 600 N=true)(f:∀s,fenceModules? p s=some s)
 (r1:∀(w:World) (os:OsState),(runQ p w N (at0 w os) (topStub p)).map (fun b=>kept p w.params b.abs)=some true)
 (r2:∀(w:World) (os:OsState),(runQ p w N (at0 w os) (topStub p)).map (fun b=>Fast.tw4187177175401517315 q loose (importedModules p.main.body) Xt g0 b.abs)=some (openGood q loose))
 (r3:∀(w:World) (os:OsState),(runQ p w N (at0 w os) (topStub p)).map (fun b=>Yf b.abs)=some (Ya w)):LeftO p q loose Xt Yf Ya N g0:=
 left1 e hN f fun w os=>by
 obtain⟨b,e1,e2⟩:=Option.map_eq_some_iff.mp (r1 w os)
 have h2:=r2 w os
 have h3:=r3 w os
 rw[e1] at h2 h3 ⊢
 exact congrArg some (Prod.ext e2 (Prod.ext (Option.some.inj h2) (Option.some.inj h3)))
end HT
namespace L2
open PySem
def inClass (s:Stmt)(j:Nat):Stmt:=match s with
 |.ClassDef _ _ _ body _ _ _ _ _ _ _=>body.getD j (.Pass ⟨0,0,0,0⟩)
 |_=>.Pass ⟨0,0,0,0⟩
def defArgs (s:Stmt):Arguments:=match s with
 |.FunctionDef _ a _ _ _ _ _ _ _ _=>a
 |_=>{ posonlyargs:=[],args:=[],vararg:=none,kwonlyargs:=[],kw_defaults:=[],kwarg:=none,defaults:=[] }
def defBody (s:Stmt):List Stmt:=match s with
 |.FunctionDef _ _ b _ _ _ _ _ _ _=>b
 |_=>[]
def defScope (s:Stmt):Scope:=match s with
 |.FunctionDef _ _ _ _ _ _ sc _ _ _=>sc
 |_=>{ kind:=.function,names:=[],isGenerator:=false,isCoroutine:=false }
end L2
namespace SL
open PySem L2
def top (i:Nat):Stmt:=PySem.Challenge.pw_logloom_k59_whole_watch.main.body.getD i (.Pass ⟨0,0,0,0⟩)
abbrev sMo:Stmt:=top 28
abbrev sNw:Stmt:=inClass (top 30) 0
abbrev sNt:Stmt:=inClass (top 30) 1
abbrev sAw:Stmt:=inClass (top 31) 0
abbrev sAt:Stmt:=inClass (top 31) 1
abbrev sIw:Stmt:=inClass (top 32) 0
abbrev sIt:Stmt:=inClass (top 32) 1
abbrev sKw:Stmt:=inClass (top 33) 0
abbrev sKt:Stmt:=inClass (top 33) 1
abbrev sIi:Stmt:=top 34
abbrev sAl:Stmt:=top 35
abbrev sSo:Stmt:=top 36
end SL
namespace QL
open PySem L2
def top (i:Nat):Stmt:=PySem.Challenge.pw_logloom_k59_whole_watch.main.body.getD i (.Pass ⟨0,0,0,0⟩)
abbrev sMv:Stmt:=top 5
abbrev sYi:Stmt:=inClass (top 6) 0
abbrev sYk:Stmt:=inClass (top 6) 1
abbrev sYt:Stmt:=inClass (top 6) 2
abbrev sYe:Stmt:=inClass (top 6) 3
abbrev sYr:Stmt:=inClass (top 6) 4
abbrev sYs:Stmt:=inClass (top 6) 5
abbrev sWa:Stmt:=top 8
abbrev sSw:Stmt:=top 9
abbrev sBk:Stmt:=inClass (top 10) 0
abbrev sOn:Stmt:=inClass (top 10) 1
abbrev sRi:Stmt:=inClass (top 11) 0
abbrev sRf:Stmt:=inClass (top 11) 1
abbrev sWi:Stmt:=inClass (top 12) 0
abbrev sWf:Stmt:=inClass (top 12) 1
abbrev sHi:Stmt:=inClass (top 13) 0
abbrev sHo:Stmt:=inClass (top 13) 1
abbrev sHf:Stmt:=inClass (top 13) 2
abbrev sAi:Stmt:=inClass (top 14) 0
abbrev sAb:Stmt:=inClass (top 14) 1
abbrev sAf:Stmt:=inClass (top 14) 2
abbrev sTi:Stmt:=inClass (top 15) 0
abbrev sTb:Stmt:=inClass (top 15) 1
abbrev sTo:Stmt:=inClass (top 15) 2
abbrev sTf:Stmt:=inClass (top 15) 3
abbrev sJi:Stmt:=inClass (top 16) 0
abbrev sJb:Stmt:=inClass (top 16) 1
abbrev sJo:Stmt:=inClass (top 16) 2
abbrev sBf:Stmt:=inClass (top 17) 0
abbrev sEf:Stmt:=inClass (top 18) 0
abbrev sNi:Stmt:=inClass (top 19) 0
abbrev sNb:Stmt:=inClass (top 19) 1
abbrev sNo:Stmt:=inClass (top 19) 2
abbrev sNf:Stmt:=inClass (top 19) 3
abbrev sMd:Stmt:=top 42
abbrev sVo:Stmt:=top 43
abbrev sPi:Stmt:=top 44
abbrev sPt:Stmt:=top 45
abbrev sQt:Stmt:=top 46
abbrev sQo:Stmt:=top 47
abbrev sCe:Stmt:=top 49
abbrev sMi:Stmt:=top 50
abbrev sPo:Stmt:=top 51
abbrev sLe:Stmt:=top 52
abbrev sEn:Stmt:=top 53
abbrev sLg:Stmt:=top 54
abbrev sSa:Stmt:=top 55
abbrev sGa:Stmt:=top 56
abbrev sCo:Stmt:=top 57
abbrev sSh:Stmt:=top 58
abbrev sNr:Stmt:=top 59
abbrev sGw:Stmt:=top 60
abbrev sNe:Stmt:=top 61
abbrev sJu:Stmt:=top 62
abbrev sTe:Stmt:=top 63
abbrev sPc:Stmt:=top 64
abbrev sLk:Stmt:=top 65
abbrev sTl:Stmt:=top 66
abbrev sLaw:Stmt:=top 67
abbrev pGap:Str:="_law_gap_here"
abbrev pDue:Str:="_law_due"
end QL
namespace QL
open PySem L2
abbrev tu0:Obj:={cls:=.type "tuple",data:=.seq #[]}
def hK:PySem.Params->W.Frag:=fun P=>
 (nat_lit 2,{cls:=.none,data:=.dict #[]})::
 (nat_lit 3,{cls:=.type "dict",data:=.dict #[⟨PyData.keyHash P "__name__",.str "__name__" 165,.str "law_logloom_k59_whole_watch" 1077⟩,⟨PyData.keyHash P "__doc__",.str "__doc__" 166,.none⟩,⟨PyData.keyHash P "__package__",.str "__package__" 167,.none⟩,⟨PyData.keyHash P "__loader__",.str "__loader__" 168,.builtin "__main__.__loader__#opaque"⟩,⟨PyData.keyHash P "__spec__",.str "__spec__" 169,.none⟩,⟨PyData.keyHash P "__annotations__",.str "__annotations__" 170,.ref 6⟩,⟨PyData.keyHash P "__builtins__",.str "__builtins__" 171,.ref 4⟩,⟨PyData.keyHash P "__file__",.str "__file__" 173,.str "/claim/cut.py" 172⟩,⟨PyData.keyHash P "__cached__",.str "__cached__" 174,.none⟩,⟨PyData.keyHash P "LoomError",.str "LoomError" 206,.ref 24⟩,⟨PyData.keyHash P "NoQuestion",.str "NoQuestion" 231,.ref 44⟩,⟨PyData.keyHash P "Ended",.str "Ended" 247,.ref 56⟩,⟨PyData.keyHash P "moved",.str "moved" 255,.ref 63⟩,⟨PyData.keyHash P "Watch",.str "Watch" 332,.ref 115⟩,⟨PyData.keyHash P "word_at",.str "word_at" 342,.ref 126⟩,⟨PyData.keyHash P "same_word",.str "same_word" 353,.ref 133⟩,⟨PyData.keyHash P "Question",.str "Question" 396,.ref 164⟩,⟨PyData.keyHash P "Row",.str "Row" 430,.ref 192⟩,⟨PyData.keyHash P "With",.str "With" 467,.ref 218⟩,⟨PyData.keyHash P "Behind",.str "Behind" 515,.ref 251⟩,⟨PyData.keyHash P "Ahead",.str "Ahead" 563,.ref 284⟩,⟨PyData.keyHash P "Times",.str "Times" 612,.ref 322⟩,⟨PyData.keyHash P "Joint",.str "Joint" 653,.ref 355⟩,⟨PyData.keyHash P "Both",.str "Both" 680,.ref 374⟩,⟨PyData.keyHash P "Either",.str "Either" 706,.ref 393⟩,⟨PyData.keyHash P "Not",.str "Not" 754,.ref 433⟩,⟨PyData.keyHash P "FIGURES",.str "FIGURES" 758,.str "0123456789" 757⟩,⟨PyData.keyHash P "SMALL_LETTERS",.str "SMALL_LETTERS" 760,.str "abcdefghijklmnopqrstuvwxyz" 759⟩,⟨PyData.keyHash P "NAME_SIGNS",.str "NAME_SIGNS" 762,.str "abcdefghijklmnopqrstuvwxyz0123456789" 761⟩,⟨PyData.keyHash P "MARK_SIGNS",.str "MARK_SIGNS" 764,.str "abcdefghijklmnopqrstuvwxyzABCDEFGHIJKLMNOPQRSTUVWXYZ0123456789.:-_/=" 763⟩,⟨PyData.keyHash P "MOST_FIGURES",.str "MOST_FIGURES" 766,.int 9 765⟩,⟨PyData.keyHash P "MOST_SIGNS",.str "MOST_SIGNS" 768,.int 12 767⟩,⟨PyData.keyHash P "MOST_ITEMS",.str "MOST_ITEMS" 770,.int 4 769⟩,⟨PyData.keyHash P "made_of",.str "made_of" 776,.ref 440⟩,⟨PyData.keyHash P "Sort",.str "Sort" 811,.ref 464⟩,⟨PyData.keyHash P "Number",.str "Number" 842,.ref 492⟩,⟨PyData.keyHash P "Name",.str "Name" 873,.ref 518⟩,⟨PyData.keyHash P "Items",.str "Items" 902,.ref 542⟩,⟨PyData.keyHash P "Mark",.str "Mark" 933,.ref 568⟩,⟨PyData.keyHash P "is_item",.str "is_item" 940,.ref 577⟩,⟨PyData.keyHash P "all_sorts",.str "all_sorts" 946,.ref 584⟩,⟨PyData.keyHash P "sort_of",.str "sort_of" 954,.ref 591⟩,⟨PyData.keyHash P "MOST_PIECES",.str "MOST_PIECES" 958,.int 40 957⟩,⟨PyData.keyHash P "KINDS",.str "KINDS" 997,.ref 592⟩,⟨PyData.keyHash P "LEAST",.str "LEAST" 1007,.ref 601⟩,⟨PyData.keyHash P "GREATEST",.str "GREATEST" 1017,.ref 602⟩,⟨PyData.keyHash P "made",.str "made" 1025,.ref 609⟩,⟨PyData.keyHash P "value_of",.str "value_of" 1034,.ref 616⟩,⟨PyData.keyHash P "piece_at",.str "piece_at" 1042,.ref 623⟩,⟨PyData.keyHash P "part_at",.str "part_at" 1053,.ref 630⟩,⟨PyData.keyHash P "question_at",.str "question_at" 1067,.ref 637⟩,⟨PyData.keyHash P "question_of",.str "question_of" 1076,.ref 644⟩,⟨PyData.keyHash P "_law_cell_at",.str "_law_cell_at" 1086,.ref 651⟩,⟨PyData.keyHash P "_law_mix",.str "_law_mix" 1094,.ref 658⟩,⟨PyData.keyHash P "_law_pool",.str "_law_pool" 1110,.ref 665⟩,⟨PyData.keyHash P "_law_letters",.str "_law_letters" 1118,.ref 672⟩,⟨PyData.keyHash P "_law_entry",.str "_law_entry" 1124,.ref 677⟩,⟨PyData.keyHash P "_law_log",.str "_law_log" 1130,.ref 682⟩,⟨PyData.keyHash P "_law_same",.str "_law_same" 1136,.ref 687⟩,⟨PyData.keyHash P "_law_gap",.str "_law_gap" 1145,.ref 694⟩,⟨PyData.keyHash P "_law_count",.str "_law_count" 1153,.ref 701⟩,⟨PyData.keyHash P "_law_short",.str "_law_short" 1166,.ref 708⟩,⟨PyData.keyHash P "_law_nearer",.str "_law_nearer" 1174,.ref 715⟩,⟨PyData.keyHash P "_law_grown",.str "_law_grown" 1188,.ref 722⟩,⟨PyData.keyHash P "_law_near",.str "_law_near" 1194,.ref 727⟩,⟨PyData.keyHash P "_law_judged",.str "_law_judged" 1200,.ref 732⟩,⟨PyData.keyHash P "_law_text",.str "_law_text" 1209,.ref 739⟩,⟨PyData.keyHash P "_law_pieces",.str "_law_pieces" 1215,.ref 744⟩,⟨PyData.keyHash P "_law_looks",.str "_law_looks" 1227,.ref 751⟩,⟨PyData.keyHash P "_law_told",.str "_law_told" 1243,.ref 758⟩,⟨PyData.keyHash P "law",.str "law" 1249,.ref 763⟩] 71})::
 (nat_lit 15,{cls:=.type "tuple",data:=.seq #[.type "ValueError"]})::
 (nat_lit 22,tu0)::
 (nat_lit 23,{cls:=.type "dict",data:=.dict #[⟨PyData.keyHash P "__module__",.str "__module__" 196,.str "logloom.errors" 187⟩,⟨PyData.keyHash P "__firstlineno__",.str "__firstlineno__" 200,.int 2 199⟩,⟨PyData.keyHash P "__static_attributes__",.str "__static_attributes__" 201,.ref 22⟩,⟨PyData.keyHash P "__weakref__",.str "__weakref__" 203,.ref 25⟩,⟨PyData.keyHash P "__doc__",.str "__doc__" 204,.none⟩] 3})::
 (nat_lit 24,{cls:=.type "type",data:=Data.cls { name:=Str.ofString "LoomError",bases:=[.type "ValueError"],mro:=[.ref 24,.type "ValueError",.type "Exception",.type "BaseException",.type "object"],ns:=23,qualname:=Str.ofString "LoomError",subclasses:=[.ref 44,.ref 56]},slots:=#[some (.ref 15),none,some (.str "LoomError" 189),some (.str "LoomError" 197),some (.builtin "ValueError.__new__"),some (.bool true)]})::
 (nat_lit 25,{cls:=.type "getset_descriptor",data:=.fields #[.str "__weakref__" 202,.ref 24,.builtin "ExceptionGroup.__weakref__",.none]})::
 (nat_lit 28,{cls:=.type "tuple",data:=.seq #[.ref 24]})::
 (nat_lit 35,tu0)::
 (nat_lit 37,{cls:=.type "tuple",data:=.seq #[.str "self" 222,.str "at" 223]})::
 (nat_lit 38,tu0)::
 (nat_lit 40,{cls:=.type "code",data:=.fields #[.str "__init__" 219,.str "NoQuestion.__init__" 220,.str "/claim/cut.py" 221,.int 6 0,.int 2 0,.int 0 0,.int 0 0,.int 3 0,.ref 35,.bool true,.int 181 0,.ref 36,.none,.ref 37,.ref 38,.ref 39,.int 224 0,.int 6 0,.str "/claim/cut.py" 225]})::
 (nat_lit 41,⟨(.type "function"),none,.func (W.fnOf "__init__" "NoQuestion.__init__" (defArgs (inClass (top 2) 0)) (defBody (inClass (top 2) 0)) (defScope (inClass (top 2) 0)) .none .none .none (.str "logloom.errors" 187) none (.ref 40) .none),#[]⟩)::
 (nat_lit 42,{cls:=.type "tuple",data:=.seq #[.str "at" 227]})::
 (nat_lit 43,{cls:=.type "dict",data:=.dict #[⟨PyData.keyHash P "__module__",.str "__module__" 214,.str "logloom.errors" 187⟩,⟨PyData.keyHash P "__firstlineno__",.str "__firstlineno__" 218,.int 4 217⟩,⟨PyData.keyHash P "__init__",.str "__init__" 226,.ref 41⟩,⟨PyData.keyHash P "__static_attributes__",.str "__static_attributes__" 228,.ref 42⟩,⟨PyData.keyHash P "__doc__",.str "__doc__" 229,.none⟩] 2})::
 (nat_lit 44,{cls:=.type "type",data:=Data.cls { name:=Str.ofString "NoQuestion",bases:=[.ref 24],mro:=[.ref 44,.ref 24,.type "ValueError",.type "Exception",.type "BaseException",.type "object"],ns:=43,qualname:=Str.ofString "NoQuestion"},slots:=#[some (.ref 28),none,some (.str "NoQuestion" 207),some (.str "NoQuestion" 215),some (.builtin "ValueError.__new__"),some (.bool true)]})::
 (nat_lit 47,{cls:=.type "tuple",data:=.seq #[.ref 24]})::
 (nat_lit 54,tu0)::
 (nat_lit 55,{cls:=.type "dict",data:=.dict #[⟨PyData.keyHash P "__module__",.str "__module__" 239,.str "logloom.errors" 187⟩,⟨PyData.keyHash P "__firstlineno__",.str "__firstlineno__" 243,.int 8 242⟩,⟨PyData.keyHash P "__static_attributes__",.str "__static_attributes__" 244,.ref 54⟩,⟨PyData.keyHash P "__doc__",.str "__doc__" 245,.none⟩] 2})::
 (nat_lit 56,{cls:=.type "type",data:=Data.cls { name:=Str.ofString "Ended",bases:=[.ref 24],mro:=[.ref 56,.ref 24,.type "ValueError",.type "Exception",.type "BaseException",.type "object"],ns:=55,qualname:=Str.ofString "Ended"},slots:=#[some (.ref 47),none,some (.str "Ended" 232),some (.str "Ended" 240),some (.builtin "ValueError.__new__"),some (.bool true)]})::
 (nat_lit 59,tu0)::
 (nat_lit 62,{cls:=.type "code",data:=.fields #[.str "moved" 250,.str "moved" 251,.str "/claim/cut.py" 252,.int 11 0,.int 2 0,.int 0 0,.int 0 0,.int 3 0,.ref 59,.bool true,.int 181 0,.ref 60,.none,.none,.none,.ref 61,.int 253 0,.int 11 0,.str "/claim/cut.py" 254]})::
 (nat_lit 63,⟨(.type "function"),none,.func (W.fnOf "moved" "moved" (defArgs (top 5)) (defBody (top 5)) (defScope (top 5)) .none .none .none (.str "logloom.watches" 248) none (.ref 62) .none),#[]⟩)::
 (nat_lit 71,tu0)::
 (nat_lit 73,{cls:=.type "tuple",data:=.seq #[.str "self" 271,.str "question" 272]})::
 (nat_lit 74,tu0)::
 (nat_lit 76,{cls:=.type "code",data:=.fields #[.str "__init__" 268,.str "Watch.__init__" 269,.str "/claim/cut.py" 270,.int 15 0,.int 2 0,.int 0 0,.int 0 0,.int 3 0,.ref 71,.bool true,.int 181 0,.ref 72,.none,.ref 73,.ref 74,.ref 75,.int 273 0,.int 15 0,.str "/claim/cut.py" 274]})::
 (nat_lit 77,⟨(.type "function"),none,.func (W.fnOf "__init__" "Watch.__init__" (defArgs (inClass (top 6) 0)) (defBody (inClass (top 6) 0)) (defScope (inClass (top 6) 0)) .none .none .none (.str "logloom.watches" 248) none (.ref 76) .none),#[]⟩)::
 (nat_lit 78,tu0)::
 (nat_lit 80,{cls:=.type "tuple",data:=.seq #[.str "self" 279]})::
 (nat_lit 81,tu0)::
 (nat_lit 83,{cls:=.type "code",data:=.fields #[.str "kept" 276,.str "Watch.kept" 277,.str "/claim/cut.py" 278,.int 22 0,.int 1 0,.int 0 0,.int 0 0,.int 3 0,.ref 78,.bool true,.int 181 0,.ref 79,.none,.ref 80,.ref 81,.ref 82,.int 280 0,.int 22 0,.str "/claim/cut.py" 281]})::
 (nat_lit 84,⟨(.type "function"),none,.func (W.fnOf "kept" "Watch.kept" (defArgs (inClass (top 6) 1)) (defBody (inClass (top 6) 1)) (defScope (inClass (top 6) 1)) .none .none .none (.str "logloom.watches" 248) none (.ref 83) .none),#[]⟩)::
 (nat_lit 85,tu0)::
 (nat_lit 87,{cls:=.type "tuple",data:=.seq #[.str "self" 286,.str "piece" 287,.str "entries" 288]})::
 (nat_lit 88,tu0)::
 (nat_lit 90,{cls:=.type "code",data:=.fields #[.str "take" 283,.str "Watch.take" 284,.str "/claim/cut.py" 285,.int 25 0,.int 2 0,.int 0 0,.int 0 0,.int 3 0,.ref 85,.bool true,.int 181 0,.ref 86,.none,.ref 87,.ref 88,.ref 89,.int 289 0,.int 25 0,.str "/claim/cut.py" 290]})::
 (nat_lit 91,⟨(.type "function"),none,.func (W.fnOf "take" "Watch.take" (defArgs (inClass (top 6) 2)) (defBody (inClass (top 6) 2)) (defScope (inClass (top 6) 2)) .none .none .none (.str "logloom.watches" 248) none (.ref 90) .none),#[]⟩)::
 (nat_lit 92,tu0)::
 (nat_lit 94,{cls:=.type "tuple",data:=.seq #[.str "self" 295,.str "told" 296]})::
 (nat_lit 95,tu0)::
 (nat_lit 97,{cls:=.type "code",data:=.fields #[.str "end" 292,.str "Watch.end" 293,.str "/claim/cut.py" 294,.int 30 0,.int 1 0,.int 0 0,.int 0 0,.int 3 0,.ref 92,.bool true,.int 181 0,.ref 93,.none,.ref 94,.ref 95,.ref 96,.int 297 0,.int 30 0,.str "/claim/cut.py" 298]})::
 (nat_lit 98,⟨(.type "function"),none,.func (W.fnOf "end" "Watch.end" (defArgs (inClass (top 6) 3)) (defBody (inClass (top 6) 3)) (defScope (inClass (top 6) 3)) .none .none .none (.str "logloom.watches" 248) none (.ref 97) .none),#[]⟩)::
 (nat_lit 99,tu0)::
 (nat_lit 101,{cls:=.type "tuple",data:=.seq #[.str "self" 303]})::
 (nat_lit 102,tu0)::
 (nat_lit 104,{cls:=.type "code",data:=.fields #[.str "refuse_if_over" 300,.str "Watch.refuse_if_over" 301,.str "/claim/cut.py" 302,.int 37 0,.int 1 0,.int 0 0,.int 0 0,.int 3 0,.ref 99,.bool true,.int 181 0,.ref 100,.none,.ref 101,.ref 102,.ref 103,.int 304 0,.int 37 0,.str "/claim/cut.py" 305]})::
 (nat_lit 105,⟨(.type "function"),none,.func (W.fnOf "refuse_if_over" "Watch.refuse_if_over" (defArgs (inClass (top 6) 4)) (defBody (inClass (top 6) 4)) (defScope (inClass (top 6) 4)) .none .none .none (.str "logloom.watches" 248) none (.ref 104) .none),#[]⟩)::
 (nat_lit 106,tu0)::
 (nat_lit 108,{cls:=.type "tuple",data:=.seq #[.str "self" 310,.str "entries" 311,.str "stop" 312,.str "told" 313,.str "n" 314,.str "rows" 315,.str "first" 316]})::
 (nat_lit 109,tu0)::
 (nat_lit 111,{cls:=.type "code",data:=.fields #[.str "settle" 307,.str "Watch.settle" 308,.str "/claim/cut.py" 309,.int 41 0,.int 3 0,.int 0 0,.int 0 0,.int 3 0,.ref 106,.bool true,.int 181 0,.ref 107,.none,.ref 108,.ref 109,.ref 110,.int 317 0,.int 41 0,.str "/claim/cut.py" 318]})::
 (nat_lit 112,⟨(.type "function"),none,.func (W.fnOf "settle" "Watch.settle" (defArgs (inClass (top 6) 5)) (defBody (inClass (top 6) 5)) (defScope (inClass (top 6) 5)) .none .none .none (.str "logloom.watches" 248) none (.ref 111) .none),#[]⟩)::
 (nat_lit 113,{cls:=.type "tuple",data:=.seq #[.str "entries" 320,.str "first" 321,.str "over" 322,.str "question" 323,.str "settled" 324]})::
 (nat_lit 114,{cls:=.type "dict",data:=.dict #[⟨PyData.keyHash P "__module__",.str "__module__" 263,.str "logloom.watches" 248⟩,⟨PyData.keyHash P "__firstlineno__",.str "__firstlineno__" 267,.int 13 266⟩,⟨PyData.keyHash P "__init__",.str "__init__" 275,.ref 77⟩,⟨PyData.keyHash P "kept",.str "kept" 282,.ref 84⟩,⟨PyData.keyHash P "take",.str "take" 291,.ref 91⟩,⟨PyData.keyHash P "end",.str "end" 299,.ref 98⟩,⟨PyData.keyHash P "refuse_if_over",.str "refuse_if_over" 306,.ref 105⟩,⟨PyData.keyHash P "settle",.str "settle" 319,.ref 112⟩,⟨PyData.keyHash P "__static_attributes__",.str "__static_attributes__" 325,.ref 113⟩,⟨PyData.keyHash P "__dict__",.str "__dict__" 327,.ref 116⟩,⟨PyData.keyHash P "__weakref__",.str "__weakref__" 329,.ref 117⟩,⟨PyData.keyHash P "__doc__",.str "__doc__" 330,.none⟩] 4})::
 (nat_lit 115,{cls:=.type "type",data:=Data.cls { name:=Str.ofString "Watch",bases:=[.type "object"],mro:=[.ref 115,.type "object"],ns:=114,qualname:=Str.ofString "Watch"},slots:=#[none,none,some (.str "Watch" 256),some (.str "Watch" 264),some (.builtin "object.__new__"),some (.bool true)]})::
 (nat_lit 116,{cls:=.type "getset_descriptor",data:=.fields #[.str "__dict__" 326,.ref 115,.builtin "function.__dict__",.builtin "function.__dict__#set"]})::
 (nat_lit 117,{cls:=.type "getset_descriptor",data:=.fields #[.str "__weakref__" 328,.ref 115,.builtin "ExceptionGroup.__weakref__",.none]})::
 (nat_lit 120,tu0)::
 (nat_lit 122,{cls:=.type "tuple",data:=.seq #[.str "entry" 338,.str "place" 339]})::
 (nat_lit 123,tu0)::
 (nat_lit 125,{cls:=.type "code",data:=.fields #[.str "word_at" 335,.str "word_at" 336,.str "/claim/cut.py" 337,.int 53 0,.int 2 0,.int 0 0,.int 0 0,.int 3 0,.ref 120,.bool true,.int 181 0,.ref 121,.none,.ref 122,.ref 123,.ref 124,.int 340 0,.int 53 0,.str "/claim/cut.py" 341]})::
 (nat_lit 126,⟨(.type "function"),none,.func (W.fnOf "word_at" "word_at" (defArgs (top 8)) (defBody (top 8)) (defScope (top 8)) .none .none .none (.str "logloom.questions" 333) none (.ref 125) .none),#[]⟩)::
 (nat_lit 127,tu0)::
 (nat_lit 129,{cls:=.type "tuple",data:=.seq #[.str "entry" 346,.str "place" 347,.str "other" 348,.str "away" 349,.str "word" 350]})::
 (nat_lit 130,tu0)::
 (nat_lit 132,{cls:=.type "code",data:=.fields #[.str "same_word" 343,.str "same_word" 344,.str "/claim/cut.py" 345,.int 57 0,.int 4 0,.int 0 0,.int 0 0,.int 3 0,.ref 127,.bool true,.int 181 0,.ref 128,.none,.ref 129,.ref 130,.ref 131,.int 351 0,.int 57 0,.str "/claim/cut.py" 352]})::
 (nat_lit 133,⟨(.type "function"),none,.func (W.fnOf "same_word" "same_word" (defArgs (top 9)) (defBody (top 9)) (defScope (top 9)) .none .none .none (.str "logloom.questions" 333) none (.ref 132) .none),#[]⟩)::
 (nat_lit 141,tu0)::
 (nat_lit 143,{cls:=.type "tuple",data:=.seq #[.str "self" 369]})::
 (nat_lit 144,tu0)::
 (nat_lit 146,{cls:=.type "code",data:=.fields #[.str "back" 366,.str "Question.back" 367,.str "/claim/cut.py" 368,.int 62 0,.int 1 0,.int 0 0,.int 0 0,.int 3 0,.ref 141,.bool true,.int 181 0,.ref 142,.none,.ref 143,.ref 144,.ref 145,.int 370 0,.int 62 0,.str "/claim/cut.py" 371]})::
 (nat_lit 147,⟨(.type "function"),none,.func (W.fnOf "back" "Question.back" (defArgs (inClass (top 10) 0)) (defBody (inClass (top 10) 0)) (defScope (inClass (top 10) 0)) .none .none .none (.str "logloom.questions" 333) none (.ref 146) .none),#[]⟩)::
 (nat_lit 148,tu0)::
 (nat_lit 150,{cls:=.type "tuple",data:=.seq #[.str "self" 376]})::
 (nat_lit 151,tu0)::
 (nat_lit 153,{cls:=.type "code",data:=.fields #[.str "on" 373,.str "Question.on" 374,.str "/claim/cut.py" 375,.int 65 0,.int 1 0,.int 0 0,.int 0 0,.int 3 0,.ref 148,.bool true,.int 181 0,.ref 149,.none,.ref 150,.ref 151,.ref 152,.int 377 0,.int 65 0,.str "/claim/cut.py" 378]})::
 (nat_lit 154,⟨(.type "function"),none,.func (W.fnOf "on" "Question.on" (defArgs (inClass (top 10) 1)) (defBody (inClass (top 10) 1)) (defScope (inClass (top 10) 1)) .none .none .none (.str "logloom.questions" 333) none (.ref 153) .none),#[]⟩)::
 (nat_lit 155,tu0)::
 (nat_lit 157,{cls:=.type "tuple",data:=.seq #[.str "self" 383,.str "log" 384,.str "n" 385]})::
 (nat_lit 158,tu0)::
 (nat_lit 160,{cls:=.type "code",data:=.fields #[.str "found" 380,.str "Question.found" 381,.str "/claim/cut.py" 382,.int 68 0,.int 3 0,.int 0 0,.int 0 0,.int 3 0,.ref 155,.bool true,.int 181 0,.ref 156,.none,.ref 157,.ref 158,.ref 159,.int 386 0,.int 68 0,.str "/claim/cut.py" 387]})::
 (nat_lit 161,⟨(.type "function"),none,.func (W.fnOf "found" "Question.found" (defArgs (inClass (top 10) 2)) (defBody (inClass (top 10) 2)) (defScope (inClass (top 10) 2)) .none .none .none (.str "logloom.questions" 333) none (.ref 160) .none),#[]⟩)::
 (nat_lit 162,tu0)::
 (nat_lit 163,{cls:=.type "dict",data:=.dict #[⟨PyData.keyHash P "__module__",.str "__module__" 361,.str "logloom.questions" 333⟩,⟨PyData.keyHash P "__firstlineno__",.str "__firstlineno__" 365,.int 60 364⟩,⟨PyData.keyHash P "back",.str "back" 372,.ref 147⟩,⟨PyData.keyHash P "on",.str "on" 379,.ref 154⟩,⟨PyData.keyHash P "found",.str "found" 388,.ref 161⟩,⟨PyData.keyHash P "__static_attributes__",.str "__static_attributes__" 389,.ref 162⟩,⟨PyData.keyHash P "__dict__",.str "__dict__" 391,.ref 165⟩,⟨PyData.keyHash P "__weakref__",.str "__weakref__" 393,.ref 166⟩,⟨PyData.keyHash P "__doc__",.str "__doc__" 394,.none⟩] 4})::
 (nat_lit 164,{cls:=.type "type",data:=Data.cls { name:=Str.ofString "Question",bases:=[.type "object"],mro:=[.ref 164,.type "object"],ns:=163,qualname:=Str.ofString "Question",subclasses:=[.ref 192,.ref 218,.ref 251,.ref 284,.ref 322,.ref 355,.ref 433]},slots:=#[none,none,some (.str "Question" 354),some (.str "Question" 362),some (.builtin "object.__new__"),some (.bool true)]})::
 (nat_lit 165,{cls:=.type "getset_descriptor",data:=.fields #[.str "__dict__" 390,.ref 164,.builtin "function.__dict__",.builtin "function.__dict__#set"]})::
 (nat_lit 166,{cls:=.type "getset_descriptor",data:=.fields #[.str "__weakref__" 392,.ref 164,.builtin "ExceptionGroup.__weakref__",.none]})::
 (nat_lit 169,{cls:=.type "tuple",data:=.seq #[.ref 164]})::
 (nat_lit 176,tu0)::
 (nat_lit 178,{cls:=.type "tuple",data:=.seq #[.str "self" 412,.str "letter" 413]})::
 (nat_lit 179,tu0)::
 (nat_lit 181,{cls:=.type "code",data:=.fields #[.str "__init__" 409,.str "Row.__init__" 410,.str "/claim/cut.py" 411,.int 72 0,.int 2 0,.int 0 0,.int 0 0,.int 3 0,.ref 176,.bool true,.int 181 0,.ref 177,.none,.ref 178,.ref 179,.ref 180,.int 414 0,.int 72 0,.str "/claim/cut.py" 415]})::
 (nat_lit 182,⟨(.type "function"),none,.func (W.fnOf "__init__" "Row.__init__" (defArgs (inClass (top 11) 0)) (defBody (inClass (top 11) 0)) (defScope (inClass (top 11) 0)) .none .none .none (.str "logloom.questions" 333) none (.ref 181) .none),#[]⟩)::
 (nat_lit 183,tu0)::
 (nat_lit 185,{cls:=.type "tuple",data:=.seq #[.str "self" 420,.str "log" 421,.str "n" 422]})::
 (nat_lit 186,tu0)::
 (nat_lit 188,{cls:=.type "code",data:=.fields #[.str "found" 417,.str "Row.found" 418,.str "/claim/cut.py" 419,.int 75 0,.int 3 0,.int 0 0,.int 0 0,.int 3 0,.ref 183,.bool true,.int 181 0,.ref 184,.none,.ref 185,.ref 186,.ref 187,.int 423 0,.int 75 0,.str "/claim/cut.py" 424]})::
 (nat_lit 189,⟨(.type "function"),none,.func (W.fnOf "found" "Row.found" (defArgs (inClass (top 11) 1)) (defBody (inClass (top 11) 1)) (defScope (inClass (top 11) 1)) .none .none .none (.str "logloom.questions" 333) none (.ref 188) .none),#[]⟩)::
 (nat_lit 190,{cls:=.type "tuple",data:=.seq #[.str "wanted" 426]})::
 (nat_lit 191,{cls:=.type "dict",data:=.dict #[⟨PyData.keyHash P "__module__",.str "__module__" 404,.str "logloom.questions" 333⟩,⟨PyData.keyHash P "__firstlineno__",.str "__firstlineno__" 408,.int 70 407⟩,⟨PyData.keyHash P "__init__",.str "__init__" 416,.ref 182⟩,⟨PyData.keyHash P "found",.str "found" 425,.ref 189⟩,⟨PyData.keyHash P "__static_attributes__",.str "__static_attributes__" 427,.ref 190⟩,⟨PyData.keyHash P "__doc__",.str "__doc__" 428,.none⟩] 2})::
 (nat_lit 192,{cls:=.type "type",data:=Data.cls { name:=Str.ofString "Row",bases:=[.ref 164],mro:=[.ref 192,.ref 164,.type "object"],ns:=191,qualname:=Str.ofString "Row"},slots:=#[some (.ref 169),none,some (.str "Row" 397),some (.str "Row" 405),some (.builtin "object.__new__"),some (.bool true)]})::
 (nat_lit 195,{cls:=.type "tuple",data:=.seq #[.ref 164]})::
 (nat_lit 202,tu0)::
 (nat_lit 204,{cls:=.type "tuple",data:=.seq #[.str "self" 446,.str "letter" 447,.str "gap" 448,.str "word" 449]})::
 (nat_lit 205,tu0)::
 (nat_lit 207,{cls:=.type "code",data:=.fields #[.str "__init__" 443,.str "With.__init__" 444,.str "/claim/cut.py" 445,.int 79 0,.int 4 0,.int 0 0,.int 0 0,.int 3 0,.ref 202,.bool true,.int 181 0,.ref 203,.none,.ref 204,.ref 205,.ref 206,.int 450 0,.int 79 0,.str "/claim/cut.py" 451]})::
 (nat_lit 208,⟨(.type "function"),none,.func (W.fnOf "__init__" "With.__init__" (defArgs (inClass (top 12) 0)) (defBody (inClass (top 12) 0)) (defScope (inClass (top 12) 0)) .none .none .none (.str "logloom.questions" 333) none (.ref 207) .none),#[]⟩)::
 (nat_lit 209,tu0)::
 (nat_lit 211,{cls:=.type "tuple",data:=.seq #[.str "self" 456,.str "log" 457,.str "n" 458]})::
 (nat_lit 212,tu0)::
 (nat_lit 214,{cls:=.type "code",data:=.fields #[.str "found" 453,.str "With.found" 454,.str "/claim/cut.py" 455,.int 83 0,.int 3 0,.int 0 0,.int 0 0,.int 3 0,.ref 209,.bool true,.int 181 0,.ref 210,.none,.ref 211,.ref 212,.ref 213,.int 459 0,.int 83 0,.str "/claim/cut.py" 460]})::
 (nat_lit 215,⟨(.type "function"),none,.func (W.fnOf "found" "With.found" (defArgs (inClass (top 12) 1)) (defBody (inClass (top 12) 1)) (defScope (inClass (top 12) 1)) .none .none .none (.str "logloom.questions" 333) none (.ref 214) .none),#[]⟩)::
 (nat_lit 216,{cls:=.type "tuple",data:=.seq #[.str "here" 462,.str "wanted" 463]})::
 (nat_lit 217,{cls:=.type "dict",data:=.dict #[⟨PyData.keyHash P "__module__",.str "__module__" 438,.str "logloom.questions" 333⟩,⟨PyData.keyHash P "__firstlineno__",.str "__firstlineno__" 442,.int 77 441⟩,⟨PyData.keyHash P "__init__",.str "__init__" 452,.ref 208⟩,⟨PyData.keyHash P "found",.str "found" 461,.ref 215⟩,⟨PyData.keyHash P "__static_attributes__",.str "__static_attributes__" 464,.ref 216⟩,⟨PyData.keyHash P "__doc__",.str "__doc__" 465,.none⟩] 2})::
 (nat_lit 218,{cls:=.type "type",data:=Data.cls { name:=Str.ofString "With",bases:=[.ref 164],mro:=[.ref 218,.ref 164,.type "object"],ns:=217,qualname:=Str.ofString "With"},slots:=#[some (.ref 195),none,some (.str "With" 431),some (.str "With" 439),some (.builtin "object.__new__"),some (.bool true)]})::
 (nat_lit 221,{cls:=.type "tuple",data:=.seq #[.ref 164]})::
 (nat_lit 228,tu0)::
 (nat_lit 230,{cls:=.type "tuple",data:=.seq #[.str "self" 483,.str "letter" 484,.str "gap" 485,.str "other" 486,.str "there" 487,.str "reach" 488]})::
 (nat_lit 231,tu0)::
 (nat_lit 233,{cls:=.type "code",data:=.fields #[.str "__init__" 480,.str "Behind.__init__" 481,.str "/claim/cut.py" 482,.int 87 0,.int 6 0,.int 0 0,.int 0 0,.int 3 0,.ref 228,.bool true,.int 181 0,.ref 229,.none,.ref 230,.ref 231,.ref 232,.int 489 0,.int 87 0,.str "/claim/cut.py" 490]})::
 (nat_lit 234,⟨(.type "function"),none,.func (W.fnOf "__init__" "Behind.__init__" (defArgs (inClass (top 13) 0)) (defBody (inClass (top 13) 0)) (defScope (inClass (top 13) 0)) .none .none .none (.str "logloom.questions" 333) none (.ref 233) .none),#[]⟩)::
 (nat_lit 235,tu0)::
 (nat_lit 237,{cls:=.type "tuple",data:=.seq #[.str "self" 495]})::
 (nat_lit 238,tu0)::
 (nat_lit 240,{cls:=.type "code",data:=.fields #[.str "on" 492,.str "Behind.on" 493,.str "/claim/cut.py" 494,.int 92 0,.int 1 0,.int 0 0,.int 0 0,.int 3 0,.ref 235,.bool true,.int 181 0,.ref 236,.none,.ref 237,.ref 238,.ref 239,.int 496 0,.int 92 0,.str "/claim/cut.py" 497]})::
 (nat_lit 241,⟨(.type "function"),none,.func (W.fnOf "on" "Behind.on" (defArgs (inClass (top 13) 1)) (defBody (inClass (top 13) 1)) (defScope (inClass (top 13) 1)) .none .none .none (.str "logloom.questions" 333) none (.ref 240) .none),#[]⟩)::
 (nat_lit 242,tu0)::
 (nat_lit 244,{cls:=.type "tuple",data:=.seq #[.str "self" 502,.str "log" 503,.str "n" 504,.str "row" 505]})::
 (nat_lit 245,tu0)::
 (nat_lit 247,{cls:=.type "code",data:=.fields #[.str "found" 499,.str "Behind.found" 500,.str "/claim/cut.py" 501,.int 95 0,.int 3 0,.int 0 0,.int 0 0,.int 3 0,.ref 242,.bool true,.int 181 0,.ref 243,.none,.ref 244,.ref 245,.ref 246,.int 506 0,.int 95 0,.str "/claim/cut.py" 507]})::
 (nat_lit 248,⟨(.type "function"),none,.func (W.fnOf "found" "Behind.found" (defArgs (inClass (top 13) 2)) (defBody (inClass (top 13) 2)) (defScope (inClass (top 13) 2)) .none .none .none (.str "logloom.questions" 333) none (.ref 247) .none),#[]⟩)::
 (nat_lit 249,{cls:=.type "tuple",data:=.seq #[.str "away" 509,.str "here" 510,.str "reach" 511]})::
 (nat_lit 250,{cls:=.type "dict",data:=.dict #[⟨PyData.keyHash P "__module__",.str "__module__" 475,.str "logloom.questions" 333⟩,⟨PyData.keyHash P "__firstlineno__",.str "__firstlineno__" 479,.int 85 478⟩,⟨PyData.keyHash P "__init__",.str "__init__" 491,.ref 234⟩,⟨PyData.keyHash P "on",.str "on" 498,.ref 241⟩,⟨PyData.keyHash P "found",.str "found" 508,.ref 248⟩,⟨PyData.keyHash P "__static_attributes__",.str "__static_attributes__" 512,.ref 249⟩,⟨PyData.keyHash P "__doc__",.str "__doc__" 513,.none⟩] 2})::
 (nat_lit 251,{cls:=.type "type",data:=Data.cls { name:=Str.ofString "Behind",bases:=[.ref 164],mro:=[.ref 251,.ref 164,.type "object"],ns:=250,qualname:=Str.ofString "Behind"},slots:=#[some (.ref 221),none,some (.str "Behind" 468),some (.str "Behind" 476),some (.builtin "object.__new__"),some (.bool true)]})::
 (nat_lit 254,{cls:=.type "tuple",data:=.seq #[.ref 164]})::
 (nat_lit 261,tu0)::
 (nat_lit 263,{cls:=.type "tuple",data:=.seq #[.str "self" 531,.str "letter" 532,.str "gap" 533,.str "other" 534,.str "there" 535,.str "reach" 536]})::
 (nat_lit 264,tu0)::
 (nat_lit 266,{cls:=.type "code",data:=.fields #[.str "__init__" 528,.str "Ahead.__init__" 529,.str "/claim/cut.py" 530,.int 102 0,.int 6 0,.int 0 0,.int 0 0,.int 3 0,.ref 261,.bool true,.int 181 0,.ref 262,.none,.ref 263,.ref 264,.ref 265,.int 537 0,.int 102 0,.str "/claim/cut.py" 538]})::
 (nat_lit 267,⟨(.type "function"),none,.func (W.fnOf "__init__" "Ahead.__init__" (defArgs (inClass (top 14) 0)) (defBody (inClass (top 14) 0)) (defScope (inClass (top 14) 0)) .none .none .none (.str "logloom.questions" 333) none (.ref 266) .none),#[]⟩)::
 (nat_lit 268,tu0)::
 (nat_lit 270,{cls:=.type "tuple",data:=.seq #[.str "self" 543]})::
 (nat_lit 271,tu0)::
 (nat_lit 273,{cls:=.type "code",data:=.fields #[.str "back" 540,.str "Ahead.back" 541,.str "/claim/cut.py" 542,.int 107 0,.int 1 0,.int 0 0,.int 0 0,.int 3 0,.ref 268,.bool true,.int 181 0,.ref 269,.none,.ref 270,.ref 271,.ref 272,.int 544 0,.int 107 0,.str "/claim/cut.py" 545]})::
 (nat_lit 274,⟨(.type "function"),none,.func (W.fnOf "back" "Ahead.back" (defArgs (inClass (top 14) 1)) (defBody (inClass (top 14) 1)) (defScope (inClass (top 14) 1)) .none .none .none (.str "logloom.questions" 333) none (.ref 273) .none),#[]⟩)::
 (nat_lit 275,tu0)::
 (nat_lit 277,{cls:=.type "tuple",data:=.seq #[.str "self" 550,.str "log" 551,.str "n" 552,.str "row" 553]})::
 (nat_lit 278,tu0)::
 (nat_lit 280,{cls:=.type "code",data:=.fields #[.str "found" 547,.str "Ahead.found" 548,.str "/claim/cut.py" 549,.int 110 0,.int 3 0,.int 0 0,.int 0 0,.int 3 0,.ref 275,.bool true,.int 181 0,.ref 276,.none,.ref 277,.ref 278,.ref 279,.int 554 0,.int 110 0,.str "/claim/cut.py" 555]})::
 (nat_lit 281,⟨(.type "function"),none,.func (W.fnOf "found" "Ahead.found" (defArgs (inClass (top 14) 2)) (defBody (inClass (top 14) 2)) (defScope (inClass (top 14) 2)) .none .none .none (.str "logloom.questions" 333) none (.ref 280) .none),#[]⟩)::
 (nat_lit 282,{cls:=.type "tuple",data:=.seq #[.str "away" 557,.str "here" 558,.str "reach" 559]})::
 (nat_lit 283,{cls:=.type "dict",data:=.dict #[⟨PyData.keyHash P "__module__",.str "__module__" 523,.str "logloom.questions" 333⟩,⟨PyData.keyHash P "__firstlineno__",.str "__firstlineno__" 527,.int 100 526⟩,⟨PyData.keyHash P "__init__",.str "__init__" 539,.ref 267⟩,⟨PyData.keyHash P "back",.str "back" 546,.ref 274⟩,⟨PyData.keyHash P "found",.str "found" 556,.ref 281⟩,⟨PyData.keyHash P "__static_attributes__",.str "__static_attributes__" 560,.ref 282⟩,⟨PyData.keyHash P "__doc__",.str "__doc__" 561,.none⟩] 2})::
 (nat_lit 284,{cls:=.type "type",data:=Data.cls { name:=Str.ofString "Ahead",bases:=[.ref 164],mro:=[.ref 284,.ref 164,.type "object"],ns:=283,qualname:=Str.ofString "Ahead"},slots:=#[some (.ref 254),none,some (.str "Ahead" 516),some (.str "Ahead" 524),some (.builtin "object.__new__"),some (.bool true)]})::
 (nat_lit 287,{cls:=.type "tuple",data:=.seq #[.ref 164]})::
 (nat_lit 294,tu0)::
 (nat_lit 296,{cls:=.type "tuple",data:=.seq #[.str "self" 579,.str "reach" 580,.str "least" 581,.str "question" 582]})::
 (nat_lit 297,tu0)::
 (nat_lit 299,{cls:=.type "code",data:=.fields #[.str "__init__" 576,.str "Times.__init__" 577,.str "/claim/cut.py" 578,.int 117 0,.int 4 0,.int 0 0,.int 0 0,.int 3 0,.ref 294,.bool true,.int 181 0,.ref 295,.none,.ref 296,.ref 297,.ref 298,.int 583 0,.int 117 0,.str "/claim/cut.py" 584]})::
 (nat_lit 300,⟨(.type "function"),none,.func (W.fnOf "__init__" "Times.__init__" (defArgs (inClass (top 15) 0)) (defBody (inClass (top 15) 0)) (defScope (inClass (top 15) 0)) .none .none .none (.str "logloom.questions" 333) none (.ref 299) .none),#[]⟩)::
 (nat_lit 301,tu0)::
 (nat_lit 303,{cls:=.type "tuple",data:=.seq #[.str "self" 589]})::
 (nat_lit 304,tu0)::
 (nat_lit 306,{cls:=.type "code",data:=.fields #[.str "back" 586,.str "Times.back" 587,.str "/claim/cut.py" 588,.int 122 0,.int 1 0,.int 0 0,.int 0 0,.int 3 0,.ref 301,.bool true,.int 181 0,.ref 302,.none,.ref 303,.ref 304,.ref 305,.int 590 0,.int 122 0,.str "/claim/cut.py" 591]})::
 (nat_lit 307,⟨(.type "function"),none,.func (W.fnOf "back" "Times.back" (defArgs (inClass (top 15) 1)) (defBody (inClass (top 15) 1)) (defScope (inClass (top 15) 1)) .none .none .none (.str "logloom.questions" 333) none (.ref 306) .none),#[]⟩)::
 (nat_lit 308,tu0)::
 (nat_lit 310,{cls:=.type "tuple",data:=.seq #[.str "self" 596]})::
 (nat_lit 311,tu0)::
 (nat_lit 313,{cls:=.type "code",data:=.fields #[.str "on" 593,.str "Times.on" 594,.str "/claim/cut.py" 595,.int 125 0,.int 1 0,.int 0 0,.int 0 0,.int 3 0,.ref 308,.bool true,.int 181 0,.ref 309,.none,.ref 310,.ref 311,.ref 312,.int 597 0,.int 125 0,.str "/claim/cut.py" 598]})::
 (nat_lit 314,⟨(.type "function"),none,.func (W.fnOf "on" "Times.on" (defArgs (inClass (top 15) 2)) (defBody (inClass (top 15) 2)) (defScope (inClass (top 15) 2)) .none .none .none (.str "logloom.questions" 333) none (.ref 313) .none),#[]⟩)::
 (nat_lit 315,tu0)::
 (nat_lit 318,{cls:=.type "code",data:=.fields #[.str "found" 600,.str "Times.found" 601,.str "/claim/cut.py" 602,.int 128 0,.int 3 0,.int 0 0,.int 0 0,.int 3 0,.ref 315,.bool true,.int 181 0,.ref 316,.none,.none,.none,.ref 317,.int 603 0,.int 128 0,.str "/claim/cut.py" 604]})::
 (nat_lit 319,⟨(.type "function"),none,.func (W.fnOf "found" "Times.found" (defArgs (inClass (top 15) 3)) (defBody (inClass (top 15) 3)) (defScope (inClass (top 15) 3)) .none .none .none (.str "logloom.questions" 333) none (.ref 318) .none),#[]⟩)::
 (nat_lit 320,{cls:=.type "tuple",data:=.seq #[.str "inner" 606,.str "least" 607,.str "reach" 608]})::
 (nat_lit 321,{cls:=.type "dict",data:=.dict #[⟨PyData.keyHash P "__module__",.str "__module__" 571,.str "logloom.questions" 333⟩,⟨PyData.keyHash P "__firstlineno__",.str "__firstlineno__" 575,.int 115 574⟩,⟨PyData.keyHash P "__init__",.str "__init__" 585,.ref 300⟩,⟨PyData.keyHash P "back",.str "back" 592,.ref 307⟩,⟨PyData.keyHash P "on",.str "on" 599,.ref 314⟩,⟨PyData.keyHash P "found",.str "found" 605,.ref 319⟩,⟨PyData.keyHash P "__static_attributes__",.str "__static_attributes__" 609,.ref 320⟩,⟨PyData.keyHash P "__doc__",.str "__doc__" 610,.none⟩] 2})::
 (nat_lit 322,{cls:=.type "type",data:=Data.cls { name:=Str.ofString "Times",bases:=[.ref 164],mro:=[.ref 322,.ref 164,.type "object"],ns:=321,qualname:=Str.ofString "Times"},slots:=#[some (.ref 287),none,some (.str "Times" 564),some (.str "Times" 572),some (.builtin "object.__new__"),some (.bool true)]})::
 (nat_lit 325,{cls:=.type "tuple",data:=.seq #[.ref 164]})::
 (nat_lit 332,tu0)::
 (nat_lit 334,{cls:=.type "tuple",data:=.seq #[.str "self" 628,.str "one" 629,.str "other" 630]})::
 (nat_lit 335,tu0)::
 (nat_lit 337,{cls:=.type "code",data:=.fields #[.str "__init__" 625,.str "Joint.__init__" 626,.str "/claim/cut.py" 627,.int 134 0,.int 3 0,.int 0 0,.int 0 0,.int 3 0,.ref 332,.bool true,.int 181 0,.ref 333,.none,.ref 334,.ref 335,.ref 336,.int 631 0,.int 134 0,.str "/claim/cut.py" 632]})::
 (nat_lit 338,⟨(.type "function"),none,.func (W.fnOf "__init__" "Joint.__init__" (defArgs (inClass (top 16) 0)) (defBody (inClass (top 16) 0)) (defScope (inClass (top 16) 0)) .none .none .none (.str "logloom.questions" 333) none (.ref 337) .none),#[]⟩)::
 (nat_lit 339,tu0)::
 (nat_lit 341,{cls:=.type "tuple",data:=.seq #[.str "self" 637]})::
 (nat_lit 342,tu0)::
 (nat_lit 344,{cls:=.type "code",data:=.fields #[.str "back" 634,.str "Joint.back" 635,.str "/claim/cut.py" 636,.int 138 0,.int 1 0,.int 0 0,.int 0 0,.int 3 0,.ref 339,.bool true,.int 181 0,.ref 340,.none,.ref 341,.ref 342,.ref 343,.int 638 0,.int 138 0,.str "/claim/cut.py" 639]})::
 (nat_lit 345,⟨(.type "function"),none,.func (W.fnOf "back" "Joint.back" (defArgs (inClass (top 16) 1)) (defBody (inClass (top 16) 1)) (defScope (inClass (top 16) 1)) .none .none .none (.str "logloom.questions" 333) none (.ref 344) .none),#[]⟩)::
 (nat_lit 346,tu0)::
 (nat_lit 348,{cls:=.type "tuple",data:=.seq #[.str "self" 644]})::
 (nat_lit 349,tu0)::
 (nat_lit 351,{cls:=.type "code",data:=.fields #[.str "on" 641,.str "Joint.on" 642,.str "/claim/cut.py" 643,.int 141 0,.int 1 0,.int 0 0,.int 0 0,.int 3 0,.ref 346,.bool true,.int 181 0,.ref 347,.none,.ref 348,.ref 349,.ref 350,.int 645 0,.int 141 0,.str "/claim/cut.py" 646]})::
 (nat_lit 352,⟨(.type "function"),none,.func (W.fnOf "on" "Joint.on" (defArgs (inClass (top 16) 2)) (defBody (inClass (top 16) 2)) (defScope (inClass (top 16) 2)) .none .none .none (.str "logloom.questions" 333) none (.ref 351) .none),#[]⟩)::
 (nat_lit 353,{cls:=.type "tuple",data:=.seq #[.str "one" 648,.str "other" 649]})::
 (nat_lit 354,{cls:=.type "dict",data:=.dict #[⟨PyData.keyHash P "__module__",.str "__module__" 620,.str "logloom.questions" 333⟩,⟨PyData.keyHash P "__firstlineno__",.str "__firstlineno__" 624,.int 132 623⟩,⟨PyData.keyHash P "__init__",.str "__init__" 633,.ref 338⟩,⟨PyData.keyHash P "back",.str "back" 640,.ref 345⟩,⟨PyData.keyHash P "on",.str "on" 647,.ref 352⟩,⟨PyData.keyHash P "__static_attributes__",.str "__static_attributes__" 650,.ref 353⟩,⟨PyData.keyHash P "__doc__",.str "__doc__" 651,.none⟩] 2})::
 (nat_lit 355,{cls:=.type "type",data:=Data.cls { name:=Str.ofString "Joint",bases:=[.ref 164],mro:=[.ref 355,.ref 164,.type "object"],ns:=354,qualname:=Str.ofString "Joint",subclasses:=[.ref 374,.ref 393]},slots:=#[some (.ref 325),none,some (.str "Joint" 613),some (.str "Joint" 621),some (.builtin "object.__new__"),some (.bool true)]})::
 (nat_lit 358,{cls:=.type "tuple",data:=.seq #[.ref 355]})::
 (nat_lit 365,tu0)::
 (nat_lit 367,{cls:=.type "tuple",data:=.seq #[.str "self" 669,.str "log" 670,.str "n" 671,.str "rows" 672,.str "others" 673]})::
 (nat_lit 368,tu0)::
 (nat_lit 370,{cls:=.type "code",data:=.fields #[.str "found" 666,.str "Both.found" 667,.str "/claim/cut.py" 668,.int 145 0,.int 3 0,.int 0 0,.int 0 0,.int 3 0,.ref 365,.bool true,.int 181 0,.ref 366,.none,.ref 367,.ref 368,.ref 369,.int 674 0,.int 145 0,.str "/claim/cut.py" 675]})::
 (nat_lit 371,⟨(.type "function"),none,.func (W.fnOf "found" "Both.found" (defArgs (inClass (top 17) 0)) (defBody (inClass (top 17) 0)) (defScope (inClass (top 17) 0)) .none .none .none (.str "logloom.questions" 333) none (.ref 370) .none),#[]⟩)::
 (nat_lit 372,tu0)::
 (nat_lit 373,{cls:=.type "dict",data:=.dict #[⟨PyData.keyHash P "__module__",.str "__module__" 661,.str "logloom.questions" 333⟩,⟨PyData.keyHash P "__firstlineno__",.str "__firstlineno__" 665,.int 143 664⟩,⟨PyData.keyHash P "found",.str "found" 676,.ref 371⟩,⟨PyData.keyHash P "__static_attributes__",.str "__static_attributes__" 677,.ref 372⟩,⟨PyData.keyHash P "__doc__",.str "__doc__" 678,.none⟩] 2})::
 (nat_lit 374,{cls:=.type "type",data:=Data.cls { name:=Str.ofString "Both",bases:=[.ref 355],mro:=[.ref 374,.ref 355,.ref 164,.type "object"],ns:=373,qualname:=Str.ofString "Both"},slots:=#[some (.ref 358),none,some (.str "Both" 654),some (.str "Both" 662),some (.builtin "object.__new__"),some (.bool true)]})::
 (nat_lit 377,{cls:=.type "tuple",data:=.seq #[.ref 355]})::
 (nat_lit 384,tu0)::
 (nat_lit 386,{cls:=.type "tuple",data:=.seq #[.str "self" 696,.str "log" 697,.str "n" 698,.str "rows" 699]})::
 (nat_lit 387,tu0)::
 (nat_lit 389,{cls:=.type "code",data:=.fields #[.str "found" 693,.str "Either.found" 694,.str "/claim/cut.py" 695,.int 153 0,.int 3 0,.int 0 0,.int 0 0,.int 3 0,.ref 384,.bool true,.int 181 0,.ref 385,.none,.ref 386,.ref 387,.ref 388,.int 700 0,.int 153 0,.str "/claim/cut.py" 701]})::
 (nat_lit 390,⟨(.type "function"),none,.func (W.fnOf "found" "Either.found" (defArgs (inClass (top 18) 0)) (defBody (inClass (top 18) 0)) (defScope (inClass (top 18) 0)) .none .none .none (.str "logloom.questions" 333) none (.ref 389) .none),#[]⟩)::
 (nat_lit 391,tu0)::
 (nat_lit 392,{cls:=.type "dict",data:=.dict #[⟨PyData.keyHash P "__module__",.str "__module__" 688,.str "logloom.questions" 333⟩,⟨PyData.keyHash P "__firstlineno__",.str "__firstlineno__" 692,.int 151 691⟩,⟨PyData.keyHash P "found",.str "found" 702,.ref 390⟩,⟨PyData.keyHash P "__static_attributes__",.str "__static_attributes__" 703,.ref 391⟩,⟨PyData.keyHash P "__doc__",.str "__doc__" 704,.none⟩] 2})::
 (nat_lit 393,{cls:=.type "type",data:=Data.cls { name:=Str.ofString "Either",bases:=[.ref 355],mro:=[.ref 393,.ref 355,.ref 164,.type "object"],ns:=392,qualname:=Str.ofString "Either"},slots:=#[some (.ref 377),none,some (.str "Either" 681),some (.str "Either" 689),some (.builtin "object.__new__"),some (.bool true)]})::
 (nat_lit 396,{cls:=.type "tuple",data:=.seq #[.ref 164]})::
 (nat_lit 403,tu0)::
 (nat_lit 405,{cls:=.type "tuple",data:=.seq #[.str "self" 722,.str "one" 723]})::
 (nat_lit 406,tu0)::
 (nat_lit 408,{cls:=.type "code",data:=.fields #[.str "__init__" 719,.str "Not.__init__" 720,.str "/claim/cut.py" 721,.int 158 0,.int 2 0,.int 0 0,.int 0 0,.int 3 0,.ref 403,.bool true,.int 181 0,.ref 404,.none,.ref 405,.ref 406,.ref 407,.int 724 0,.int 158 0,.str "/claim/cut.py" 725]})::
 (nat_lit 409,⟨(.type "function"),none,.func (W.fnOf "__init__" "Not.__init__" (defArgs (inClass (top 19) 0)) (defBody (inClass (top 19) 0)) (defScope (inClass (top 19) 0)) .none .none .none (.str "logloom.questions" 333) none (.ref 408) .none),#[]⟩)::
 (nat_lit 410,tu0)::
 (nat_lit 412,{cls:=.type "tuple",data:=.seq #[.str "self" 730]})::
 (nat_lit 413,tu0)::
 (nat_lit 415,{cls:=.type "code",data:=.fields #[.str "back" 727,.str "Not.back" 728,.str "/claim/cut.py" 729,.int 161 0,.int 1 0,.int 0 0,.int 0 0,.int 3 0,.ref 410,.bool true,.int 181 0,.ref 411,.none,.ref 412,.ref 413,.ref 414,.int 731 0,.int 161 0,.str "/claim/cut.py" 732]})::
 (nat_lit 416,⟨(.type "function"),none,.func (W.fnOf "back" "Not.back" (defArgs (inClass (top 19) 1)) (defBody (inClass (top 19) 1)) (defScope (inClass (top 19) 1)) .none .none .none (.str "logloom.questions" 333) none (.ref 415) .none),#[]⟩)::
 (nat_lit 417,tu0)::
 (nat_lit 419,{cls:=.type "tuple",data:=.seq #[.str "self" 737]})::
 (nat_lit 420,tu0)::
 (nat_lit 422,{cls:=.type "code",data:=.fields #[.str "on" 734,.str "Not.on" 735,.str "/claim/cut.py" 736,.int 164 0,.int 1 0,.int 0 0,.int 0 0,.int 3 0,.ref 417,.bool true,.int 181 0,.ref 418,.none,.ref 419,.ref 420,.ref 421,.int 738 0,.int 164 0,.str "/claim/cut.py" 739]})::
 (nat_lit 423,⟨(.type "function"),none,.func (W.fnOf "on" "Not.on" (defArgs (inClass (top 19) 2)) (defBody (inClass (top 19) 2)) (defScope (inClass (top 19) 2)) .none .none .none (.str "logloom.questions" 333) none (.ref 422) .none),#[]⟩)::
 (nat_lit 424,tu0)::
 (nat_lit 426,{cls:=.type "tuple",data:=.seq #[.str "self" 744,.str "log" 745,.str "n" 746]})::
 (nat_lit 427,tu0)::
 (nat_lit 429,{cls:=.type "code",data:=.fields #[.str "found" 741,.str "Not.found" 742,.str "/claim/cut.py" 743,.int 167 0,.int 3 0,.int 0 0,.int 0 0,.int 3 0,.ref 424,.bool true,.int 181 0,.ref 425,.none,.ref 426,.ref 427,.ref 428,.int 747 0,.int 167 0,.str "/claim/cut.py" 748]})::
 (nat_lit 430,⟨(.type "function"),none,.func (W.fnOf "found" "Not.found" (defArgs (inClass (top 19) 3)) (defBody (inClass (top 19) 3)) (defScope (inClass (top 19) 3)) .none .none .none (.str "logloom.questions" 333) none (.ref 429) .none),#[]⟩)::
 (nat_lit 431,{cls:=.type "tuple",data:=.seq #[.str "one" 750]})::
 (nat_lit 432,{cls:=.type "dict",data:=.dict #[⟨PyData.keyHash P "__module__",.str "__module__" 714,.str "logloom.questions" 333⟩,⟨PyData.keyHash P "__firstlineno__",.str "__firstlineno__" 718,.int 156 717⟩,⟨PyData.keyHash P "__init__",.str "__init__" 726,.ref 409⟩,⟨PyData.keyHash P "back",.str "back" 733,.ref 416⟩,⟨PyData.keyHash P "on",.str "on" 740,.ref 423⟩,⟨PyData.keyHash P "found",.str "found" 749,.ref 430⟩,⟨PyData.keyHash P "__static_attributes__",.str "__static_attributes__" 751,.ref 431⟩,⟨PyData.keyHash P "__doc__",.str "__doc__" 752,.none⟩] 2})::
 (nat_lit 433,{cls:=.type "type",data:=Data.cls { name:=Str.ofString "Not",bases:=[.ref 164],mro:=[.ref 433,.ref 164,.type "object"],ns:=432,qualname:=Str.ofString "Not"},slots:=#[some (.ref 396),none,some (.str "Not" 707),some (.str "Not" 715),some (.builtin "object.__new__"),some (.bool true)]})::
 (nat_lit 436,tu0)::
 (nat_lit 439,{cls:=.type "code",data:=.fields #[.str "made_of" 771,.str "made_of" 772,.str "/claim/cut.py" 773,.int 177 0,.int 2 0,.int 0 0,.int 0 0,.int 3 0,.ref 436,.bool true,.int 181 0,.ref 437,.none,.none,.none,.ref 438,.int 774 0,.int 177 0,.str "/claim/cut.py" 775]})::
 (nat_lit 440,⟨(.type "function"),none,.func (W.fnOf "made_of" "made_of" (defArgs (top 28)) (defBody (top 28)) (defScope (top 28)) .none .none .none (.str "logloom.sorts" 755) none (.ref 439) .none),#[]⟩)::
 (nat_lit 448,tu0)::
 (nat_lit 450,{cls:=.type "tuple",data:=.seq #[.str "self" 792]})::
 (nat_lit 451,tu0)::
 (nat_lit 453,{cls:=.type "code",data:=.fields #[.str "word" 789,.str "Sort.word" 790,.str "/claim/cut.py" 791,.int 181 0,.int 1 0,.int 0 0,.int 0 0,.int 3 0,.ref 448,.bool true,.int 181 0,.ref 449,.none,.ref 450,.ref 451,.ref 452,.int 793 0,.int 181 0,.str "/claim/cut.py" 794]})::
 (nat_lit 454,⟨(.type "function"),none,.func (W.fnOf "word" "Sort.word" (defArgs (inClass (top 29) 0)) (defBody (inClass (top 29) 0)) (defScope (inClass (top 29) 0)) .none .none .none (.str "logloom.sorts" 755) none (.ref 453) .none),#[]⟩)::
 (nat_lit 455,tu0)::
 (nat_lit 457,{cls:=.type "tuple",data:=.seq #[.str "self" 799,.str "text" 800]})::
 (nat_lit 458,tu0)::
 (nat_lit 460,{cls:=.type "code",data:=.fields #[.str "takes" 796,.str "Sort.takes" 797,.str "/claim/cut.py" 798,.int 184 0,.int 2 0,.int 0 0,.int 0 0,.int 3 0,.ref 455,.bool true,.int 181 0,.ref 456,.none,.ref 457,.ref 458,.ref 459,.int 801 0,.int 184 0,.str "/claim/cut.py" 802]})::
 (nat_lit 461,⟨(.type "function"),none,.func (W.fnOf "takes" "Sort.takes" (defArgs (inClass (top 29) 1)) (defBody (inClass (top 29) 1)) (defScope (inClass (top 29) 1)) .none .none .none (.str "logloom.sorts" 755) none (.ref 460) .none),#[]⟩)::
 (nat_lit 462,tu0)::
 (nat_lit 463,{cls:=.type "dict",data:=.dict #[⟨PyData.keyHash P "__module__",.str "__module__" 784,.str "logloom.sorts" 755⟩,⟨PyData.keyHash P "__firstlineno__",.str "__firstlineno__" 788,.int 179 787⟩,⟨PyData.keyHash P "word",.str "word" 795,.ref 454⟩,⟨PyData.keyHash P "takes",.str "takes" 803,.ref 461⟩,⟨PyData.keyHash P "__static_attributes__",.str "__static_attributes__" 804,.ref 462⟩,⟨PyData.keyHash P "__dict__",.str "__dict__" 806,.ref 465⟩,⟨PyData.keyHash P "__weakref__",.str "__weakref__" 808,.ref 466⟩,⟨PyData.keyHash P "__doc__",.str "__doc__" 809,.none⟩] 4})::
 (nat_lit 464,{cls:=.type "type",data:=Data.cls { name:=Str.ofString "Sort",bases:=[.type "object"],mro:=[.ref 464,.type "object"],ns:=463,qualname:=Str.ofString "Sort",subclasses:=[.ref 492,.ref 518,.ref 542,.ref 568]},slots:=#[none,none,some (.str "Sort" 777),some (.str "Sort" 785),some (.builtin "object.__new__"),some (.bool true)]})::
 (nat_lit 465,{cls:=.type "getset_descriptor",data:=.fields #[.str "__dict__" 805,.ref 464,.builtin "function.__dict__",.builtin "function.__dict__#set"]})::
 (nat_lit 466,{cls:=.type "getset_descriptor",data:=.fields #[.str "__weakref__" 807,.ref 464,.builtin "ExceptionGroup.__weakref__",.none]})::
 (nat_lit 469,{cls:=.type "tuple",data:=.seq #[.ref 464]})::
 (nat_lit 476,tu0)::
 (nat_lit 478,{cls:=.type "tuple",data:=.seq #[.str "self" 827]})::
 (nat_lit 479,tu0)::
 (nat_lit 481,{cls:=.type "code",data:=.fields #[.str "word" 824,.str "Number.word" 825,.str "/claim/cut.py" 826,.int 188 0,.int 1 0,.int 0 0,.int 0 0,.int 3 0,.ref 476,.bool true,.int 181 0,.ref 477,.none,.ref 478,.ref 479,.ref 480,.int 828 0,.int 188 0,.str "/claim/cut.py" 829]})::
 (nat_lit 482,⟨(.type "function"),none,.func (W.fnOf "word" "Number.word" (defArgs (inClass (top 30) 0)) (defBody (inClass (top 30) 0)) (defScope (inClass (top 30) 0)) .none .none .none (.str "logloom.sorts" 755) none (.ref 481) .none),#[]⟩)::
 (nat_lit 483,tu0)::
 (nat_lit 485,{cls:=.type "tuple",data:=.seq #[.str "self" 834,.str "text" 835]})::
 (nat_lit 486,tu0)::
 (nat_lit 488,{cls:=.type "code",data:=.fields #[.str "takes" 831,.str "Number.takes" 832,.str "/claim/cut.py" 833,.int 191 0,.int 2 0,.int 0 0,.int 0 0,.int 3 0,.ref 483,.bool true,.int 181 0,.ref 484,.none,.ref 485,.ref 486,.ref 487,.int 836 0,.int 191 0,.str "/claim/cut.py" 837]})::
 (nat_lit 489,⟨(.type "function"),none,.func (W.fnOf "takes" "Number.takes" (defArgs (inClass (top 30) 1)) (defBody (inClass (top 30) 1)) (defScope (inClass (top 30) 1)) .none .none .none (.str "logloom.sorts" 755) none (.ref 488) .none),#[]⟩)::
 (nat_lit 490,tu0)::
 (nat_lit 491,{cls:=.type "dict",data:=.dict #[⟨PyData.keyHash P "__module__",.str "__module__" 819,.str "logloom.sorts" 755⟩,⟨PyData.keyHash P "__firstlineno__",.str "__firstlineno__" 823,.int 186 822⟩,⟨PyData.keyHash P "word",.str "word" 830,.ref 482⟩,⟨PyData.keyHash P "takes",.str "takes" 838,.ref 489⟩,⟨PyData.keyHash P "__static_attributes__",.str "__static_attributes__" 839,.ref 490⟩,⟨PyData.keyHash P "__doc__",.str "__doc__" 840,.none⟩] 2})::
 (nat_lit 492,{cls:=.type "type",data:=Data.cls { name:=Str.ofString "Number",bases:=[.ref 464],mro:=[.ref 492,.ref 464,.type "object"],ns:=491,qualname:=Str.ofString "Number"},slots:=#[some (.ref 469),none,some (.str "Number" 812),some (.str "Number" 820),some (.builtin "object.__new__"),some (.bool true)]})::
 (nat_lit 495,{cls:=.type "tuple",data:=.seq #[.ref 464]})::
 (nat_lit 502,tu0)::
 (nat_lit 504,{cls:=.type "tuple",data:=.seq #[.str "self" 858]})::
 (nat_lit 505,tu0)::
 (nat_lit 507,{cls:=.type "code",data:=.fields #[.str "word" 855,.str "Name.word" 856,.str "/claim/cut.py" 857,.int 197 0,.int 1 0,.int 0 0,.int 0 0,.int 3 0,.ref 502,.bool true,.int 181 0,.ref 503,.none,.ref 504,.ref 505,.ref 506,.int 859 0,.int 197 0,.str "/claim/cut.py" 860]})::
 (nat_lit 508,⟨(.type "function"),none,.func (W.fnOf "word" "Name.word" (defArgs (inClass (top 31) 0)) (defBody (inClass (top 31) 0)) (defScope (inClass (top 31) 0)) .none .none .none (.str "logloom.sorts" 755) none (.ref 507) .none),#[]⟩)::
 (nat_lit 509,tu0)::
 (nat_lit 511,{cls:=.type "tuple",data:=.seq #[.str "self" 865,.str "text" 866]})::
 (nat_lit 512,tu0)::
 (nat_lit 514,{cls:=.type "code",data:=.fields #[.str "takes" 862,.str "Name.takes" 863,.str "/claim/cut.py" 864,.int 200 0,.int 2 0,.int 0 0,.int 0 0,.int 3 0,.ref 509,.bool true,.int 181 0,.ref 510,.none,.ref 511,.ref 512,.ref 513,.int 867 0,.int 200 0,.str "/claim/cut.py" 868]})::
 (nat_lit 515,⟨(.type "function"),none,.func (W.fnOf "takes" "Name.takes" (defArgs (inClass (top 31) 1)) (defBody (inClass (top 31) 1)) (defScope (inClass (top 31) 1)) .none .none .none (.str "logloom.sorts" 755) none (.ref 514) .none),#[]⟩)::
 (nat_lit 516,tu0)::
 (nat_lit 517,{cls:=.type "dict",data:=.dict #[⟨PyData.keyHash P "__module__",.str "__module__" 850,.str "logloom.sorts" 755⟩,⟨PyData.keyHash P "__firstlineno__",.str "__firstlineno__" 854,.int 195 853⟩,⟨PyData.keyHash P "word",.str "word" 861,.ref 508⟩,⟨PyData.keyHash P "takes",.str "takes" 869,.ref 515⟩,⟨PyData.keyHash P "__static_attributes__",.str "__static_attributes__" 870,.ref 516⟩,⟨PyData.keyHash P "__doc__",.str "__doc__" 871,.none⟩] 2})::
 (nat_lit 518,{cls:=.type "type",data:=Data.cls { name:=Str.ofString "Name",bases:=[.ref 464],mro:=[.ref 518,.ref 464,.type "object"],ns:=517,qualname:=Str.ofString "Name"},slots:=#[some (.ref 495),none,some (.str "Name" 843),some (.str "Name" 851),some (.builtin "object.__new__"),some (.bool true)]})::
 (nat_lit 521,{cls:=.type "tuple",data:=.seq #[.ref 464]})::
 (nat_lit 528,tu0)::
 (nat_lit 530,{cls:=.type "tuple",data:=.seq #[.str "self" 889]})::
 (nat_lit 531,tu0)::
 (nat_lit 533,{cls:=.type "code",data:=.fields #[.str "word" 886,.str "Items.word" 887,.str "/claim/cut.py" 888,.int 206 0,.int 1 0,.int 0 0,.int 0 0,.int 3 0,.ref 528,.bool true,.int 181 0,.ref 529,.none,.ref 530,.ref 531,.ref 532,.int 890 0,.int 206 0,.str "/claim/cut.py" 891]})::
 (nat_lit 534,⟨(.type "function"),none,.func (W.fnOf "word" "Items.word" (defArgs (inClass (top 32) 0)) (defBody (inClass (top 32) 0)) (defScope (inClass (top 32) 0)) .none .none .none (.str "logloom.sorts" 755) none (.ref 533) .none),#[]⟩)::
 (nat_lit 535,tu0)::
 (nat_lit 538,{cls:=.type "code",data:=.fields #[.str "takes" 893,.str "Items.takes" 894,.str "/claim/cut.py" 895,.int 209 0,.int 2 0,.int 0 0,.int 0 0,.int 3 0,.ref 535,.bool true,.int 181 0,.ref 536,.none,.none,.none,.ref 537,.int 896 0,.int 209 0,.str "/claim/cut.py" 897]})::
 (nat_lit 539,⟨(.type "function"),none,.func (W.fnOf "takes" "Items.takes" (defArgs (inClass (top 32) 1)) (defBody (inClass (top 32) 1)) (defScope (inClass (top 32) 1)) .none .none .none (.str "logloom.sorts" 755) none (.ref 538) .none),#[]⟩)::
 (nat_lit 540,tu0)::
 (nat_lit 541,{cls:=.type "dict",data:=.dict #[⟨PyData.keyHash P "__module__",.str "__module__" 881,.str "logloom.sorts" 755⟩,⟨PyData.keyHash P "__firstlineno__",.str "__firstlineno__" 885,.int 204 884⟩,⟨PyData.keyHash P "word",.str "word" 892,.ref 534⟩,⟨PyData.keyHash P "takes",.str "takes" 898,.ref 539⟩,⟨PyData.keyHash P "__static_attributes__",.str "__static_attributes__" 899,.ref 540⟩,⟨PyData.keyHash P "__doc__",.str "__doc__" 900,.none⟩] 2})::
 (nat_lit 542,{cls:=.type "type",data:=Data.cls { name:=Str.ofString "Items",bases:=[.ref 464],mro:=[.ref 542,.ref 464,.type "object"],ns:=541,qualname:=Str.ofString "Items"},slots:=#[some (.ref 521),none,some (.str "Items" 874),some (.str "Items" 882),some (.builtin "object.__new__"),some (.bool true)]})::
 (nat_lit 545,{cls:=.type "tuple",data:=.seq #[.ref 464]})::
 (nat_lit 552,tu0)::
 (nat_lit 554,{cls:=.type "tuple",data:=.seq #[.str "self" 918]})::
 (nat_lit 555,tu0)::
 (nat_lit 557,{cls:=.type "code",data:=.fields #[.str "word" 915,.str "Mark.word" 916,.str "/claim/cut.py" 917,.int 218 0,.int 1 0,.int 0 0,.int 0 0,.int 3 0,.ref 552,.bool true,.int 181 0,.ref 553,.none,.ref 554,.ref 555,.ref 556,.int 919 0,.int 218 0,.str "/claim/cut.py" 920]})::
 (nat_lit 558,⟨(.type "function"),none,.func (W.fnOf "word" "Mark.word" (defArgs (inClass (top 33) 0)) (defBody (inClass (top 33) 0)) (defScope (inClass (top 33) 0)) .none .none .none (.str "logloom.sorts" 755) none (.ref 557) .none),#[]⟩)::
 (nat_lit 559,tu0)::
 (nat_lit 561,{cls:=.type "tuple",data:=.seq #[.str "self" 925,.str "text" 926]})::
 (nat_lit 562,tu0)::
 (nat_lit 564,{cls:=.type "code",data:=.fields #[.str "takes" 922,.str "Mark.takes" 923,.str "/claim/cut.py" 924,.int 221 0,.int 2 0,.int 0 0,.int 0 0,.int 3 0,.ref 559,.bool true,.int 181 0,.ref 560,.none,.ref 561,.ref 562,.ref 563,.int 927 0,.int 221 0,.str "/claim/cut.py" 928]})::
 (nat_lit 565,⟨(.type "function"),none,.func (W.fnOf "takes" "Mark.takes" (defArgs (inClass (top 33) 1)) (defBody (inClass (top 33) 1)) (defScope (inClass (top 33) 1)) .none .none .none (.str "logloom.sorts" 755) none (.ref 564) .none),#[]⟩)::
 (nat_lit 566,tu0)::
 (nat_lit 567,{cls:=.type "dict",data:=.dict #[⟨PyData.keyHash P "__module__",.str "__module__" 910,.str "logloom.sorts" 755⟩,⟨PyData.keyHash P "__firstlineno__",.str "__firstlineno__" 914,.int 216 913⟩,⟨PyData.keyHash P "word",.str "word" 921,.ref 558⟩,⟨PyData.keyHash P "takes",.str "takes" 929,.ref 565⟩,⟨PyData.keyHash P "__static_attributes__",.str "__static_attributes__" 930,.ref 566⟩,⟨PyData.keyHash P "__doc__",.str "__doc__" 931,.none⟩] 2})::
 (nat_lit 568,{cls:=.type "type",data:=Data.cls { name:=Str.ofString "Mark",bases:=[.ref 464],mro:=[.ref 568,.ref 464,.type "object"],ns:=567,qualname:=Str.ofString "Mark"},slots:=#[some (.ref 545),none,some (.str "Mark" 903),some (.str "Mark" 911),some (.builtin "object.__new__"),some (.bool true)]})::
 (nat_lit 571,tu0)::
 (nat_lit 573,{cls:=.type "tuple",data:=.seq #[.str "text" 937]})::
 (nat_lit 574,tu0)::
 (nat_lit 576,{cls:=.type "code",data:=.fields #[.str "is_item" 934,.str "is_item" 935,.str "/claim/cut.py" 936,.int 225 0,.int 1 0,.int 0 0,.int 0 0,.int 3 0,.ref 571,.bool true,.int 181 0,.ref 572,.none,.ref 573,.ref 574,.ref 575,.int 938 0,.int 225 0,.str "/claim/cut.py" 939]})::
 (nat_lit 577,⟨(.type "function"),none,.func (W.fnOf "is_item" "is_item" (defArgs (top 34)) (defBody (top 34)) (defScope (top 34)) .none .none .none (.str "logloom.sorts" 755) none (.ref 576) .none),#[]⟩)::
 (nat_lit 578,tu0)::
 (nat_lit 580,tu0)::
 (nat_lit 581,tu0)::
 (nat_lit 583,{cls:=.type "code",data:=.fields #[.str "all_sorts" 941,.str "all_sorts" 942,.str "/claim/cut.py" 943,.int 227 0,.int 0 0,.int 0 0,.int 0 0,.int 3 0,.ref 578,.bool true,.int 181 0,.ref 579,.none,.ref 580,.ref 581,.ref 582,.int 944 0,.int 227 0,.str "/claim/cut.py" 945]})::
 (nat_lit 584,⟨(.type "function"),none,.func (W.fnOf "all_sorts" "all_sorts" (defArgs (top 35)) (defBody (top 35)) (defScope (top 35)) .none .none .none (.str "logloom.sorts" 755) none (.ref 583) .none),#[]⟩)::
 (nat_lit 585,tu0)::
 (nat_lit 587,{cls:=.type "tuple",data:=.seq #[.str "text" 950,.str "sort" 951]})::
 (nat_lit 588,tu0)::
 (nat_lit 590,{cls:=.type "code",data:=.fields #[.str "sort_of" 947,.str "sort_of" 948,.str "/claim/cut.py" 949,.int 229 0,.int 1 0,.int 0 0,.int 0 0,.int 3 0,.ref 585,.bool true,.int 181 0,.ref 586,.none,.ref 587,.ref 588,.ref 589,.int 952 0,.int 229 0,.str "/claim/cut.py" 953]})::
 (nat_lit 591,⟨(.type "function"),none,.func (W.fnOf "sort_of" "sort_of" (defArgs (top 36)) (defBody (top 36)) (defScope (top 36)) .none .none .none (.str "logloom.sorts" 755) none (.ref 590) .none),#[]⟩)::
 (nat_lit 592,{cls:=.type "dict",data:=.dict #[⟨PyData.keyHash P "row",.str "row" 959,.ref 593⟩,⟨PyData.keyHash P "with",.str "with" 961,.ref 594⟩,⟨PyData.keyHash P "behind",.str "behind" 965,.ref 595⟩,⟨PyData.keyHash P "ahead",.str "ahead" 971,.ref 596⟩,⟨PyData.keyHash P "times",.str "times" 977,.ref 597⟩,⟨PyData.keyHash P "both",.str "both" 981,.ref 598⟩,⟨PyData.keyHash P "either",.str "either" 984,.ref 599⟩,⟨PyData.keyHash P "not",.str "not" 987,.ref 600⟩] 8})::
 (nat_lit 593,{cls:=.type "tuple",data:=.seq #[.str "letter" 960]})::
 (nat_lit 594,{cls:=.type "tuple",data:=.seq #[.str "letter" 962,.str "gap" 963,.str "word" 964]})::
 (nat_lit 595,{cls:=.type "tuple",data:=.seq #[.str "letter" 966,.str "gap" 967,.str "letter" 968,.str "gap" 969,.str "count" 970]})::
 (nat_lit 596,{cls:=.type "tuple",data:=.seq #[.str "letter" 972,.str "gap" 973,.str "letter" 974,.str "gap" 975,.str "count" 976]})::
 (nat_lit 597,{cls:=.type "tuple",data:=.seq #[.str "count" 978,.str "count" 979,.str "question" 980]})::
 (nat_lit 598,{cls:=.type "tuple",data:=.seq #[.str "question" 982,.str "question" 983]})::
 (nat_lit 599,{cls:=.type "tuple",data:=.seq #[.str "question" 985,.str "question" 986]})::
 (nat_lit 600,{cls:=.type "tuple",data:=.seq #[.str "question" 988]})::
 (nat_lit 601,{cls:=.type "dict",data:=.dict #[⟨PyData.keyHash P "letter",.str "letter" 998,.int 0 999⟩,⟨PyData.keyHash P "gap",.str "gap" 1000,.int 0 1001⟩,⟨PyData.keyHash P "count",.str "count" 1002,.int 1 1003⟩] 3})::
 (nat_lit 602,{cls:=.type "dict",data:=.dict #[⟨PyData.keyHash P "letter",.str "letter" 1008,.int 8 1009⟩,⟨PyData.keyHash P "gap",.str "gap" 1010,.int 7 1011⟩,⟨PyData.keyHash P "count",.str "count" 1012,.int 20 1013⟩] 3})::
 (nat_lit 603,tu0)::
 (nat_lit 605,{cls:=.type "tuple",data:=.seq #[.str "word" 1021,.str "parts" 1022]})::
 (nat_lit 606,tu0)::
 (nat_lit 608,{cls:=.type "code",data:=.fields #[.str "made" 1018,.str "made" 1019,.str "/claim/cut.py" 1020,.int 239 0,.int 2 0,.int 0 0,.int 0 0,.int 3 0,.ref 603,.bool true,.int 181 0,.ref 604,.none,.ref 605,.ref 606,.ref 607,.int 1023 0,.int 239 0,.str "/claim/cut.py" 1024]})::
 (nat_lit 609,⟨(.type "function"),none,.func (W.fnOf "made" "made" (defArgs (top 42)) (defBody (top 42)) (defScope (top 42)) .none .none .none (.str "logloom.asking" 955) none (.ref 608) .none),#[]⟩)::
 (nat_lit 610,tu0)::
 (nat_lit 612,{cls:=.type "tuple",data:=.seq #[.str "kind" 1029,.str "piece" 1030,.str "sort" 1031]})::
 (nat_lit 613,tu0)::
 (nat_lit 615,{cls:=.type "code",data:=.fields #[.str "value_of" 1026,.str "value_of" 1027,.str "/claim/cut.py" 1028,.int 255 0,.int 2 0,.int 0 0,.int 0 0,.int 3 0,.ref 610,.bool true,.int 181 0,.ref 611,.none,.ref 612,.ref 613,.ref 614,.int 1032 0,.int 255 0,.str "/claim/cut.py" 1033]})::
 (nat_lit 616,⟨(.type "function"),none,.func (W.fnOf "value_of" "value_of" (defArgs (top 43)) (defBody (top 43)) (defScope (top 43)) .none .none .none (.str "logloom.asking" 955) none (.ref 615) .none),#[]⟩)::
 (nat_lit 617,tu0)::
 (nat_lit 619,{cls:=.type "tuple",data:=.seq #[.str "pieces" 1038,.str "at" 1039]})::
 (nat_lit 620,tu0)::
 (nat_lit 622,{cls:=.type "code",data:=.fields #[.str "piece_at" 1035,.str "piece_at" 1036,.str "/claim/cut.py" 1037,.int 262 0,.int 2 0,.int 0 0,.int 0 0,.int 3 0,.ref 617,.bool true,.int 181 0,.ref 618,.none,.ref 619,.ref 620,.ref 621,.int 1040 0,.int 262 0,.str "/claim/cut.py" 1041]})::
 (nat_lit 623,⟨(.type "function"),none,.func (W.fnOf "piece_at" "piece_at" (defArgs (top 44)) (defBody (top 44)) (defScope (top 44)) .none .none .none (.str "logloom.asking" 955) none (.ref 622) .none),#[]⟩)::
 (nat_lit 624,tu0)::
 (nat_lit 626,{cls:=.type "tuple",data:=.seq #[.str "kind" 1046,.str "pieces" 1047,.str "at" 1048,.str "within" 1049,.str "value" 1050]})::
 (nat_lit 627,tu0)::
 (nat_lit 629,{cls:=.type "code",data:=.fields #[.str "part_at" 1043,.str "part_at" 1044,.str "/claim/cut.py" 1045,.int 266 0,.int 4 0,.int 0 0,.int 0 0,.int 3 0,.ref 624,.bool true,.int 181 0,.ref 625,.none,.ref 626,.ref 627,.ref 628,.int 1051 0,.int 266 0,.str "/claim/cut.py" 1052]})::
 (nat_lit 630,⟨(.type "function"),none,.func (W.fnOf "part_at" "part_at" (defArgs (top 45)) (defBody (top 45)) (defScope (top 45)) .none .none .none (.str "logloom.asking" 955) none (.ref 629) .none),#[]⟩)::
 (nat_lit 631,tu0)::
 (nat_lit 633,{cls:=.type "tuple",data:=.seq #[.str "pieces" 1057,.str "at" 1058,.str "within" 1059,.str "word" 1060,.str "parts" 1061,.str "behind" 1062,.str "kind" 1063,.str "told" 1064]})::
 (nat_lit 634,tu0)::
 (nat_lit 636,{cls:=.type "code",data:=.fields #[.str "question_at" 1054,.str "question_at" 1055,.str "/claim/cut.py" 1056,.int 273 0,.int 3 0,.int 0 0,.int 0 0,.int 3 0,.ref 631,.bool true,.int 181 0,.ref 632,.none,.ref 633,.ref 634,.ref 635,.int 1065 0,.int 273 0,.str "/claim/cut.py" 1066]})::
 (nat_lit 637,⟨(.type "function"),none,.func (W.fnOf "question_at" "question_at" (defArgs (top 46)) (defBody (top 46)) (defScope (top 46)) .none .none .none (.str "logloom.asking" 955) none (.ref 636) .none),#[]⟩)::
 (nat_lit 638,tu0)::
 (nat_lit 640,{cls:=.type "tuple",data:=.seq #[.str "text" 1071,.str "pieces" 1072,.str "told" 1073]})::
 (nat_lit 641,tu0)::
 (nat_lit 643,{cls:=.type "code",data:=.fields #[.str "question_of" 1068,.str "question_of" 1069,.str "/claim/cut.py" 1070,.int 284 0,.int 1 0,.int 0 0,.int 0 0,.int 3 0,.ref 638,.bool true,.int 181 0,.ref 639,.none,.ref 640,.ref 641,.ref 642,.int 1074 0,.int 284 0,.str "/claim/cut.py" 1075]})::
 (nat_lit 644,⟨(.type "function"),none,.func (W.fnOf "question_of" "question_of" (defArgs (top 47)) (defBody (top 47)) (defScope (top 47)) .none .none .none (.str "logloom.asking" 955) none (.ref 643) .none),#[]⟩)::
 (nat_lit 645,tu0)::
 (nat_lit 647,{cls:=.type "tuple",data:=.seq #[.str "_law_script" 1082,.str "_law_k" 1083]})::
 (nat_lit 648,tu0)::
 (nat_lit 650,{cls:=.type "code",data:=.fields #[.str "_law_cell_at" 1079,.str "_law_cell_at" 1080,.str "/claim/cut.py" 1081,.int 291 0,.int 2 0,.int 0 0,.int 0 0,.int 3 0,.ref 645,.bool true,.int 181 0,.ref 646,.none,.ref 647,.ref 648,.ref 649,.int 1084 0,.int 291 0,.str "/claim/cut.py" 1085]})::
 (nat_lit 651,⟨(.type "function"),none,.func (W.fnOf "_law_cell_at" "_law_cell_at" (defArgs (top 49)) (defBody (top 49)) (defScope (top 49)) .none .none .none (.str "law_logloom_k59_whole_watch" 1077) none (.ref 650) .none),#[]⟩)::
 (nat_lit 652,tu0)::
 (nat_lit 654,{cls:=.type "tuple",data:=.seq #[.str "_law_cell" 1090,.str "_law_k" 1091]})::
 (nat_lit 655,tu0)::
 (nat_lit 657,{cls:=.type "code",data:=.fields #[.str "_law_mix" 1087,.str "_law_mix" 1088,.str "/claim/cut.py" 1089,.int 295 0,.int 2 0,.int 0 0,.int 0 0,.int 3 0,.ref 652,.bool true,.int 181 0,.ref 653,.none,.ref 654,.ref 655,.ref 656,.int 1092 0,.int 295 0,.str "/claim/cut.py" 1093]})::
 (nat_lit 658,⟨(.type "function"),none,.func (W.fnOf "_law_mix" "_law_mix" (defArgs (top 50)) (defBody (top 50)) (defScope (top 50)) .none .none .none (.str "law_logloom_k59_whole_watch" 1077) none (.ref 657) .none),#[]⟩)::
 (nat_lit 659,tu0)::
 (nat_lit 661,{cls:=.type "tuple",data:=.seq #[.str "_law_cell" 1098,.str "_law_other" 1099,.str "_law_small" 1100,.str "_law_size" 1101,.str "_law_name" 1102,.str "_law_k" 1103,.str "_law_at" 1104,.str "_law_turned" 1105,.str "_law_number" 1106,.str "_law_items" 1107]})::
 (nat_lit 662,tu0)::
 (nat_lit 664,{cls:=.type "code",data:=.fields #[.str "_law_pool" 1095,.str "_law_pool" 1096,.str "/claim/cut.py" 1097,.int 297 0,.int 2 0,.int 0 0,.int 0 0,.int 3 0,.ref 659,.bool true,.int 181 0,.ref 660,.none,.ref 661,.ref 662,.ref 663,.int 1108 0,.int 297 0,.str "/claim/cut.py" 1109]})::
 (nat_lit 665,⟨(.type "function"),none,.func (W.fnOf "_law_pool" "_law_pool" (defArgs (top 51)) (defBody (top 51)) (defScope (top 51)) .none .none .none (.str "law_logloom_k59_whole_watch" 1077) none (.ref 664) .none),#[]⟩)::
 (nat_lit 666,tu0)::
 (nat_lit 668,{cls:=.type "tuple",data:=.seq #[.str "_law_cell" 1114,.str "_law_first" 1115]})::
 (nat_lit 669,tu0)::
 (nat_lit 671,{cls:=.type "code",data:=.fields #[.str "_law_letters" 1111,.str "_law_letters" 1112,.str "/claim/cut.py" 1113,.int 310 0,.int 1 0,.int 0 0,.int 0 0,.int 3 0,.ref 666,.bool true,.int 181 0,.ref 667,.none,.ref 668,.ref 669,.ref 670,.int 1116 0,.int 310 0,.str "/claim/cut.py" 1117]})::
 (nat_lit 672,⟨(.type "function"),none,.func (W.fnOf "_law_letters" "_law_letters" (defArgs (top 52)) (defBody (top 52)) (defScope (top 52)) .none .none .none (.str "law_logloom_k59_whole_watch" 1077) none (.ref 671) .none),#[]⟩)::
 (nat_lit 673,tu0)::
 (nat_lit 676,{cls:=.type "code",data:=.fields #[.str "_law_entry" 1119,.str "_law_entry" 1120,.str "/claim/cut.py" 1121,.int 313 0,.int 3 0,.int 0 0,.int 0 0,.int 3 0,.ref 673,.bool true,.int 181 0,.ref 674,.none,.none,.none,.ref 675,.int 1122 0,.int 313 0,.str "/claim/cut.py" 1123]})::
 (nat_lit 677,⟨(.type "function"),none,.func (W.fnOf "_law_entry" "_law_entry" (defArgs (top 53)) (defBody (top 53)) (defScope (top 53)) .none .none .none (.str "law_logloom_k59_whole_watch" 1077) none (.ref 676) .none),#[]⟩)::
 (nat_lit 678,tu0)::
 (nat_lit 681,{cls:=.type "code",data:=.fields #[.str "_law_log" 1125,.str "_law_log" 1126,.str "/claim/cut.py" 1127,.int 318 0,.int 3 0,.int 0 0,.int 0 0,.int 3 0,.ref 678,.bool true,.int 181 0,.ref 679,.none,.none,.none,.ref 680,.int 1128 0,.int 318 0,.str "/claim/cut.py" 1129]})::
 (nat_lit 682,⟨(.type "function"),none,.func (W.fnOf "_law_log" "_law_log" (defArgs (top 54)) (defBody (top 54)) (defScope (top 54)) .none .none .none (.str "law_logloom_k59_whole_watch" 1077) none (.ref 681) .none),#[]⟩)::
 (nat_lit 683,tu0)::
 (nat_lit 686,{cls:=.type "code",data:=.fields #[.str "_law_same" 1131,.str "_law_same" 1132,.str "/claim/cut.py" 1133,.int 320 0,.int 2 0,.int 0 0,.int 0 0,.int 3 0,.ref 683,.bool true,.int 181 0,.ref 684,.none,.none,.none,.ref 685,.int 1134 0,.int 320 0,.str "/claim/cut.py" 1135]})::
 (nat_lit 687,⟨(.type "function"),none,.func (W.fnOf "_law_same" "_law_same" (defArgs (top 55)) (defBody (top 55)) (defScope (top 55)) .none .none .none (.str "law_logloom_k59_whole_watch" 1077) none (.ref 686) .none),#[]⟩)::
 (nat_lit 688,tu0)::
 (nat_lit 690,{cls:=.type "tuple",data:=.seq #[.str "_law_entry_here" 1140,.str "_law_letter" 1141,.str "_law_gap_here" 1142]})::
 (nat_lit 691,tu0)::
 (nat_lit 693,{cls:=.type "code",data:=.fields #[.str "_law_gap" 1137,.str "_law_gap" 1138,.str "/claim/cut.py" 1139,.int 326 0,.int 3 0,.int 0 0,.int 0 0,.int 3 0,.ref 688,.bool true,.int 181 0,.ref 689,.none,.ref 690,.ref 691,.ref 692,.int 1143 0,.int 326 0,.str "/claim/cut.py" 1144]})::
 (nat_lit 694,⟨(.type "function"),none,.func (W.fnOf "_law_gap" "_law_gap" (defArgs (top 56)) (defBody (top 56)) (defScope (top 56)) .none .none .none (.str "law_logloom_k59_whole_watch" 1077) none (.ref 693) .none),#[]⟩)::
 (nat_lit 695,tu0)::
 (nat_lit 697,{cls:=.type "tuple",data:=.seq #[.str "_law_cell" 1149,.str "_law_k" 1150]})::
 (nat_lit 698,tu0)::
 (nat_lit 700,{cls:=.type "code",data:=.fields #[.str "_law_count" 1146,.str "_law_count" 1147,.str "/claim/cut.py" 1148,.int 330 0,.int 2 0,.int 0 0,.int 0 0,.int 3 0,.ref 695,.bool true,.int 181 0,.ref 696,.none,.ref 697,.ref 698,.ref 699,.int 1151 0,.int 330 0,.str "/claim/cut.py" 1152]})::
 (nat_lit 701,⟨(.type "function"),none,.func (W.fnOf "_law_count" "_law_count" (defArgs (top 57)) (defBody (top 57)) (defScope (top 57)) .none .none .none (.str "law_logloom_k59_whole_watch" 1077) none (.ref 700) .none),#[]⟩)::
 (nat_lit 702,tu0)::
 (nat_lit 704,{cls:=.type "tuple",data:=.seq #[.str "_law_cell" 1157,.str "_law_letters_here" 1158,.str "_law_pool_here" 1159,.str "_law_kind" 1160,.str "_law_letter" 1161,.str "_law_gap_here" 1162,.str "_law_other" 1163]})::
 (nat_lit 705,tu0)::
 (nat_lit 707,{cls:=.type "code",data:=.fields #[.str "_law_short" 1154,.str "_law_short" 1155,.str "/claim/cut.py" 1156,.int 332 0,.int 3 0,.int 0 0,.int 0 0,.int 3 0,.ref 702,.bool true,.int 181 0,.ref 703,.none,.ref 704,.ref 705,.ref 706,.int 1164 0,.int 332 0,.str "/claim/cut.py" 1165]})::
 (nat_lit 708,⟨(.type "function"),none,.func (W.fnOf "_law_short" "_law_short" (defArgs (top 58)) (defBody (top 58)) (defScope (top 58)) .none .none .none (.str "law_logloom_k59_whole_watch" 1077) none (.ref 707) .none),#[]⟩)::
 (nat_lit 709,tu0)::
 (nat_lit 711,{cls:=.type "tuple",data:=.seq #[.str "_law_asked" 1170,.str "_law_within" 1171]})::
 (nat_lit 712,tu0)::
 (nat_lit 714,{cls:=.type "code",data:=.fields #[.str "_law_nearer" 1167,.str "_law_nearer" 1168,.str "/claim/cut.py" 1169,.int 342 0,.int 2 0,.int 0 0,.int 0 0,.int 3 0,.ref 709,.bool true,.int 181 0,.ref 710,.none,.ref 711,.ref 712,.ref 713,.int 1172 0,.int 342 0,.str "/claim/cut.py" 1173]})::
 (nat_lit 715,⟨(.type "function"),none,.func (W.fnOf "_law_nearer" "_law_nearer" (defArgs (top 59)) (defBody (top 59)) (defScope (top 59)) .none .none .none (.str "law_logloom_k59_whole_watch" 1077) none (.ref 714) .none),#[]⟩)::
 (nat_lit 716,tu0)::
 (nat_lit 718,{cls:=.type "tuple",data:=.seq #[.str "_law_cells" 1178,.str "_law_letters_here" 1179,.str "_law_pool_here" 1180,.str "_law_within" 1181,.str "_law_cell" 1182,.str "_law_counts" 1183,.str "_law_one" 1184,.str "_law_other" 1185]})::
 (nat_lit 719,tu0)::
 (nat_lit 721,{cls:=.type "code",data:=.fields #[.str "_law_grown" 1175,.str "_law_grown" 1176,.str "/claim/cut.py" 1177,.int 346 0,.int 4 0,.int 0 0,.int 0 0,.int 3 0,.ref 716,.bool true,.int 181 0,.ref 717,.none,.ref 718,.ref 719,.ref 720,.int 1186 0,.int 346 0,.str "/claim/cut.py" 1187]})::
 (nat_lit 722,⟨(.type "function"),none,.func (W.fnOf "_law_grown" "_law_grown" (defArgs (top 60)) (defBody (top 60)) (defScope (top 60)) .none .none .none (.str "law_logloom_k59_whole_watch" 1077) none (.ref 721) .none),#[]⟩)::
 (nat_lit 723,tu0)::
 (nat_lit 726,{cls:=.type "code",data:=.fields #[.str "_law_near" 1189,.str "_law_near" 1190,.str "/claim/cut.py" 1191,.int 360 0,.int 3 0,.int 0 0,.int 0 0,.int 3 0,.ref 723,.bool true,.int 181 0,.ref 724,.none,.none,.none,.ref 725,.int 1192 0,.int 360 0,.str "/claim/cut.py" 1193]})::
 (nat_lit 727,⟨(.type "function"),none,.func (W.fnOf "_law_near" "_law_near" (defArgs (top 61)) (defBody (top 61)) (defScope (top 61)) .none .none .none (.str "law_logloom_k59_whole_watch" 1077) none (.ref 726) .none),#[]⟩)::
 (nat_lit 728,tu0)::
 (nat_lit 731,{cls:=.type "code",data:=.fields #[.str "_law_judged" 1195,.str "_law_judged" 1196,.str "/claim/cut.py" 1197,.int 375 0,.int 3 0,.int 0 0,.int 0 0,.int 3 0,.ref 728,.bool true,.int 181 0,.ref 729,.none,.none,.none,.ref 730,.int 1198 0,.int 375 0,.str "/claim/cut.py" 1199]})::
 (nat_lit 732,⟨(.type "function"),none,.func (W.fnOf "_law_judged" "_law_judged" (defArgs (top 62)) (defBody (top 62)) (defScope (top 62)) .none .none .none (.str "law_logloom_k59_whole_watch" 1077) none (.ref 731) .none),#[]⟩)::
 (nat_lit 733,tu0)::
 (nat_lit 735,{cls:=.type "tuple",data:=.seq #[.str "_law_asked" 1204,.str "_law_parts" 1205,.str "_law_part" 1206]})::
 (nat_lit 736,tu0)::
 (nat_lit 738,{cls:=.type "code",data:=.fields #[.str "_law_text" 1201,.str "_law_text" 1202,.str "/claim/cut.py" 1203,.int 396 0,.int 1 0,.int 0 0,.int 0 0,.int 3 0,.ref 733,.bool true,.int 181 0,.ref 734,.none,.ref 735,.ref 736,.ref 737,.int 1207 0,.int 396 0,.str "/claim/cut.py" 1208]})::
 (nat_lit 739,⟨(.type "function"),none,.func (W.fnOf "_law_text" "_law_text" (defArgs (top 63)) (defBody (top 63)) (defScope (top 63)) .none .none .none (.str "law_logloom_k59_whole_watch" 1077) none (.ref 738) .none),#[]⟩)::
 (nat_lit 740,tu0)::
 (nat_lit 743,{cls:=.type "code",data:=.fields #[.str "_law_pieces" 1210,.str "_law_pieces" 1211,.str "/claim/cut.py" 1212,.int 404 0,.int 2 0,.int 0 0,.int 0 0,.int 3 0,.ref 740,.bool true,.int 181 0,.ref 741,.none,.none,.none,.ref 742,.int 1213 0,.int 404 0,.str "/claim/cut.py" 1214]})::
 (nat_lit 744,⟨(.type "function"),none,.func (W.fnOf "_law_pieces" "_law_pieces" (defArgs (top 64)) (defBody (top 64)) (defScope (top 64)) .none .none .none (.str "law_logloom_k59_whole_watch" 1077) none (.ref 743) .none),#[]⟩)::
 (nat_lit 745,tu0)::
 (nat_lit 747,{cls:=.type "tuple",data:=.seq #[.str "_law_asked" 1219,.str "_law_kind" 1220,.str "_law_back" 1221,.str "_law_on" 1222,.str "_law_one" 1223,.str "_law_other" 1224]})::
 (nat_lit 748,tu0)::
 (nat_lit 750,{cls:=.type "code",data:=.fields #[.str "_law_looks" 1216,.str "_law_looks" 1217,.str "/claim/cut.py" 1218,.int 420 0,.int 1 0,.int 0 0,.int 0 0,.int 3 0,.ref 745,.bool true,.int 181 0,.ref 746,.none,.ref 747,.ref 748,.ref 749,.int 1225 0,.int 420 0,.str "/claim/cut.py" 1226]})::
 (nat_lit 751,⟨(.type "function"),none,.func (W.fnOf "_law_looks" "_law_looks" (defArgs (top 65)) (defBody (top 65)) (defScope (top 65)) .none .none .none (.str "law_logloom_k59_whole_watch" 1077) none (.ref 750) .none),#[]⟩)::
 (nat_lit 752,tu0)::
 (nat_lit 754,{cls:=.type "tuple",data:=.seq #[.str "_law_found" 1231,.str "_law_log_here" 1232,.str "_law_asked" 1233,.str "_law_begun" 1234,.str "_law_stop" 1235,.str "_law_told_here" 1236,.str "_law_n" 1237,.str "_law_due" 1238,.str "_law_number" 1239,.str "_law_rows" 1240]})::
 (nat_lit 755,tu0)::
 (nat_lit 757,{cls:=.type "code",data:=.fields #[.str "_law_told" 1228,.str "_law_told" 1229,.str "/claim/cut.py" 1230,.int 436 0,.int 5 0,.int 0 0,.int 0 0,.int 3 0,.ref 752,.bool true,.int 181 0,.ref 753,.none,.ref 754,.ref 755,.ref 756,.int 1241 0,.int 436 0,.str "/claim/cut.py" 1242]})::
 (nat_lit 758,⟨(.type "function"),none,.func (W.fnOf "_law_told" "_law_told" (defArgs (top 66)) (defBody (top 66)) (defScope (top 66)) .none .none .none (.str "law_logloom_k59_whole_watch" 1077) none (.ref 757) .none),#[]⟩)::
 (nat_lit 759,tu0)::
 (nat_lit 762,{cls:=.type "code",data:=.fields #[.str "law" 1244,.str "law" 1245,.str "/claim/cut.py" 1246,.int 449 0,.int 1 0,.int 0 0,.int 0 0,.int 3 0,.ref 759,.bool true,.int 181 0,.ref 760,.none,.none,.none,.ref 761,.int 1247 0,.int 449 0,.str "/claim/cut.py" 1248]})::
 (nat_lit 763,⟨(.type "function"),none,.func (W.fnOf "law" "law" (defArgs (top 67)) (defBody (top 67)) (defScope (top 67)) .none .none .none (.str "law_logloom_k59_whole_watch" 1077) none (.ref 762) .none),#[]⟩)::[]
def hA:List PySem.Addr:=nat_lit 2::nat_lit 3::nat_lit 15::nat_lit 22::nat_lit 23::nat_lit 24::nat_lit 25::nat_lit 28::nat_lit 35::nat_lit 37::nat_lit 38::nat_lit 40::nat_lit 41::nat_lit 42::nat_lit 43::nat_lit 44::nat_lit 47::nat_lit 54::nat_lit 55::nat_lit 56::nat_lit 59::nat_lit 62::nat_lit 63::nat_lit 71::nat_lit 73::nat_lit 74::nat_lit 76::nat_lit 77::nat_lit 78::nat_lit 80::nat_lit 81::nat_lit 83::nat_lit 84::nat_lit 85::nat_lit 87::nat_lit 88::nat_lit 90::nat_lit 91::nat_lit 92::nat_lit 94::nat_lit 95::nat_lit 97::nat_lit 98::nat_lit 99::nat_lit 101::nat_lit 102::nat_lit 104::nat_lit 105::nat_lit 106::nat_lit 108::nat_lit 109::nat_lit 111::nat_lit 112::nat_lit 113::nat_lit 114::nat_lit 115::nat_lit 116::nat_lit 117::nat_lit 120::nat_lit 122::nat_lit 123::nat_lit 125::nat_lit 126::nat_lit 127::nat_lit 129::nat_lit 130::nat_lit 132::nat_lit 133::nat_lit 141::nat_lit 143::nat_lit 144::nat_lit 146::nat_lit 147::nat_lit 148::nat_lit 150::nat_lit 151::nat_lit 153::nat_lit 154::nat_lit 155::nat_lit 157::nat_lit 158::nat_lit 160::nat_lit 161::nat_lit 162::nat_lit 163::nat_lit 164::nat_lit 165::nat_lit 166::nat_lit 169::nat_lit 176::nat_lit 178::nat_lit 179::nat_lit 181::nat_lit 182::nat_lit 183::nat_lit 185::nat_lit 186::nat_lit 188::nat_lit 189::nat_lit 190::nat_lit 191::nat_lit 192::nat_lit 195::nat_lit 202::nat_lit 204::nat_lit 205::nat_lit 207::nat_lit 208::nat_lit 209::nat_lit 211::nat_lit 212::nat_lit 214::nat_lit 215::nat_lit 216::nat_lit 217::nat_lit 218::nat_lit 221::nat_lit 228::nat_lit 230::nat_lit 231::nat_lit 233::nat_lit 234::nat_lit 235::nat_lit 237::nat_lit 238::nat_lit 240::nat_lit 241::nat_lit 242::nat_lit 244::nat_lit 245::nat_lit 247::nat_lit 248::nat_lit 249::nat_lit 250::nat_lit 251::nat_lit 254::nat_lit 261::nat_lit 263::nat_lit 264::nat_lit 266::nat_lit 267::nat_lit 268::nat_lit 270::nat_lit 271::nat_lit 273::nat_lit 274::nat_lit 275::nat_lit 277::nat_lit 278::nat_lit 280::nat_lit 281::nat_lit 282::nat_lit 283::nat_lit 284::nat_lit 287::nat_lit 294::nat_lit 296::nat_lit 297::nat_lit 299::nat_lit 300::nat_lit 301::nat_lit 303::nat_lit 304::nat_lit 306::nat_lit 307::nat_lit 308::nat_lit 310::nat_lit 311::nat_lit 313::nat_lit 314::nat_lit 315::nat_lit 318::nat_lit 319::nat_lit 320::nat_lit 321::nat_lit 322::nat_lit 325::nat_lit 332::nat_lit 334::nat_lit 335::nat_lit 337::nat_lit 338::nat_lit 339::nat_lit 341::nat_lit 342::nat_lit 344::nat_lit 345::nat_lit 346::nat_lit 348::nat_lit 349::nat_lit 351::nat_lit 352::nat_lit 353::nat_lit 354::nat_lit 355::nat_lit 358::nat_lit 365::nat_lit 367::nat_lit 368::nat_lit 370::nat_lit 371::nat_lit 372::nat_lit 373::nat_lit 374::nat_lit 377::nat_lit 384::nat_lit 386::nat_lit 387::nat_lit 389::nat_lit 390::nat_lit 391::nat_lit 392::nat_lit 393::nat_lit 396::nat_lit 403::nat_lit 405::nat_lit 406::nat_lit 408::nat_lit 409::nat_lit 410::nat_lit 412::nat_lit 413::nat_lit 415::nat_lit 416::nat_lit 417::nat_lit 419::nat_lit 420::nat_lit 422::nat_lit 423::nat_lit 424::nat_lit 426::nat_lit 427::nat_lit 429::nat_lit 430::nat_lit 431::nat_lit 432::nat_lit 433::nat_lit 436::nat_lit 439::nat_lit 440::nat_lit 448::nat_lit 450::nat_lit 451::nat_lit 453::nat_lit 454::nat_lit 455::nat_lit 457::nat_lit 458::nat_lit 460::nat_lit 461::nat_lit 462::nat_lit 463::nat_lit 464::nat_lit 465::nat_lit 466::nat_lit 469::nat_lit 476::nat_lit 478::nat_lit 479::nat_lit 481::nat_lit 482::nat_lit 483::nat_lit 485::nat_lit 486::nat_lit 488::nat_lit 489::nat_lit 490::nat_lit 491::nat_lit 492::nat_lit 495::nat_lit 502::nat_lit 504::nat_lit 505::nat_lit 507::nat_lit 508::nat_lit 509::nat_lit 511::nat_lit 512::nat_lit 514::nat_lit 515::nat_lit 516::nat_lit 517::nat_lit 518::nat_lit 521::nat_lit 528::nat_lit 530::nat_lit 531::nat_lit 533::nat_lit 534::nat_lit 535::nat_lit 538::nat_lit 539::nat_lit 540::nat_lit 541::nat_lit 542::nat_lit 545::nat_lit 552::nat_lit 554::nat_lit 555::nat_lit 557::nat_lit 558::nat_lit 559::nat_lit 561::nat_lit 562::nat_lit 564::nat_lit 565::nat_lit 566::nat_lit 567::nat_lit 568::nat_lit 571::nat_lit 573::nat_lit 574::nat_lit 576::nat_lit 577::nat_lit 578::nat_lit 580::nat_lit 581::nat_lit 583::nat_lit 584::nat_lit 585::nat_lit 587::nat_lit 588::nat_lit 590::nat_lit 591::nat_lit 592::nat_lit 593::nat_lit 594::nat_lit 595::nat_lit 596::nat_lit 597::nat_lit 598::nat_lit 599::nat_lit 600::nat_lit 601::nat_lit 602::nat_lit 603::nat_lit 605::nat_lit 606::nat_lit 608::nat_lit 609::nat_lit 610::nat_lit 612::nat_lit 613::nat_lit 615::nat_lit 616::nat_lit 617::nat_lit 619::nat_lit 620::nat_lit 622::nat_lit 623::nat_lit 624::nat_lit 626::nat_lit 627::nat_lit 629::nat_lit 630::nat_lit 631::nat_lit 633::nat_lit 634::nat_lit 636::nat_lit 637::nat_lit 638::nat_lit 640::nat_lit 641::nat_lit 643::nat_lit 644::nat_lit 645::nat_lit 647::nat_lit 648::nat_lit 650::nat_lit 651::nat_lit 652::nat_lit 654::nat_lit 655::nat_lit 657::nat_lit 658::nat_lit 659::nat_lit 661::nat_lit 662::nat_lit 664::nat_lit 665::nat_lit 666::nat_lit 668::nat_lit 669::nat_lit 671::nat_lit 672::nat_lit 673::nat_lit 676::nat_lit 677::nat_lit 678::nat_lit 681::nat_lit 682::nat_lit 683::nat_lit 686::nat_lit 687::nat_lit 688::nat_lit 690::nat_lit 691::nat_lit 693::nat_lit 694::nat_lit 695::nat_lit 697::nat_lit 698::nat_lit 700::nat_lit 701::nat_lit 702::nat_lit 704::nat_lit 705::nat_lit 707::nat_lit 708::nat_lit 709::nat_lit 711::nat_lit 712::nat_lit 714::nat_lit 715::nat_lit 716::nat_lit 718::nat_lit 719::nat_lit 721::nat_lit 722::nat_lit 723::nat_lit 726::nat_lit 727::nat_lit 728::nat_lit 731::nat_lit 732::nat_lit 733::nat_lit 735::nat_lit 736::nat_lit 738::nat_lit 739::nat_lit 740::nat_lit 743::nat_lit 744::nat_lit 745::nat_lit 747::nat_lit 748::nat_lit 750::nat_lit 751::nat_lit 752::nat_lit 754::nat_lit 755::nat_lit 757::nat_lit 758::nat_lit 759::nat_lit 762::nat_lit 763::[]
theorem hE:∀P,hA=(hK P).map (·.1):=fun _=>by kernel_rfl
def hQ:PySem.Program:={ PySem.Challenge.pw_logloom_k59_whole_watch with
 main:={ PySem.Challenge.pw_logloom_k59_whole_watch.main with
  body:=[top 1,top 2,top 3,top 5,top 6,top 8,top 9,top 10,top 11,top 12,top 13,top 14,top 15,top 16,top 17,top 18,top 19,top 21,top 22,top 23,top 24,top 25,top 26,top 27,top 28,top 29,top 30,top 31,top 32,top 33,top 34,top 35,top 36,top 38,top 39,top 40,top 41,top 42,top 43,top 44,top 45,top 46,top 47,top 49,top 50,top 51,top 52,top 53,top 54,top 55,top 56,top 57,top 58,top 59,top 60,top 61,top 62,top 63,top 64,top 65,top 66,top 67] } }
abbrev hH:W.Hook:=W.kHook hK hA hE
abbrev hX (s:PySem.Shared):Bool:=W.xlAt hQ [] s&&
 W.recOk (W.RowW.records (W.OpenRow.toRowW (W.OpenLaw.row PySem.Challenge.rw_logloom_k59_whole_watch))) s
set_option maxHeartbeats 0
noncomputable abbrev hR (w:PySem.World) (o:PySem.OsState) (b:Bool):=HT.runQ PySem.Challenge.pw_logloom_k59_whole_watch (w.withFollow "special-get-raises" b) 13586 (HT.at0 (w.withFollow "special-get-raises" b) o) (W.topStub PySem.Challenge.pw_logloom_k59_whole_watch)
open PySem PySem.W in
theorem hL2f (w:PySem.World)(o:PySem.OsState):(hR w o false).map (fun b=>W.Fast.tw4187177175401517315 hQ [PySem.Str.ofString "KINDS",PySem.Str.ofString "LEAST",PySem.Str.ofString "GREATEST"] (importedModules (PySem.Challenge.pw_logloom_k59_whole_watch).main.body) hX true b.abs)=some (W.openGood hQ [PySem.Str.ofString "KINDS",PySem.Str.ofString "LEAST",PySem.Str.ofString "GREATEST"]):=by kernel_rfl
theorem hL1f (w:PySem.World)(o:PySem.OsState):(hR w o false).map (fun b=>HT.kept PySem.Challenge.pw_logloom_k59_whole_watch (w.withFollow "special-get-raises" false).params b.abs)=some true:=by kernel_rfl
theorem hL3f (w:PySem.World)(o:PySem.OsState):(hR w o false).map (fun b=>hH.obs b.abs)=some (hH.val (w.withFollow "special-get-raises" false)):=by kernel_rfl
open PySem PySem.W in
theorem hL2t (w:PySem.World)(o:PySem.OsState):(hR w o true).map (fun b=>W.Fast.tw4187177175401517315 hQ [PySem.Str.ofString "KINDS",PySem.Str.ofString "LEAST",PySem.Str.ofString "GREATEST"] (importedModules (PySem.Challenge.pw_logloom_k59_whole_watch).main.body) hX true b.abs)=some (W.openGood hQ [PySem.Str.ofString "KINDS",PySem.Str.ofString "LEAST",PySem.Str.ofString "GREATEST"]):=by kernel_rfl
theorem hL1t (w:PySem.World)(o:PySem.OsState):(hR w o true).map (fun b=>HT.kept PySem.Challenge.pw_logloom_k59_whole_watch (w.withFollow "special-get-raises" true).params b.abs)=some true:=by kernel_rfl
theorem hL3t (w:PySem.World)(o:PySem.OsState):(hR w o true).map (fun b=>hH.obs b.abs)=some (hH.val (w.withFollow "special-get-raises" true)):=by kernel_rfl
theorem hL:W.LeftO PySem.Challenge.pw_logloom_k59_whole_watch hQ [PySem.Str.ofString "KINDS",PySem.Str.ofString "LEAST",PySem.Str.ofString "GREATEST"] hX hH.obs hH.val 13586:=HT.left3 rfl rfl (fun _=>rfl)
 (fun w o=>W.byRow2 "special-get-raises" (P:=fun w=>(HT.runQ PySem.Challenge.pw_logloom_k59_whole_watch w 13586 (HT.at0 w o) (W.topStub PySem.Challenge.pw_logloom_k59_whole_watch)).map (fun b=>HT.kept PySem.Challenge.pw_logloom_k59_whole_watch w.params b.abs)=some true) (fun w=>hL1f w o) (fun w=>hL1t w o) w)
 (fun w o=>W.byRow2 "special-get-raises" (P:=fun w=>(HT.runQ PySem.Challenge.pw_logloom_k59_whole_watch w 13586 (HT.at0 w o) (W.topStub PySem.Challenge.pw_logloom_k59_whole_watch)).map (fun b=>W.Fast.tw4187177175401517315 hQ [PySem.Str.ofString "KINDS",PySem.Str.ofString "LEAST",PySem.Str.ofString "GREATEST"] (PySem.importedModules (PySem.Challenge.pw_logloom_k59_whole_watch).main.body) hX true b.abs)=some (W.openGood hQ [PySem.Str.ofString "KINDS",PySem.Str.ofString "LEAST",PySem.Str.ofString "GREATEST"])) (fun w=>hL2f w o) (fun w=>hL2t w o) w)
 (fun w o=>W.byRow2 "special-get-raises" (P:=fun w=>(HT.runQ PySem.Challenge.pw_logloom_k59_whole_watch w 13586 (HT.at0 w o) (W.topStub PySem.Challenge.pw_logloom_k59_whole_watch)).map (fun b=>hH.obs b.abs)=some (hH.val w)) (fun w=>hL3f w o) (fun w=>hL3t w o) w)
set_option maxHeartbeats 4000000
end QL
namespace L2
open PySem PySem.Spec PyProof.Rows
abbrev Key:=Sum Int Str
def keyIs:Key->Value->Bool
 |.inl k,v=>Value.isInt k v
 |.inr x,v=>Value.isStrOf x v
def keyH (w:World):Key->Int
 |.inl k=>hashInt k
 |.inr x=>hashStr w x
theorem keyIs_shape:∀{k:Key} {v:Value},keyIs k v=true->(∃i t,k=Sum.inl i/\v=Value.int i t)\/(∃x t,k=Sum.inr x/\v=Value.str x t)
 |.inl i,v,h=>by
  obtain⟨t,e⟩:=Value.isInt_shape (k:=i) (v:=v) h
  exact .inl ⟨i,t,rfl,e⟩
 |.inr x,v,h=>by
  obtain⟨t,e⟩:=Value.isStrOf_shape (x:=x) (v:=v) h
  exact .inr ⟨x,t,rfl,e⟩
theorem key_ll (a b:Int):decide ((Sum.inl a:Key)=Sum.inl b)=(a==b):=by
 by_cases e:a=b
 ·subst e;simp
 ·have h:¬(Sum.inl a:Key)=Sum.inl b:=fun q=>e (Sum.inl.inj q)
  rw[decide_eq_false h]
  exact(beq_eq_false_iff_ne.mpr e).symm
theorem key_rr (a b:Str):decide ((Sum.inr a:Key)=Sum.inr b)=decide (a=b):=by
 by_cases e:a=b
 ·subst e;simp
 ·have h:¬(Sum.inr a:Key)=Sum.inr b:=fun q=>e (Sum.inr.inj q)
  rw[decide_eq_false h,decide_eq_false e]
theorem key_lr (a:Int)(b:Str):decide ((Sum.inl a:Key)=Sum.inr b)=false:=decide_eq_false (fun q=>nomatch q)
theorem key_rl (a:Str)(b:Int):decide ((Sum.inr a:Key)=Sum.inl b)=false:=decide_eq_false (fun q=>nomatch q)
def mixKind (prog:Program)(w:World):PySem.KeyKind prog w Key where
 is:=keyIs
 hash:=keyH w
 inj:=fun v a b ha hb=>by
  rcases keyIs_shape ha with⟨i,t,rfl,rfl⟩|⟨x,t,rfl,rfl⟩
  ·rcases keyIs_shape hb with⟨j,u,rfl,e⟩|⟨y,u,rfl,e⟩
   ·injection e with e1 _;rw[e1]
   ·exact nomatch e
  ·rcases keyIs_shape hb with⟨j,u,rfl,e⟩|⟨y,u,rfl,e⟩
   ·exact nomatch e
   ·injection e with e1 _;rw[e1]
 byValue:=fun k v h=>by
  rcases keyIs_shape h with⟨i,t,rfl,rfl⟩|⟨x,t,rfl,rfl⟩<;>rfl
 pyHash:=fun hv h=>by
  rcases keyIs_shape hv with⟨i,t,rfl,rfl⟩|⟨x,t,rfl,rfl⟩
  ·exact wpAny_pyHash_int h
  ·exact wpAny_pyHash_str h
 eqBool:=fun hu hv h=>by
  rcases keyIs_shape hu with⟨i,t,rfl,rfl⟩|⟨x,t,rfl,rfl⟩
  ·rcases keyIs_shape hv with⟨j,u,rfl,rfl⟩|⟨y,u,rfl,rfl⟩
   ·rw[key_ll] at h;exact wpAny_eqBool_int h
   ·rw[key_lr] at h;exact SeqAt.EqAt.int_str i t y u _ _ _ _ h
  ·rcases keyIs_shape hv with⟨j,u,rfl,rfl⟩|⟨y,u,rfl,rfl⟩
   ·rw[key_rl] at h;exact SeqAt.EqAt.str_int x t j u _ _ _ _ h
   ·rw[key_rr] at h;exact wpAny_eqBool_str h
 «strs»:=fun k x t v h=>by
  rcases keyIs_shape h with⟨i,u,rfl,e⟩|⟨y,u,rfl,e⟩
  ·exact nomatch e
  ·injection e with e1 _
   subst e1
   cases v<;>rfl
end L2
namespace L2
open PySem PySem.Spec PyProof.Rows
inductive V where
 |non|bl (b:Bool)|int (i:Int)|str (x:Str)|byt (b:Array UInt8)|flt (b:UInt64)|ref (a:Addr)|ty (n:String)
 deriving DecidableEq
def RelV:V->Value->Prop
 |.non,u=>u=Value.none
 |.bl b,u=>u=Value.bool b
 |.int i,u=>∃t,u=Value.int i t
 |.str x,u=>∃t,u=Value.str x t
 |.byt b,u=>∃t,u=Value.bytes b t
 |.flt b,u=>∃t,u=Value.float b t
 |.ref a,u=>u=Value.ref a
 |.ty n,u=>u=Value.type n
abbrev Vals:List V->List Value->Prop:=Paired RelV
theorem Vals.length {xs:List V}{us:List Value}(r:Vals xs us):xs.length=us.length:=Paired.length r
theorem Vals.get:∀{xs:List V} {us:List Value} {i:Nat} {x:V},Vals xs us->xs[i]?=some x->∃u,us[i]?=some u/\RelV x u
 |_,_,_,_,.nil,e=>by simp at e
 |_,_,0,_,.cons r _,e=>by simp at e;subst e;exact⟨_,rfl,r⟩
 |_,_,i+1,x,.cons _ t,e=>by
  obtain⟨u,h1,h2⟩:=Vals.get (i:=i) (x:=x) t (by simpa using e)
  exact⟨u,by simpa using h1,h2⟩
theorem Vals.set {x:V}{u:Value}(r:RelV x u):∀{xs:List V} {us:List Value} (i:Nat),Vals xs us->Vals (xs.set i x) (us.set i u)
 |_,_,_,.nil=>.nil
 |_,_,0,.cons _ t=>.cons r t
 |_,_,i+1,.cons q t=>.cons q (Vals.set r i t)
theorem Vals.append:∀{xs ys:List V} {us ws:List Value},Vals xs us->Vals ys ws->Vals (xs++ys) (us++ws)
 |_,_,_,_,.nil,s=>s
 |_,_,_,_,.cons r t,s=>.cons r (Vals.append t s)
theorem Vals.take:∀{xs:List V} {us:List Value} (n:Nat),Vals xs us->Vals (xs.take n) (us.take n)
 |_,_,0,_=>.nil
 |_,_,_+1,.nil=>.nil
 |_,_,n+1,.cons r t=>.cons r (Vals.take n t)
theorem Vals.drop:∀{xs:List V} {us:List Value} (n:Nat),Vals xs us->Vals (xs.drop n) (us.drop n)
 |_,_,0,r=>r
 |_,_,_+1,.nil=>.nil
 |_,_,n+1,.cons _ t=>Vals.drop n t
def RelO:Option V->Option Value->Prop
 |some v,some u=>RelV v u
 |none,none=>True
 |_,_=>False
def KV {κ:Type}:List (κ×V)->List (κ×Value)->Prop:=Paired fun(p:κ×V) (q:κ×Value)=>p.1=q.1/\RelV p.2 q.2
def kV:Key->V
 |.inl i=>.int i
 |.inr x=>.str x
inductive HO where
 |lst (xs:List V)
 |tup (xs:List V)
 |dK (kvs:List (Key×V))|dT (kvs:List (List Key×V))
 |set (S:Int->Bool) (n:Nat)
 |ins (C dx:Addr) (fs:List (Str×V))
 |own (x:Addr)
 |xd (fs:List (Str×V))
 |met (f x:Addr)
 |rng (lo hi:Int)
 |frz (o:Obj) (u:HO)
 |tbl (ps:Array Value)
 |ext (φ:Heap->Prop)
abbrev Hp:=Addr->Option HO
def upd (H:Hp)(a:Addr)(o:HO):Hp:=fun b=>if b=a then some o else H b
theorem upd_same {H:Hp}{a:Addr}{o:HO}:upd H a o a=some o:=by unfold upd;rw[if_pos rfl]
theorem upd_ne {H:Hp}{a b:Addr}{o:HO}(h:b≠a):upd H a o b=H b:=by unfold upd;rw[if_neg h]
theorem ne_of {H:Hp}{a b:Addr}{o u:HO}(h:H a=some o)(h':H b=some u)(d:o≠u):a≠b:=by
 intro e;subst e;rw[h] at h';exact d (Option.some.inj h')
theorem ne_of_none {H:Hp}{a b:Addr}{o:HO}(h:H a=some o)(h':H b=none):a≠b:=by
 intro e;subst e;rw[h] at h';cases h'
section
variable (P:Program) (w:World)
def ObjOk (H:Hp)(h:Heap)(a:Addr):HO->Prop
 |.lst xs=>xs.length<=sizeLine/\∃(its:List Value) (n:Nat),Vals xs its/\h.get? a=some { cls:=.type "list",data:=.seq its.toArray n }
 |.tup xs=>xs.length<=sizeLine/\∃its:List Value,Vals xs its/\IsTup h a its.toArray
 |.dK kvs=>kvs.length<=sizeLine/\(a==sysModules)=false/\∃vs,KV kvs vs/\h.DictOf (mixKind P w) a vs
 |.dT kvs=>kvs.length<=sizeLine/\(a==sysModules)=false/\∃xs:List (List Key×Addr×Value),
   Paired (fun(p:List Key×V) (q:List Key×Addr×Value)=>p.1=q.1/\H q.2.1=some (.tup (p.1.map kV))/\RelV p.2 q.2.2) kvs xs∧
   ∃o es ep,h.get? a=some o/\o.ExactDict/\o.data=.dict es ep/\es.toList=xs.map (entryOfKey (tupleKind (mixKind P w)))/\(xs.map (·.1)).Nodup
 |.set S n=>h.SetOf (intKind P w) a S n
 |.ins C dx fs=>H dx=some (.own a)/\fs.length<=1000/\dx≠a/\h.get? a=some (W.instObj C dx)∧
   ∃mA,h.Ns1 dx mA/\(∀f,RelO (fs.lookup f) (mA f))/\PySem.Within mA (fs.map (·.1))
 |.own _=>∃o,h.get? a=some o
 |.xd fs=>∃mA,h.Ns1 a mA/\∀f,RelO (fs.lookup f) (mA f)
 |.rng lo hi=>∃t u v,h.get? a=some { cls:=.type "range",data:=.fields #[.int lo t,.int hi u,.int 1 v] }
 |.frz o u=>h.get? a=some o/\ObjOk H h a u
 |.tbl ps=>h.get? a=some { cls:=.none,data:=.fields ps }
 |.met f x=>h.get? a=some (W.methodObj (.ref f) (.ref x))
 |.ext φ=>φ h/\(∃o,h.get? a=some o)/\∀h1 h2:Heap,φ h1->(∀o,h1.get? a=some o->h2.get? a=some o)->φ h2
def HOk (H:Hp)(h:Heap):Prop:=∀a o,H a=some o->ObjOk P w H h a o
end
section
variable {P:Program} {w:World} {H H':Hp} {h h':Heap} {a:Addr} {o:HO}
theorem ObjOk.lt (x:ObjOk P w H h a o):a<h.objs.size:=by
 cases o with
 |lst xs=>obtain⟨_,_,_,_,e⟩:=x;exact Heap.lt_size e
 |tup xs=>obtain⟨_,_,_,p⟩:=x;exact p.lt
 |dK kvs=>obtain⟨_,_,_,_,o,_,_,e,_⟩:=x;exact Heap.lt_size e
 |dT kvs=>obtain⟨_,_,_,_,o,_,_,e,_⟩:=x;exact Heap.lt_size e
 |set S n=>obtain⟨o,_,_,_,e,_⟩:=x;exact Heap.lt_size e
 |ins C dx fs=>obtain⟨_,_,_,e,_⟩:=x;exact Heap.lt_size e
 |own y=>obtain⟨_,e⟩:=x;exact Heap.lt_size e
 |xd fs=>obtain⟨_,⟨_,_,_,e,_⟩,_⟩:=x;exact Heap.lt_size e
 |rng lo hi=>obtain⟨_,_,_,e⟩:=x;exact Heap.lt_size e
 |frz ob u=>obtain⟨e,_⟩:=x;exact Heap.lt_size e
 |tbl ps=>exact Heap.lt_size (show h.get? a=some _ from x)
 |met f y=>exact Heap.lt_size (show h.get? a=some _ from x)
 |ext φ=>obtain⟨_,⟨_,e⟩,_⟩:=x;exact Heap.lt_size e
theorem Paired.mapP {α β:Type}{F G:α->β->Prop}:∀{l₁:List α} {l₂:List β},Paired F l₁ l₂->(∀a b,F a b->G a b)->Paired G l₁ l₂
 |_,_,.nil,_=>.nil
 |_,_,.cons r t,f=>.cons (f _ _ r) (Paired.mapP t f)
theorem ObjOk.stay (x:ObjOk P w H h a o)(k:∀b u,(b=a\/H b=some (.own a))->h.get? b=some u->h'.get? b=some u)
  (ho:∀b,H b=some (.own a)->H' b=some (.own a)) (ht:∀b xs,H b=some (.tup xs)->H' b=some (.tup xs)):ObjOk P w H' h' a o:=by
 induction o with
 |lst xs=>obtain⟨z,its,n,r,e⟩:=x;exact⟨z,its,n,r,k _ _ (.inl rfl) e⟩
 |tup xs=>obtain⟨z,its,r,ob,e,c⟩:=x;exact⟨z,its,r,ob,k _ _ (.inl rfl) e,c⟩
 |dK kvs=>obtain⟨z,y,vs,r,ob,es,ep,e,c⟩:=x;exact⟨z,y,vs,r,ob,es,ep,k _ _ (.inl rfl) e,c⟩
 |dT kvs=>
  obtain⟨z,y,xs,r,ob,es,ep,e,c⟩:=x
  exact⟨z,y,xs,Paired.mapP r fun p q z=>⟨z.1,ht _ _ z.2.1,z.2.2⟩,ob,es,ep,k _ _ (.inl rfl) e,c⟩
 |set S n=>obtain⟨ob,es,ep,t,e,c⟩:=x;exact⟨ob,es,ep,t,k _ _ (.inl rfl) e,c⟩
 |ins C dx fs=>
  obtain⟨d,z,ne,e,mA,⟨od,es,ep,e2,c⟩,r⟩:=x
  exact⟨ho _ d,z,ne,k _ _ (.inl rfl) e,mA,⟨od,es,ep,k _ _ (.inr d) e2,c⟩,r⟩
 |own y=>obtain⟨ob,e⟩:=x;exact⟨ob,k _ _ (.inl rfl) e⟩
 |xd fs=>obtain⟨mA,⟨od,es,ep,e,c⟩,r⟩:=x;exact⟨mA,⟨od,es,ep,k _ _ (.inl rfl) e,c⟩,r⟩
 |rng lo hi=>obtain⟨t,u,v,e⟩:=x;exact⟨t,u,v,k _ _ (.inl rfl) e⟩
 |frz ob u ih=>obtain⟨e,q⟩:=x;exact⟨k _ _ (.inl rfl) e,ih q⟩
 |tbl ps=>
  have e:h.get? a=some { cls:=.none,data:=.fields ps }:=x
  show h'.get? a=some { cls:=.none,data:=.fields ps }
  exact k a _ (.inl rfl) e
 |met f y=>
  have e:h.get? a=some (W.methodObj (.ref f) (.ref y)):=x
  show h'.get? a=some (W.methodObj (.ref f) (.ref y))
  exact k a _ (.inl rfl) e
 |ext φ=>obtain⟨p,⟨o,e⟩,st⟩:=x;exact⟨st _ _ p fun o q=>k _ _ (.inl rfl) q,⟨o,k _ _ (.inl rfl) e⟩,st⟩
theorem HOk.lt (x:HOk P w H h)(e:H a=some o):a<h.objs.size:=(x a o e).lt
theorem HOk.fresh (x:HOk P w H h)(e:h.objs.size<=a):H a=none:=by
 cases q:H a with
 |none=>rfl
 |some u=>exact absurd (Nat.lt_of_lt_of_le (x.lt q) e) (Nat.lt_irrefl _)
theorem HOk.kept (x:HOk P w H h)(k:∀b u,h.get? b=some u->h'.get? b=some u):HOk P w H h':=fun a o e=>
 (x a o e).stay (fun b u _ q=>k b u q) (fun _ q=>q) fun _ _ q=>q
theorem HOk.laid (x:HOk P w H h)(k:∀b u,h.get? b=some u->h'.get? b=some u)(hp:h.objs.size<=a)(new:ObjOk P w (upd H a o) h' a o):HOk P w (upd H a o) h':=fun b u e=>by
 have hn:=x.fresh hp
 by_cases hb:b=a
 ·subst hb;rw[upd_same] at e;cases e;exact new
 ·rw[upd_ne hb] at e
  exact(x b u e).stay (fun c v _ q=>k c v q) (fun c q=>by rw[upd_ne (ne_of_none q hn)];exact q) fun c xs q=>by rw[upd_ne (ne_of_none q hn)];exact q
end
def Rd (H:Hp)(a:Addr)(u:HO):Prop:=H a=some u\/∃o,H a=some (.frz o u)
theorem Rd.ok {P:Program}{w:World}{H:Hp}{h:Heap}{a:Addr}{u:HO}(r:Rd H a u)(x:HOk P w H h):ObjOk P w H h a u:=by
 rcases r with r|⟨o,r⟩
 ·exact x a u r
 ·obtain⟨_,q⟩:=x a _ r
  exact q
def Mut:Option HO->Prop
 |some (.lst _)=>True
 |some (.dK _)=>True
 |some (.dT _)=>True
 |some (.set _ _)=>True
 |some (.ins _ _ _)=>True
 |some (.ext _)=>True
 |_=>False
section
variable {P:Program} {w:World} {H:Hp} {h h':Heap} {x e:Addr} {o':HO}
theorem HOk.write (ok:HOk P w H h)(mu:Mut (H x))(he:e=x\/H e=some (.own x))(k:∀b u,b≠e->h.get? b=some u->h'.get? b=some u)(heo:∃u,h'.get? e=some u)
  (new:ObjOk P w (upd H x o') h' x o'):HOk P w (upd H x o') h':=fun b u q=>by
 have nown:∀c y,H c=some (.own y)->c≠x:=fun c y r z=>by subst z;rw[r] at mu;exact mu
 have ntup:∀c xs,H c=some (.tup xs)->c≠x:=fun c xs r z=>by subst z;rw[r] at mu;exact mu
 by_cases hb:b=x
 ·subst hb;rw[upd_same] at q;cases q;exact new
 ·rw[upd_ne hb] at q
  by_cases hbe:b=e
  ·have q':H b=some (.own x):=by
    rcases he with z|z
    ·exact absurd (hbe.trans z) hb
    ·rw[hbe];exact z
   rw[q] at q';cases q'
   obtain⟨v,hv⟩:=heo
   exact⟨v,by rw[hbe];exact hv⟩
  ·refine(ok b u q).stay (fun c v hc r=>k c v ?_ r) (fun c r=>by rw[upd_ne (nown c b r)];exact r) fun c xs r=>by rw[upd_ne (ntup c xs r)];exact r
   rcases hc with rfl|hc
   ·exact hbe
   ·rintro rfl
    rcases he with z|z
    ·exact nown c b hc z
    ·rw[hc] at z;cases z;exact hb rfl
end
structure Un (fs ex:List Addr)(H H':Hp)(h h':Heap):Prop where
 keep:∀b o,h.get? b=some o->H b=none->b∉fs->b∉ex->h'.get? b=some o
 slot:∀b o,h.get? b=some o->H b=none->b∈fs->b∉ex->∃sl,h'.get? b=some { o with slots:=sl }
 free:∀b o,h.get? b=some o->H b=none->b∉ex->H' b=none
 there:∀b o,h.get? b=some o->b∉ex->∃o',h'.get? b=some o'
 tups:∀b xs,H b=some (.tup xs)->H' b=some (.tup xs)
 frzs:∀b o u,H b=some (.frz o u)->H' b=some (.frz o u)
 tbls:∀b ps,H b=some (.tbl ps)->∃more,H' b=some (.tbl (ps++more))
section
variable {fs fs' ex ex':List Addr} {H H1 H2:Hp} {h h1 h2 h':Heap} {a x e:Addr} {o:HO}
theorem Un.any (u:Un fs ex H H1 h h1){b:Addr}{ob:Obj}(q:h.get? b=some ob)(n:H b=none)(hx:b∉ex):∃sl,h1.get? b=some { ob with slots:=sl }:=by
 by_cases hb:b∈fs
 ·exact u.slot b ob q n hb hx
 ·exact⟨ob.slots,u.keep b ob q n hb hx⟩
theorem Un.kept (k:∀b u,h.get? b=some u->h'.get? b=some u):Un fs ex H H h h':=
 ⟨fun b ob q _ _ _=>k b ob q,fun b ob q _ _ _=>⟨ob.slots,k b ob q⟩,fun _ _ _ n _=>n,fun b ob q _=>⟨ob,k b ob q⟩,fun _ _ q=>q,fun _ _ _ q=>q,fun _ ps q=>⟨#[],by rw[q];simp⟩⟩
theorem Un.refl:Un fs ex H H h h:=Un.kept fun _ _ q=>q
theorem Un.laid (k:∀b u,h.get? b=some u->h'.get? b=some u)(hp:h.objs.size<=a)(hn:H a=none):Un fs ex H (upd H a o) h h' where
 keep:=fun b u q _ _ _=>k b u q
 slot:=fun b u q _ _ _=>⟨u.slots,k b u q⟩
 free:=fun b u q n _=>by rw[upd_ne (Nat.ne_of_lt (Nat.lt_of_lt_of_le (Heap.lt_size q) hp))];exact n
 there:=fun b u q _=>⟨u,k b u q⟩
 tups:=fun b xs q=>by rw[upd_ne (ne_of_none q hn)];exact q
 frzs:=fun b u xs q=>by rw[upd_ne (ne_of_none q hn)];exact q
 tbls:=fun b ps q=>⟨#[],by rw[upd_ne (ne_of_none q hn),q];simp⟩
theorem Un.write (mu:Mut (H x))(he:e=x\/H e=some (.own x))(k:∀b u,b≠e->h.get? b=some u->h'.get? b=some u)(heo:∃u,h'.get? e=some u):Un fs ex H (upd H x o) h h':=by
 have hx:∀b,H b=none->b≠x:=fun b n z=>by subst z;rw[n] at mu;exact mu
 have hb:∀b,H b=none->b≠e:=fun b n z=>by
  subst z
  rcases he with r|r
  ·exact hx b n r
  ·rw[n] at r;cases r
 have hm:∀b u,H b=some u->¬Mut (some u)->b≠x:=fun b u q nm z=>by subst z;rw[q] at mu;exact nm mu
 refine⟨fun b u q n _ _=>k b u (hb b n) q,fun b u q n _ _=>⟨u.slots,k b u (hb b n) q⟩,fun b u q n _=>by rw[upd_ne (hx b n)];exact n,fun b u q _=>?_,
  fun b xs q=>by rw[upd_ne (hm b _ q fun z=>z)];exact q,fun b u xs q=>by rw[upd_ne (hm b _ q fun z=>z)];exact q,fun b ps q=>⟨#[],by rw[upd_ne (hm b _ q fun z=>z),q];simp⟩⟩
 by_cases hbe:b=e
 ·subst hbe;exact heo
 ·exact⟨u,k b u hbe q⟩
end
def trk (h:Heap)(H:Hp):List Addr:=(List.range h.objs.size).filter fun a=>(H a).isSome
def hidT (h:Heap)(H:Hp):Heap:=W.hideAll h (trk h H)
theorem hidT_size (h:Heap)(H:Hp):(hidT h H).objs.size=h.objs.size:=W.hideAll_size _ _
theorem hidT_get {h:Heap}{H:Hp}{b:Addr}{o:Obj}(e:h.get? b=some o)(n:H b=none):(hidT h H).get? b=some o:=
 W.hideAll_get _ e fun hm=>by
  have q:(H b).isSome=true:=(List.mem_filter.mp hm).2
  rw[n] at q;simp at q
theorem of_hidT {h:Heap}{H:Hp}{b:Addr}{o:Obj}(e:(hidT h H).get? b=some o):h.get? b=some o/\H b=none:=by
 have e':h.get? b=some o:=W.of_hideAll (trk h H) e
 refine⟨e',?_⟩
 cases q:H b with
 |none=>rfl
 |some x=>
  have hm:b∈trk h H:=List.mem_filter.mpr ⟨List.mem_range.mpr (Heap.lt_size e'),by simp[q]⟩
  have z:(hidT h H).get? b=none:=W.hideAll_none (trk h H) hm
  rw[z] at e;cases e
end L2
namespace L2
open PySem PySem.Spec PyProof.Rows
structure Mod (K:W.Frag)(mg:Str->Option Value)(base:Heap):Prop where
 kin:K.In base
 glob:base.Ns mainGlobals mg
 blt:∃mb,base.Ns builtinsNs mb/\∀x:Str,x≠"__name__"->mb x=bootBuiltins x
 nolimit:base.NoLimit
structure Cx where
 prog:Program
 w:World
 K:W.Frag
 mg:Str->Option Value
 base:Heap
 A:Around
 N:List Str
 s₀:Shared
 H₀:Hp
 env:Env
 outer:List Env
 stack:List Env
 ex:List Addr
 fn:Str->Bool
 calm:Bool
 pn:List (Addr×Obj)
 xe:Value->Shared->Prop
def frs (l:List Env):List Addr:=l.filterMap (·.frame)
abbrev Cx.fs (X:Cx):List Addr:=frs X.outer
def Vis (sc:Scope)(x:Str):Prop:=sc.names.lookup x=some .local\/sc.names.lookup x=some .cell\/sc.names.lookup x=some .free
def Loc (sc:Scope)(x:Str):Prop:=sc.names.lookup x=some .local\/sc.names.lookup x=some .cell
def Look (env:Env)(h:Heap)(m:Str->Option Value)(x:Str)(u:Value):Prop:=
 (env.kindOf x=some .local/\m x=some u)\/((env.kindOf x=some .cell\/env.kindOf x=some .free)/\∃c,env.cells.lookup x=some c/\h.IsCell c (some u))
structure Cx.Ok (X:Cx):Prop where
 mod:Mod X.K X.mg X.base
 kind:X.env.scope.kind=.function
 glob:X.env.globals=mainGlobals
 blt:X.env.builtins=builtinsNs
 above:X.s₀.heap.objs.size<=X.env.locals
 inj:∀x y c,X.env.cells.lookup x=some c->X.env.cells.lookup y=some c->x=y
 has:∀x,(X.env.kindOf x=some .cell\/X.env.kindOf x=some .free)->∃c,X.env.cells.lookup x=some c
 cab:∀x c,X.fn x=true->X.env.cells.lookup x=some c->X.s₀.heap.objs.size<=c
 hd:X.calm=true->X.A.handled=none
 frames:X.A.frames=some X.stack
 stk:X.stack=X.outer\/(X.stack=X.env::X.outer/\X.env.frame=some X.env.locals)
 exf:∀b∈X.ex,b≠X.env.locals/\∀x c,X.env.cells.lookup x=some c->c≠b
 bs:∀b o,X.base.get? b=some o->X.s₀.heap.get? b=some o/\X.H₀ b=none
 bsz:X.base.objs.size<=X.s₀.heap.objs.size
 noex:∀b o,X.base.get? b=some o->b∉X.ex
 exfs:∀b∈X.ex,b∉X.fs
 funs:X.s₀.heap.FunFrames X.base X.outer
 frf:∀b∈X.fs,X.H₀ b=none
structure Inv (X:Cx)(pins:List (Addr×Obj))(σ:List (Option V))(H:Hp)(s:Shared):Prop where
 ok:X.Ok
 os:s.os=X.s₀.os
 bare:AllBare s.gens
 base:Un X.fs X.ex X.H₀ H X.s₀.heap s.heap
 loc:∃m,s.heap.Ns X.env.locals m/\∀(i:Nat) (x:Str) (v:V),X.N[i]?=some x->σ[i]?=some (some v)->Vis X.env.scope x->∃u,RelV v u/\Look X.env s.heap m x u
 cell:∀x c,X.env.cells.lookup x=some c->∃v,s.heap.IsCell c v
 free:H X.env.locals=none
 freeC:∀x c,X.env.cells.lookup x=some c->H c=none
 pin:∀p∈X.pn++pins,s.heap.get? p.1=some p.2/\H p.1=none/\p.1≠X.env.locals/\p.1∉X.fs/\∀v,p.2.data≠.cell v
 hok:HOk X.prog X.w H s.heap
 len:σ.length=X.N.length
section
variable {X:Cx} {pins:List (Addr×Obj)} {σ:List (Option V)} {H H':Hp} {s:Shared} {h':Heap}
theorem Cx.Ok.nofr (ok:X.Ok){b:Addr}{o:Obj}(e:X.base.get? b=some o):b∉X.fs:=fun hb=>by
 have:=(ok.funs.mem hb).1
 rw[e] at this;cases this
theorem Inv.bs (I:Inv X pins σ H s):∀b o,X.base.get? b=some o->s.heap.get? b=some o/\H b=none:=fun b o e=>
 ⟨I.base.keep b o (I.ok.bs b o e).1 (I.ok.bs b o e).2 (I.ok.nofr e) (I.ok.noex b o e),I.base.free b o (I.ok.bs b o e).1 (I.ok.bs b o e).2 (I.ok.noex b o e)⟩
theorem Inv.bk (I:Inv X pins σ H s):∀b o,X.base.get? b=some o->s.heap.get? b=some o:=fun b o e=>(I.bs b o e).1
theorem Inv.mod (I:Inv X pins σ H s):Mod X.K X.mg X.base:=I.ok.mod
theorem Inv.kIn (I:Inv X pins σ H s):X.K.In s.heap:=I.ok.mod.kin.keeps I.bk
theorem Inv.lt (I:Inv X pins σ H s):X.env.locals<s.heap.objs.size:=let ⟨_,hn,_⟩:=I.loc;hn.lt
theorem Inv.sz (I:Inv X pins σ H s):X.s₀.heap.objs.size<=s.heap.objs.size:=Nat.le_trans I.ok.above (Nat.le_of_lt I.lt)
theorem Inv.nofs (I:Inv X pins σ H s){a:Addr}(h:s.heap.objs.size<=a):a∉X.fs:=fun hb=>by
 obtain⟨_,o,ho,_⟩:=I.ok.funs.mem hb
 exact absurd (Nat.lt_of_lt_of_le (Heap.lt_size ho) (Nat.le_trans I.sz h)) (Nat.lt_irrefl _)
theorem Inv.cne (I:Inv X pins σ H s):∀x c,X.env.cells.lookup x=some c->c≠X.env.locals:=fun x c e z=>by
 obtain⟨v,o,ho,hd⟩:=I.cell x c e
 obtain⟨m,⟨o',es,ep,ho',hd',_⟩,_⟩:=I.loc
 rw[z,ho'] at ho;cases ho;rw[hd'] at hd;cases hd
theorem Inv.funs (I:Inv X pins σ H s):s.heap.FunFrames X.base X.outer:=by
 have all:∀(l:List Env),(∀b∈frs l,b∈X.fs)->X.s₀.heap.FunFrames X.base l->s.heap.FunFrames X.base l:=by
  intro l
  induction l with
  |nil=>intro _ _;trivial
  |cons env r ih=>
   intro hs hl
   obtain⟨hk,⟨L,o,hf,hn,ho,hd⟩,hr⟩:=hl
   have hL:L∈X.fs:=hs L (by unfold frs;rw[List.filterMap_cons,hf];exact List.mem_cons_self)
   obtain⟨sl,e⟩:=I.base.slot L o ho (I.ok.frf L hL) hL fun z=>I.ok.exfs L z hL
   exact⟨hk,⟨L,_,hf,hn,e,hd⟩,ih (fun b hb=>hs b (by unfold frs;rw[List.filterMap_cons,hf];exact List.mem_cons_of_mem _ hb)) hr⟩
 exact all X.outer (fun _ hb=>hb) I.ok.funs
theorem Inv.stack (I:Inv X pins σ H s):s.heap.FunFrames X.base X.stack:=by
 rcases I.ok.stk with e|⟨e,hf⟩
 ·rw[e];exact I.funs
 ·rw[e]
  obtain⟨m,hn,_⟩:=I.loc
  refine .cons (by rw[I.ok.kind];decide) hf hn ?_ I.funs
  exact Heap.get?_none_of_le (Nat.le_trans I.ok.bsz I.ok.above)
theorem Inv.stkSub (I:Inv X pins σ H s):∀b∈frs X.stack,b∈X.env.locals::X.fs:=fun b hb=>by
 rcases I.ok.stk with e|⟨e,hf⟩
 ·rw[e] at hb;exact List.mem_cons_of_mem _ hb
 ·rw[e] at hb
  unfold frs at hb
  rw[List.filterMap_cons,hf] at hb
  exact hb
theorem Inv.stkFree (I:Inv X pins σ H s):∀b∈frs X.stack,H b=none:=fun b hb=>by
 rcases List.mem_cons.mp (I.stkSub b hb) with e|hb
 ·rw[e];exact I.free
 ·obtain⟨_,o,ho,_⟩:=I.ok.funs.mem hb
  exact I.base.free b o ho (I.ok.frf b hb) fun z=>I.ok.exfs b z hb
theorem Inv.step {g':Array GenState}{t':Nat}{d':Drawn}{ch:List Addr}(I:Inv X pins σ H s)
  (hch:∀b∈ch,(b∈X.ex\/X.s₀.heap.objs.size<=b)/\b≠X.env.locals/\(∀x c,X.env.cells.lookup x=some c->c≠b)/\∀p∈X.pn++pins,p.1≠b)
  (keep:∀b o,b≠X.env.locals->b∉X.fs->b∉ch->s.heap.get? b=some o->H b=none->h'.get? b=some o)
  (slot:∀b o,b≠X.env.locals->b∈X.fs->b∉ch->s.heap.get? b=some o->H b=none->∃sl,h'.get? b=some { o with slots:=sl }) (free:∀b o,b∉ch->s.heap.get? b=some o->H b=none->H' b=none)
  (there:∀b o,b∉ch->s.heap.get? b=some o->∃o',h'.get? b=some o')
  (tups:∀b xs,H b=some (.tup xs)->H' b=some (.tup xs)) (frzs:∀b o u,H b=some (.frz o u)->H' b=some (.frz o u)) (tbls:∀b ps,H b=some (.tbl ps)->∃more,H' b=some (.tbl (ps++more)))
  (ns:∀m,s.heap.Ns X.env.locals m->h'.Ns X.env.locals m) (hok:HOk X.prog X.w H' h') (hg:AllBare g'):
  Inv X pins σ H' { s with heap:=h',gens:=g',drawn:=d',toks:=t' }:=by
 have neL:∀b o,X.s₀.heap.get? b=some o->b≠X.env.locals:=fun b o e=>Nat.ne_of_lt (Nat.lt_of_lt_of_le (Heap.lt_size e) I.ok.above)
 have neC:∀b o,X.s₀.heap.get? b=some o->b∉X.ex->b∉ch:=fun b o e hx hb=>by
  rcases(hch b hb).1 with z|z
  ·exact hx z
  ·exact absurd (Nat.lt_of_lt_of_le (Heap.lt_size e) z) (Nat.lt_irrefl _)
 have cellK:∀x c,X.env.cells.lookup x=some c->∀v,s.heap.IsCell c v->h'.IsCell c v:=fun x c e v ⟨o,ho,hd⟩=>by
  have nch:c∉ch:=fun z=>(hch c z).2.2.1 x c e rfl
  by_cases hc:c∈X.fs
  ·obtain⟨sl,q⟩:=slot c o (I.cne x c e) hc nch ho (I.freeC x c e)
   exact⟨_,q,hd⟩
  ·exact⟨o,keep c o (I.cne x c e) hc nch ho (I.freeC x c e),hd⟩
 refine⟨I.ok,I.os,hg,⟨fun b o e n hb hx=>?_,fun b o e n hb hx=>?_,fun b o e n hx=>?_,fun b o e hx=>?_,fun b xs e=>tups b xs (I.base.tups b xs e),fun b o xs e=>frzs b o xs (I.base.frzs b o xs e),fun b ps e=>?_⟩,?_,fun x c e=>?_,?_,fun x c e=>?_,fun p hp=>?_,hok,I.len⟩
 ·exact keep b o (neL b o e) hb (neC b o e hx) (I.base.keep b o e n hb hx) (I.base.free b o e n hx)
 ·obtain⟨sl,e1⟩:=I.base.slot b o e n hb hx
  obtain⟨sl',e2⟩:=slot b _ (neL b o e) hb (neC b o e hx) e1 (I.base.free b o e n hx)
  exact⟨sl',e2⟩
 ·obtain⟨o',e1⟩:=I.base.there b o e hx
  exact free b o' (neC b o e hx) e1 (I.base.free b o e n hx)
 ·obtain⟨o',e1⟩:=I.base.there b o e hx
  exact there b o' (neC b o e hx) e1
 ·obtain⟨m1,e1⟩:=I.base.tbls b ps e
  obtain⟨m2,e2⟩:=tbls b _ e1
  exact⟨m1++m2,by rw[e2,Array.append_assoc]⟩
 ·obtain⟨m,hn,hl⟩:=I.loc
  refine⟨m,ns m hn,fun i x v e1 e2 e3=>?_⟩
  obtain⟨u,r,l⟩:=hl i x v e1 e2 e3
  refine⟨u,r,?_⟩
  rcases l with l|⟨k,c,e,z⟩
  ·exact .inl l
  ·exact .inr ⟨k,c,e,cellK x c e _ z⟩
 ·obtain⟨v,z⟩:=I.cell x c e
  exact⟨v,cellK x c e v z⟩
 ·obtain⟨m,⟨o,_,_,ho,_⟩,_⟩:=I.loc
  exact free _ o (fun z=>(hch _ z).2.1 rfl) ho I.free
 ·obtain⟨v,o,ho,hd⟩:=I.cell x c e
  exact free c o (fun z=>(hch c z).2.2.1 x c e rfl) ho (I.freeC x c e)
 ·obtain⟨e,n,ne,nf,d⟩:=I.pin p hp
  have nch:p.1∉ch:=fun z=>(hch p.1 z).2.2.2 p hp rfl
  exact⟨keep p.1 p.2 ne nf nch e n,free p.1 p.2 nch e n,ne,nf,d⟩
theorem Inv.un {t':Nat}(I:Inv X pins σ H s)(u:Un X.fs [] H H' s.heap h')(hok:HOk X.prog X.w H' h'):Inv X pins σ H' { s with heap:=h',toks:=t' }:=by
 obtain⟨m,⟨o,es,ep,ho,r⟩,_⟩:=id I.loc
 obtain⟨sl,hL⟩:=u.any ho I.free (by simp)
 exact I.step (g':=s.gens) (d':=s.drawn) (ch:=[]) (fun _ z=>nomatch z) (fun b o _ hb _ e n=>u.keep b o e n hb (by simp)) (fun b o _ hb _ e n=>u.slot b o e n hb (by simp)) (fun b o _ e n=>u.free b o e n (by simp)) (fun b o _ e=>u.there b o e (by simp)) u.tups u.frzs u.tbls (fun m' hm=>by
  obtain⟨o',es',ep',ho',r'⟩:=hm
  rw[ho] at ho';cases ho'
  exact⟨_,es',ep',hL,r'⟩) hok I.bare
theorem Inv.call {g':Array GenState}{t':Nat}{d':Drawn}{ch:List Addr}(I:Inv X pins σ H s)(u:Un (frs X.stack) ch H H' s.heap h')(hok:HOk X.prog X.w H' h')(hg:AllBare g')
  (hch:∀b∈ch,(b∈X.ex\/X.s₀.heap.objs.size<=b)/\b≠X.env.locals/\(∀x c,X.env.cells.lookup x=some c->c≠b)/\∀p∈X.pn++pins,p.1≠b):
  Inv X pins σ H' { s with heap:=h',gens:=g',drawn:=d',toks:=t' }:=by
 obtain⟨m,⟨o,es,ep,ho,r⟩,_⟩:=id I.loc
 obtain⟨sl,hL⟩:=u.any ho I.free fun z=>(hch _ z).2.1 rfl
 exact I.step (ch:=ch) hch (fun b o hL hb hc e n=>u.keep b o e n (fun z=>(List.mem_cons.mp (I.stkSub b z)).elim hL hb) hc) (fun b o _ _ hc e n=>u.any e n hc) (fun b o hc e n=>u.free b o e n hc) (fun b o hc e=>u.there b o e hc) u.tups u.frzs u.tbls (fun m' hm=>by
  obtain⟨o',es',ep',ho',r'⟩:=hm
  rw[ho] at ho';cases ho'
  exact⟨_,es',ep',hL,r'⟩) hok hg
theorem Inv.turned {t':Nat}{it:Addr}(I:Inv X pins σ H s)(k:∀b o,b≠it->s.heap.get? b=some o->h'.get? b=some o)(hn:H it=none)(hL:it≠X.env.locals)
  (h1:it∈X.ex\/X.s₀.heap.objs.size<=it) (h2:∀x c,X.env.cells.lookup x=some c->c≠it) (h3:∀p∈X.pn++pins,p.1≠it):Inv X pins σ H { s with heap:=h',toks:=t' }:=by
 have nit:∀b u,H b=some u->b≠it:=fun b u e z=>by rw[z,hn] at e;cases e
 refine I.step (g':=s.gens) (d':=s.drawn) (ch:=[it]) (fun b hb=>?_) (fun b o _ _ hc e _=>k b o (fun z=>hc (by simp[z])) e) (fun b o _ _ hc e _=>⟨o.slots,k b o (fun z=>hc (by simp[z])) e⟩) (fun _ _ _ _ n=>n)
  (fun b o hc e=>⟨o,k b o (fun z=>hc (by simp[z])) e⟩) (fun _ _ e=>e) (fun _ _ _ e=>e) (fun b ps e=>⟨#[],by rw[e];simp⟩) (fun m hm=>?_) (fun b u e=>?_) I.bare
 ·have e:b=it:=by simpa using hb
  subst e
  exact⟨h1,hL,h2,h3⟩
 ·obtain⟨o,es,ep,ho,r⟩:=hm
  exact⟨o,es,ep,k _ o (Ne.symm hL) ho,r⟩
 ·refine(I.hok b u e).stay (fun c v hc q=>k c v ?_ q) (fun _ q=>q) fun _ _ q=>q
  rcases hc with z|z
  ·rw[z];exact nit b u e
  ·exact nit c _ z
theorem Inv.tok (I:Inv X pins σ H s)(t:Nat):Inv X pins σ H { s with toks:=t }:=I.un (h':=s.heap) (t':=t) Un.refl I.hok
theorem Inv.kept {t':Nat}(I:Inv X pins σ H s)(k:∀b u,s.heap.get? b=some u->h'.get? b=some u):Inv X pins σ H { s with heap:=h',toks:=t' }:=I.un (Un.kept k) (I.hok.kept k)
theorem Inv.laid {a:Addr}{o:HO}{t':Nat}(I:Inv X pins σ H s)(k:∀b u,s.heap.get? b=some u->h'.get? b=some u)(hp:s.heap.objs.size<=a)(new:ObjOk X.prog X.w (upd H a o) h' a o):
  Inv X pins σ (upd H a o) { s with heap:=h',toks:=t' }:=I.un (Un.laid k hp (I.hok.fresh hp)) (I.hok.laid k hp new)
theorem Inv.write {x e:Addr}{o:HO}{t':Nat}(I:Inv X pins σ H s)(mu:Mut (H x))(he:e=x\/H e=some (.own x))(k:∀b u,b≠e->s.heap.get? b=some u->h'.get? b=some u)(heo:∃u,h'.get? e=some u)
  (new:ObjOk X.prog X.w (upd H x o) h' x o):Inv X pins σ (upd H x o) { s with heap:=h',toks:=t' }:=I.un (Un.write mu he k heo) (I.hok.write mu he k heo new)
theorem Inv.pins_of {pins':List (Addr×Obj)}(I:Inv X pins σ H s)(h:∀p∈pins',s.heap.get? p.1=some p.2/\H p.1=none/\p.1≠X.env.locals/\p.1∉X.fs/\∀v,p.2.data≠.cell v):Inv X pins' σ H s:=
 ⟨I.ok,I.os,I.bare,I.base,I.loc,I.cell,I.free,I.freeC,fun p hp=>(List.mem_append.mp hp).elim (fun z=>I.pin p (List.mem_append_left _ z)) (h p),I.hok,I.len⟩
theorem nodup_ix {N:List Str}(hN:N.Nodup){i j:Nat}{x:Str}(a:N[i]?=some x)(b:N[j]?=some x):i=j:=by
 obtain⟨h1,e1⟩:=List.getElem?_eq_some_iff.mp a
 obtain⟨h2,e2⟩:=List.getElem?_eq_some_iff.mp b
 exact(List.getElem_inj hN).mp (e1.trans e2.symm)
theorem store_ok2 {M:Model}{A:Around}{E:Value->Shared->Prop}{i:Nat}{x:Str}{v:V}{u:Value}{Q:Unit->Shared->Prop}(I:Inv X pins σ H s)(hN:X.N.Nodup)(hi:X.N[i]?=some x)(hx:Loc X.env.scope x)(r:RelV v u)
  (h:∀s',Inv X pins (σ.set i (some v)) H s'->(∃a,Heap.SameBut a s.heap s'.heap/\(a=X.env.locals\/X.env.cells.lookup x=some a))->Q () s') (hf:X.fn x=true\/X.env.scope.names.lookup x=some .local:=by first|exact .inl rfl|exact .inr rfl|assumption):wpAny M A (storeName X.env x u) Q E s:=by
 obtain⟨m,hn,hl⟩:=id I.loc
 have hcls:(X.env.scope.kind==.class||(X.env.scope.kind==.module&&X.env.locals !=X.env.globals))=false:=by rw[I.ok.kind];rfl
 have hiσ:i<σ.length:=by rw[I.len];exact(List.getElem?_eq_some_iff.mp hi).1
 have cne:=I.cne
 have tracked:∀{a:Addr} {h':Heap},(∃o,s.heap.get? a=some o/\H a=none)->Heap.SameBut a s.heap h'->HOk X.prog X.w H h':=fun {a h'} ha hs b ob e=>by
  obtain⟨_,_,hfree⟩:=ha
  refine(I.hok b ob e).stay (fun c w' hc q=>(hs.2 c ?_).trans q) (fun _ q=>q) fun _ _ q=>q
  rintro rfl
  rcases hc with rfl|hc
  ·rw[hfree] at e;cases e
  ·rw[hfree] at hc;cases hc
 rcases hx with hk|hk
 ·refine wpAny_storeName_local hk hn (fun h' hn' hs=>?_) hcls
  obtain⟨oL,_,_,hoL,_⟩:=id hn
  refine h _ ⟨I.ok,I.os,I.bare,⟨fun b o e n hb hx=>?_,fun b o e n hb hx=>?_,I.base.free,fun b o e hx=>?_,I.base.tups,I.base.frzs,I.base.tbls⟩,⟨_,hn',fun j y v' e1 e2 e3=>?_⟩,fun y c e=>?_,I.free,I.freeC,fun p hp=>?_,tracked ⟨oL,hoL,I.free⟩ hs,by simpa using I.len⟩ ⟨_,hs,.inl rfl⟩
  ·exact(hs.2 b (Nat.ne_of_lt (Nat.lt_of_lt_of_le (Heap.lt_size e) I.ok.above))).trans (I.base.keep b o e n hb hx)
  ·obtain⟨sl,e1⟩:=I.base.slot b o e n hb hx
   exact⟨sl,(hs.2 b (Nat.ne_of_lt (Nat.lt_of_lt_of_le (Heap.lt_size e) I.ok.above))).trans e1⟩
  ·obtain⟨o',e1⟩:=I.base.there b o e hx
   exact⟨o',(hs.2 b (Nat.ne_of_lt (Nat.lt_of_lt_of_le (Heap.lt_size e) I.ok.above))).trans e1⟩
  ·by_cases hj:j=i
   ·subst hj
    rw[hi] at e1;cases e1
    rw[List.getElem?_set_self hiσ] at e2
    cases e2
    exact⟨u,r,.inl ⟨hk,by simp⟩⟩
   ·rw[List.getElem?_set_ne (Ne.symm hj)] at e2
    obtain⟨u',r',q⟩:=hl j y v' e1 e2 e3
    refine⟨u',r',?_⟩
    rcases q with⟨k,e⟩|⟨k,c,e,z⟩
    ·refine .inl ⟨k,?_⟩
     have:y≠x:=fun e=>hj (nodup_ix hN e1 (e▸hi))
     simp[this,e]
    ·exact .inr ⟨k,c,e,z.sameBut hs (cne y c e)⟩
  ·obtain⟨w',z⟩:=I.cell y c e
   exact⟨w',z.sameBut hs (cne y c e)⟩
  ·obtain⟨e,n,ne,nf,d⟩:=I.pin p hp
   exact⟨(hs.2 p.1 ne).trans e,n,ne,nf,d⟩
 ·have hfn:X.fn x=true:=by
   rcases hf with z|z
   ·exact z
   ·rw[z] at hk;cases hk
  obtain⟨c,hc⟩:=I.ok.has x (.inl hk)
  obtain⟨w',z⟩:=I.cell x c hc
  refine wpAny_storeName_cell I.ok.kind hk hc z (fun h' hc' hs=>?_)
  obtain⟨oc,hoc,hocd⟩:=id z
  refine h { s with heap:=h' } ⟨I.ok,I.os,I.bare,⟨fun b o e n hb hx=>?_,fun b o e n hb hx=>?_,I.base.free,fun b o e hx=>?_,I.base.tups,I.base.frzs,I.base.tbls⟩,⟨m,hn.sameBut hs (Ne.symm (cne x c hc)),fun j y v' e1 e2 e3=>?_⟩,fun y c' e=>?_,I.free,I.freeC,fun p hp=>?_,tracked ⟨oc,hoc,I.freeC x c hc⟩ hs,by simpa using I.len⟩ ⟨c,hs,.inr hc⟩
  ·exact(hs.2 b (Nat.ne_of_lt (Nat.lt_of_lt_of_le (Heap.lt_size e) (I.ok.cab x c hfn hc)))).trans (I.base.keep b o e n hb hx)
  ·obtain⟨sl,e1⟩:=I.base.slot b o e n hb hx
   exact⟨sl,(hs.2 b (Nat.ne_of_lt (Nat.lt_of_lt_of_le (Heap.lt_size e) (I.ok.cab x c hfn hc)))).trans e1⟩
  ·obtain⟨o',e1⟩:=I.base.there b o e hx
   exact⟨o',(hs.2 b (Nat.ne_of_lt (Nat.lt_of_lt_of_le (Heap.lt_size e) (I.ok.cab x c hfn hc)))).trans e1⟩
  ·by_cases hj:j=i
   ·subst hj
    rw[hi] at e1;cases e1
    rw[List.getElem?_set_self hiσ] at e2
    cases e2
    exact⟨u,r,.inr ⟨.inl hk,c,hc,hc'⟩⟩
   ·rw[List.getElem?_set_ne (Ne.symm hj)] at e2
    obtain⟨u',r',q⟩:=hl j y v' e1 e2 e3
    refine⟨u',r',?_⟩
    rcases q with q|⟨k,c',e,z'⟩
    ·exact .inl q
    ·refine .inr ⟨k,c',e,z'.sameBut hs ?_⟩
     rintro rfl
     exact hj (nodup_ix hN e1 (I.ok.inj _ _ _ e hc▸hi))
  ·by_cases hcc:c'=c
   ·subst hcc;exact⟨_,hc'⟩
   ·obtain⟨w2,z2⟩:=I.cell y c' e
    exact⟨w2,z2.sameBut hs hcc⟩
  ·obtain⟨e,n,ne,nf,d⟩:=I.pin p hp
   refine⟨(hs.2 p.1 ?_).trans e,n,ne,nf,d⟩
   intro q
   rw[q,hoc] at e
   have q':oc=p.2:=Option.some.inj e
   exact d w' (by rw[<- q'];exact hocd)
theorem store_ok {M:Model}{A:Around}{E:Value->Shared->Prop}{i:Nat}{x:Str}{v:V}{u:Value}{Q:Unit->Shared->Prop}(I:Inv X pins σ H s)(hN:X.N.Nodup)(hi:X.N[i]?=some x)(hx:Loc X.env.scope x)(r:RelV v u)
  (h:∀s',Inv X pins (σ.set i (some v)) H s'->Q () s') (hf:X.fn x=true\/X.env.scope.names.lookup x=some .local:=by first|exact .inl rfl|exact .inr rfl|assumption):wpAny M A (storeName X.env x u) Q E s:=
 store_ok2 I hN hi hx r (fun s' I' _=>h s' I') hf
theorem Inv.call' {s':Shared}{ch:List Addr}(I:Inv X pins σ H s)(ho:s'.os=s.os)(u:Un (frs X.stack) ch H H' s.heap s'.heap)(hok:HOk X.prog X.w H' s'.heap)(hg:AllBare s'.gens)
  (hch:∀b∈ch,(b∈X.ex\/X.s₀.heap.objs.size<=b)/\b≠X.env.locals/\(∀x c,X.env.cells.lookup x=some c->c≠b)/\∀p∈X.pn++pins,p.1≠b):Inv X pins σ H' s':=by
 obtain⟨h',g',d',t',o'⟩:=s'
 have e:o'=s.os:=ho
 subst e
 exact I.call (g':=g') (t':=t') (d':=d') u hok hg hch
end
abbrev XK:=Value->Option Addr->Hp->Prop
abbrev St:=List (Option V)
abbrev VK:=V->Hp->Prop
abbrev TE:=St->Hp->VK->Prop
abbrev TT:=St->Hp->(Bool->Hp->Prop)->Prop
abbrev TA:=St->Hp->(List V->Hp->Prop)->Prop
structure Ends where
 nx:St->Hp->Prop
 rt:VK
 bk:St->Hp->Prop:=fun _ _=>False
 ct:St->Hp->Prop:=fun _ _=>False
abbrev TS:=Ends->St->Hp->Prop
def EP (X:Cx)(pins:List (Addr×Obj))(σ:St)(Q:VK)(u:Value)(s':Shared):Prop:=∃v H',Inv X pins σ H' s'/\RelV v u/\Q v H'
def TP (X:Cx)(pins:List (Addr×Obj))(σ:St)(Q:Bool->Hp->Prop)(b:Bool)(s':Shared):Prop:=∃H',Inv X pins σ H' s'/\Q b H'
def AP (X:Cx)(pins:List (Addr×Obj))(σ:St)(Q:List V->Hp->Prop)(us:List Value)(s':Shared):Prop:=∃vs H',Inv X pins σ H' s'/\Vals vs us/\Q vs H'
def SP (X:Cx)(pins:List (Addr×Obj))(D:Ends)(f:Flow)(s':Shared):Prop:=
 match f with
 |.next=>∃σ' H',Inv X pins σ' H' s'/\D.nx σ' H'
 |.brk=>∃σ' H',Inv X pins σ' H' s'/\D.bk σ' H'
 |.cont=>∃σ' H',Inv X pins σ' H' s'/\D.ct σ' H'
 |.ret u=>∃v σ' H',Inv X pins σ' H' s'/\RelV v u/\D.rt v H'
def PE (X:Cx)(e:Expr)(t:TE):Prop:=
 ∀(pins:List (Addr×Obj)) (s:Shared) (σ:St) (H:Hp) (Q:VK),Inv X pins σ H s->t σ H Q->wpAny (model X.prog X.w) X.A (eval e X.env) (EP X pins σ Q) X.xe s
def PT (X:Cx)(e:Expr)(t:TT):Prop:=
 ∀(pins:List (Addr×Obj)) (s:Shared) (σ:St) (H:Hp) (Q:Bool->Hp->Prop),Inv X pins σ H s->t σ H Q->wpAny (model X.prog X.w) X.A (isTrue e X.env (eval e X.env)) (TP X pins σ Q) X.xe s
def PW (X:Cx)(e:Expr)(t:TT):Prop:=
 ∀(whole:Sem Value) (pins:List (Addr×Obj)) (s:Shared) (σ:St) (H:Hp) (Q:Bool->Hp->Prop),Inv X pins σ H s->t σ H Q->wpAny (model X.prog X.w) X.A (isTrue e X.env whole) (TP X pins σ Q) X.xe s
theorem PW.pt {X:Cx}{e:Expr}{t:TT}(h:PW X e t):PT X e t:=h _
def PA (X:Cx)(es:List Expr)(t:TA):Prop:=
 ∀(pos:Pos) (pins:List (Addr×Obj)) (s:Shared) (σ:St) (H:Hp) (Q:List V->Hp->Prop),Inv X pins σ H s->t σ H Q->wpAny (model X.prog X.w) X.A (spliced (backTo pos (starEach es X.env))) (AP X pins σ Q) X.xe s
def PS (X:Cx)(st:Stmt)(t:TS):Prop:=
 ∀(pins:List (Addr×Obj)) (s:Shared) (σ:St) (H:Hp) (D:Ends),Inv X pins σ H s->t D σ H->wpAny (model X.prog X.w) X.A (exec st X.env) (SP X pins D) X.xe s
def PSs (X:Cx)(st:List Stmt)(t:TS):Prop:=
 ∀(pins:List (Addr×Obj)) (s:Shared) (σ:St) (H:Hp) (D:Ends),Inv X pins σ H s->t D σ H->wpAny (model X.prog X.w) X.A (execs st X.env) (SP X pins D) X.xe s
theorem thn {α:Type}{t:Sem α}{Q Q':α->Shared->Prop}{M:Model}{A:Around}{E:Value->Shared->Prop}{s:Shared}(h:wpAny M A t Q E s)(hQ:∀a s,Q a s->Q' a s):wpAny M A t Q' E s:=wpAny_mono h hQ fun _ _ x=>x
end L2
namespace L2
open PySem PySem.Spec PyProof.Rows
section
variable {X:Cx}
def tVar (i:Nat):TE:=fun σ H Q=>∃v,σ[i]?=some (some v)/\Q v H
def tC (v:V):TE:=fun _ H Q=>Q v H
theorem pe_var {i:Nat}{x:Str}{pos:Pos}(hN:X.N[i]?=some x)(hv:Vis X.env.scope x)(hd:(x==("__debug__":Str))=false:=by decide)(hcd:(x==("__classdict__":Str))=false:=by decide):PE X (.Name x pos) (tVar i):=by
 intro pins s σ H Q I h
 obtain⟨v,e,h⟩:=h
 obtain⟨m,hn,hl⟩:=I.loc
 obtain⟨u,r,l⟩:=hl i x v hN e hv
 have fin:EP X pins σ Q u s:=⟨v,H,I,r,h⟩
 rcases l with⟨hk,hm⟩|⟨hk,c,hc,hcell⟩
 ·exact wpAny_Name (wpAny_loadName_local I.ok.kind hk hn hm fin) hd
 ·rcases hk with hk|hk
  ·exact wpAny_Name (wpAny_loadName_cell I.ok.kind hk hc hcell fin) hd
  ·exact wpAny_Name (wpAny_loadName_free I.ok.kind hk hc hcell fin hcd) hd
theorem pe_int {i j pos}:PE X (.Constant (.int i) j pos) (tC (.int i)):=fun _ _ _ H _ I h=>wpAny_Constant_int ⟨.int i,H,I.tok _,⟨_,rfl⟩,h⟩
theorem pe_bl {b j pos}:PE X (.Constant (.bool b) j pos) (tC (.bl b)):=fun _ _ _ H _ I h=>Constant_bool ⟨.bl b,H,I,rfl,h⟩
theorem pe_non {j pos}:PE X (.Constant .none j pos) (tC .non):=fun _ _ _ H _ I h=>Constant_none ⟨.non,H,I,rfl,h⟩
theorem pe_str {x j pos}:PE X (.Constant (.str x) j pos) (tC (.str x)):=fun _ _ _ H _ I h=>Calls.Constant_str ⟨.str x,H,I.tok _,⟨_,rfl⟩,h⟩
def Gl (X:Cx)(x:Str):Prop:=X.env.kindOf x=some .globalImplicit
theorem ld_glob {E:Value->Shared->Prop}{pins:List (Addr×Obj)}{s:Shared}{σ:St}{H:Hp}{x:Str}{u:Value}{pos:Pos}{Q:Value->Shared->Prop}(I:Inv X pins σ H s)(hg:Gl X x)(hm:X.mg x=some u)(h:Q u s)
  (hd:(x==("__debug__":Str))=false:=by decide):wpAny (model X.prog X.w) X.A (eval (.Name x pos) X.env) Q E s:=
 Calls.Name_function_global I.ok.kind hg (Calls.loadGlobal_global (by rw[I.ok.glob];exact I.mod.glob.keeps I.bk) hm h) hd
theorem ld_blt {E:Value->Shared->Prop}{pins:List (Addr×Obj)}{s:Shared}{σ:St}{H:Hp}{x:Str}{u:Value}{pos:Pos}{Q:Value->Shared->Prop}(I:Inv X pins σ H s)(hg:Gl X x)(hm:X.mg x=none)(hv:bootBuiltins x=some u)(h:Q u s)
  (hn:x≠"__name__":=by decide) (hd:(x==("__debug__":Str))=false:=by decide):wpAny (model X.prog X.w) X.A (eval (.Name x pos) X.env) Q E s:=by
 obtain⟨mb,h1,h2⟩:=I.mod.blt
 exact Calls.Name_function_global I.ok.kind hg (Calls.loadGlobal_builtin (by rw[I.ok.glob];exact I.mod.glob.keeps I.bk) hm (by rw[I.ok.blt];exact h1.keeps I.bk) ((h2 x hn).trans hv) h) hd
theorem pe_glob {x:Str}{v:V}{u:Value}{pos:Pos}(hg:Gl X x)(hm:X.mg x=some u)(r:RelV v u)(hd:(x==("__debug__":Str))=false:=by decide):PE X (.Name x pos) (tC v):=
 fun _ _ _ H _ I h=>ld_glob I hg hm ⟨v,H,I,r,h⟩ hd
theorem pe_bltn {x:Str}{v:V}{u:Value}{pos:Pos}(hg:Gl X x)(hm:X.mg x=none)(hv:bootBuiltins x=some u)(r:RelV v u)(hn:x≠"__name__":=by decide)(hd:(x==("__debug__":Str))=false:=by decide):PE X (.Name x pos) (tC v):=
 fun _ _ _ H _ I h=>ld_blt I hg hm hv ⟨v,H,I,r,h⟩ hn hd
variable {a b:Expr} {ta tb:TE} {pos:Pos}
def PC (X:Cx)(op:CmpOp)(a b:Expr)(t:TE):Prop:=
 ∀(pins:List (Addr×Obj)) (s:Shared) (σ:St) (H:Hp) (Q:VK),Inv X pins σ H s->t σ H Q→
  wpAny (model X.prog X.w) X.A (eval a X.env) (fun v s₁=>wpAny (model X.prog X.w) X.A (eval b X.env) (fun u s₂=>wpAny (model X.prog X.w) X.A (compareOp op v u) (EP X pins σ Q) X.xe s₂) X.xe s₁) X.xe s
theorem nobehind (b:Expr){op:CmpOp}(h:op≠.In)(h2:op≠.NotIn):behindInMarks op b=false:=by
 have e1:(op==CmpOp.In)=false:=by cases op<;>first|rfl|exact absurd rfl h
 have e2:(op==CmpOp.NotIn)=false:=by cases op<;>first|rfl|exact absurd rfl h2
 cases b<;>simp[behindInMarks,e1,e2]
def tIsN (ta:TE):TE:=fun σ H Q=>ta σ H fun x H1=>Q (.bl (decide (x=.non))) H1
def tNotN (ta:TE):TE:=fun σ H Q=>ta σ H fun x H1=>Q (.bl (!decide (x=.non))) H1
theorem RelV.none_iff {x:V}{v:Value}(r:RelV x v):(v==Value.none)=decide (x=.non):=by
 cases x with
 |non=>cases r;rfl
 |bl _=>cases r;rfl
 |int _=>obtain⟨t,rfl⟩:=r;rfl
 |str _=>obtain⟨t,rfl⟩:=r;rfl
 |byt _=>obtain⟨t,rfl⟩:=r;rfl
 |flt _=>obtain⟨t,rfl⟩:=r;rfl
 |ref _=>cases r;rfl
 |ty _=>cases r;rfl
theorem pc_isN {j pos'}(ha:PE X a ta):PC X .Is a (.Constant .none j pos') (tIsN ta):=by
 intro pins s σ H Q I h
 refine thn (ha pins s σ H _ I h) fun v s1 hq9=>?_
 obtain⟨x,H1,I1,r1,q1⟩:=hq9
 exact Constant_none (is_none_gen ⟨.bl _,H1,I1,by rw[r1.none_iff];rfl,q1⟩)
theorem pc_notN {j pos'}(ha:PE X a ta):PC X .IsNot a (.Constant .none j pos') (tNotN ta):=by
 intro pins s σ H Q I h
 refine thn (ha pins s σ H _ I h) fun v s1 hq9=>?_
 obtain⟨x,H1,I1,r1,q1⟩:=hq9
 exact Constant_none (isnot_none_gen ⟨.bl _,H1,I1,by rw[r1.none_iff];rfl,q1⟩)
def tB (t:TE):TT:=fun σ H Q=>t σ H fun x H1=>∃c,x=.bl c/\Q c H1
theorem pe_cmp {op:CmpOp}{t:TE}(h:PC X op a b t)(h1:behindInMarks op b=false:=by first|exact nobehind _ (by decide) (by decide)|rfl):PE X (.Compare a [op] [b] pos) t:=fun pins s σ H Q I hw=>wpAny_Compare1 (h pins s σ H Q I hw) h1
theorem pt_cmp {op:CmpOp}{t:TE}(h:PC X op a b t)(h1:behindInMarks op b=false:=by first|exact nobehind _ (by decide) (by decide)|rfl):PT X (.Compare a [op] [b] pos) (tB t):=by
 intro pins s σ H Q I hw
 refine wpAny_isTrue_Compare1 (thn (h pins s σ H _ I hw) fun v s1 h1=>thn h1 fun u s2 h2=>thn h2 fun c s3 ⟨x,H1,I1,r1,q1⟩=>?_) h1
 obtain⟨d,rfl,q⟩:=q1
 cases r1
 exact wpAny_truthy_bool ⟨H1,I1,q⟩
theorem pt_val {e:Expr}{t:TE}(h:PE X e t)(he:∀whole,isTrue e X.env whole=(do let v ← whole;standAt e.pos;holding [v] (truthy v)):=by intro _;rfl):PT X e (tB t):=by
 intro pins s σ H Q I hw
 refine isTrue_plain (thn (h pins s σ H _ I hw) fun v s1 ⟨x,H1,I1,r1,q1⟩=>?_) (he _)
 obtain⟨d,rfl,q⟩:=q1
 cases r1
 exact wpAny_truthy_bool ⟨H1,I1,q⟩
variable {tA tB':TT} {rest:List Expr}
def tAnd (t u:TT):TT:=fun σ H Q=>t σ H fun c H1=>if c=true then u σ H1 Q else Q false H1
def tOr (t u:TT):TT:=fun σ H Q=>t σ H fun c H1=>if c=true then Q true H1 else u σ H1 Q
def tNot (t:TT):TT:=fun σ H Q=>t σ H fun c H1=>Q (!c) H1
theorem pw_and1 (ha:PT X a tA):PW X (.BoolOp .And [a] pos) tA:=by
 intro wh pins s σ H Q I h
 refine isTrue_and (thn (ha pins s σ H Q I h) fun c s1 e=>?_)
 cases c with
 |true=>exact isTrue_and_nil e
 |false=>exact e
theorem pw_or1 (ha:PT X a tA):PW X (.BoolOp .Or [a] pos) tA:=by
 intro wh pins s σ H Q I h
 refine isTrue_or (thn (ha pins s σ H Q I h) fun c s1 e=>?_)
 cases c with
 |false=>exact isTrue_or_nil e
 |true=>exact e
theorem pw_and (ha:PT X a tA)(hb:PW X (.BoolOp .And (b::rest) pos) tB'):PW X (.BoolOp .And (a::b::rest) pos) (tAnd tA tB'):=by
 intro wh pins s σ H Q I h
 refine isTrue_and (thn (ha pins s σ H _ I h) fun c s1 ⟨H1,I1,q1⟩=>?_)
 cases c with
 |true=>exact hb wh pins s1 σ H1 Q I1 q1
 |false=>exact⟨H1,I1,q1⟩
theorem pw_or (ha:PT X a tA)(hb:PW X (.BoolOp .Or (b::rest) pos) tB'):PW X (.BoolOp .Or (a::b::rest) pos) (tOr tA tB'):=by
 intro wh pins s σ H Q I h
 refine isTrue_or (thn (ha pins s σ H _ I h) fun c s1 ⟨H1,I1,q1⟩=>?_)
 cases c with
 |true=>exact⟨H1,I1,q1⟩
 |false=>exact hb wh pins s1 σ H1 Q I1 q1
theorem pt_not (ha:PT X a tA):PT X (.UnaryOp .Not a pos) (tNot tA):=by
 intro pins s σ H Q I h
 exact isTrue_not (ha pins s σ H (fun c H1=>Q (!c) H1) I h)
def tAndV (ta tb:TE):TE:=fun σ H Q=>ta σ H fun x H1=>∃c,x=.bl c/\if c=true then tb σ H1 Q else Q (.bl false) H1
def tOrV (ta tb:TE):TE:=fun σ H Q=>ta σ H fun x H1=>∃c,x=.bl c/\if c=true then Q (.bl true) H1 else tb σ H1 Q
def tNotV (ta:TE):TE:=fun σ H Q=>ta σ H fun x H1=>∃c,x=.bl c/\Q (.bl (!c)) H1
theorem pe_one {op}{t:TE}(h:PE X a t):PE X (.BoolOp op [a] pos) t:=fun pins s σ H Q I hw=>BoolOp_one (h pins s σ H Q I hw)
theorem pe_and (ha:PE X a ta)(hb:PE X (.BoolOp .And (b::rest) pos) tb):PE X (.BoolOp .And (a::b::rest) pos) (tAndV ta tb):=by
 intro pins s σ H Q I h
 refine BoolOp_and (thn (ha pins s σ H _ I h) fun v s1 ⟨x,H1,I1,r1,q1⟩=>?_)
 obtain⟨c,rfl,q1⟩:=q1
 cases r1
 refine wpAny_truthy_bool ?_
 cases c with
 |true=>exact hb pins s1 σ H1 Q I1 q1
 |false=>exact⟨.bl false,H1,I1,rfl,q1⟩
theorem pe_or (ha:PE X a ta)(hb:PE X (.BoolOp .Or (b::rest) pos) tb):PE X (.BoolOp .Or (a::b::rest) pos) (tOrV ta tb):=by
 intro pins s σ H Q I h
 refine BoolOp_or (thn (ha pins s σ H _ I h) fun v s1 ⟨x,H1,I1,r1,q1⟩=>?_)
 obtain⟨c,rfl,q1⟩:=q1
 cases r1
 refine wpAny_truthy_bool ?_
 cases c with
 |false=>exact hb pins s1 σ H1 Q I1 q1
 |true=>exact⟨.bl true,H1,I1,rfl,q1⟩
theorem pe_not (ha:PE X a ta):PE X (.UnaryOp .Not a pos) (tNotV ta):=by
 intro pins s σ H Q I h
 refine UnaryOp_ (thn (ha pins s σ H _ I h) fun v s1 ⟨x,H1,I1,r1,q1⟩=>?_)
 obtain⟨c,rfl,q1⟩:=q1
 cases r1
 exact not_of (wpAny_truthy_bool ⟨.bl (!c),H1,I1,rfl,q1⟩)
def tIf (t:TT)(ta tb:TE):TE:=fun σ H Q=>t σ H fun c H1=>if c=true then ta σ H1 Q else tb σ H1 Q
theorem pe_ifExp {c:Expr}(hc:PT X c tA)(ha:PE X a ta)(hb:PE X b tb):PE X (.IfExp c a b pos) (tIf tA ta tb):=by
 intro pins s σ H Q I h
 refine wpAny_IfExp (thn (hc pins s σ H _ I h) fun d s1 ⟨H1,I1,q1⟩=>?_)
 cases d with
 |true=>exact ha pins s1 σ H1 Q I1 q1
 |false=>exact hb pins s1 σ H1 Q I1 q1
end
end L2
namespace L2
open PySem PySem.Spec PyProof.Rows
def SqL (K:W.Frag)(H:Hp)(a:Addr)(xs:List V):Prop:=
 Rd H a (.lst xs)∨
  ∃(o:Obj) (its:Array Value) (n:Nat),K.lookup a=some o/\o.cls=.type "list"/\o.dict=none/\o.data=.seq its n/\its.size<=sizeLine/\Vals xs its.toList
def SqT (K:W.Frag)(H:Hp)(a:Addr)(xs:List V):Prop:=
 Rd H a (.tup xs)∨
  ∃(o:Obj) (its:Array Value) (n:Nat),K.lookup a=some o/\o.cls=.type "tuple"/\o.data=.seq its n/\its.size<=sizeLine/\Vals xs its.toList
def absV:Value->Option V
 |.none=>some .non
 |.bool b=>some (.bl b)
 |.int i _=>some (.int i)
 |.str x _=>some (.str x)
 |.bytes b _=>some (.byt b)
 |.float b _=>some (.flt b)
 |.ref a=>some (.ref a)
 |.type n=>some (.ty n)
 |_=>none
theorem RelV.abs {x:V}{u:Value}(r:RelV x u):absV u=some x:=by
 cases x with
 |non=>cases r;rfl
 |bl _=>cases r;rfl
 |int _=>obtain⟨t,rfl⟩:=r;rfl
 |str _=>obtain⟨t,rfl⟩:=r;rfl
 |byt _=>obtain⟨t,rfl⟩:=r;rfl
 |flt _=>obtain⟨t,rfl⟩:=r;rfl
 |ref _=>cases r;rfl
 |ty _=>cases r;rfl
theorem RelV.inj {x y:V}{u:Value}(r:RelV x u)(q:RelV y u):x=y:=Option.some.inj (r.abs.symm.trans q.abs)
theorem Vals.inj:∀{xs ys:List V} {us:List Value},Vals xs us->Vals ys us->xs=ys
 |_,_,_,.nil,.nil=>rfl
 |_,_,_,.cons r t,.cons r' t'=>by rw[r.inj r',Vals.inj t t']
section
variable {X:Cx} {pins:List (Addr×Obj)} {σ:St} {H:Hp} {s:Shared} {a:Addr} {xs ys:List V}
theorem SqL.of {K:W.Frag}(h:H a=some (.lst xs)):SqL K H a xs:=.inl (.inl h)
theorem SqT.of {K:W.Frag}(h:H a=some (.tup xs)):SqT K H a xs:=.inl (.inl h)
theorem Inv.list (I:Inv X pins σ H s)(h:SqL X.K H a xs):∃its:List Value,Vals xs its/\PlainL s.heap a its.toArray/\xs.length<=sizeLine:=by
 rcases h with h|⟨o,its,n,hk,hc,hd,hs,hz,r⟩
 ·obtain⟨z,its,n,r,e⟩:=h.ok I.hok
  exact⟨its,r,⟨_,n,e,rfl,rfl,rfl⟩,z⟩
 ·refine⟨its.toList,r,⟨o,n,I.kIn a o hk,hc,hd,by simpa using hs⟩,?_⟩
  have e:=r.length
  simp only[Array.length_toList] at e
  omega
theorem Inv.tuple (I:Inv X pins σ H s)(h:SqT X.K H a xs):∃its:List Value,Vals xs its/\IsTup s.heap a its.toArray/\xs.length<=sizeLine:=by
 rcases h with h|⟨o,its,n,hk,hc,hs,hz,r⟩
 ·obtain⟨z,its,r,p⟩:=h.ok I.hok
  exact⟨its,r,p,z⟩
 ·refine⟨its.toList,r,⟨o,I.kIn a o hk,hc,n,by simpa using hs⟩,?_⟩
  have e:=r.length
  simp only[Array.length_toList] at e
  omega
theorem Inv.list_inj (I:Inv X pins σ H s)(h:SqL X.K H a xs)(h':SqL X.K H a ys):xs=ys:=by
 obtain⟨its,r,⟨o,n,e,_,_,d⟩,_⟩:=I.list h
 obtain⟨its',r',⟨o',n',e',_,_,d'⟩,_⟩:=I.list h'
 rw[e] at e';cases e'
 rw[d] at d'
 injection d' with d1 _
 have:its=its':=by simpa using congrArg Array.toList d1
 subst this
 exact r.inj r'
theorem Inv.tuple_inj (I:Inv X pins σ H s)(h:SqT X.K H a xs)(h':SqT X.K H a ys):xs=ys:=by
 obtain⟨its,r,⟨o,e,_,n,d⟩,_⟩:=I.tuple h
 obtain⟨its',r',⟨o',e',_,n',d'⟩,_⟩:=I.tuple h'
 rw[e] at e';cases e'
 rw[d] at d'
 injection d' with d1 _
 have:its=its':=by simpa using congrArg Array.toList d1
 subst this
 exact r.inj r'
end
abbrev Cx.wish (X:Cx)(E:Value->Shared->Prop):Cx:={ X with xe:=E }
abbrev Cx.nox (X:Cx):Cx:=X.wish fun _ _=>False
theorem Cx.Ok.wish {X:Cx}(ok:X.Ok)(E:Value->Shared->Prop):(X.wish E).Ok:=
 ⟨ok.mod,ok.kind,ok.glob,ok.blt,ok.above,ok.inj,ok.has,ok.cab,ok.hd,ok.frames,ok.stk,ok.exf,ok.bs,ok.bsz,ok.noex,ok.exfs,ok.funs,ok.frf⟩
theorem Cx.Ok.unwish {X:Cx}{E:Value->Shared->Prop}(ok:(X.wish E).Ok):X.Ok:=
 ⟨ok.mod,ok.kind,ok.glob,ok.blt,ok.above,ok.inj,ok.has,ok.cab,ok.hd,ok.frames,ok.stk,ok.exf,ok.bs,ok.bsz,ok.noex,ok.exfs,ok.funs,ok.frf⟩
section
variable {X:Cx} {pins:List (Addr×Obj)} {σ:St} {H:Hp} {s:Shared} {E:Value->Shared->Prop}
theorem Inv.wish (I:Inv X pins σ H s)(E:Value->Shared->Prop):Inv (X.wish E) pins σ H s:=⟨I.ok.wish E,I.os,I.bare,I.base,I.loc,I.cell,I.free,I.freeC,I.pin,I.hok,I.len⟩
theorem Inv.unwish (I:Inv (X.wish E) pins σ H s):Inv X pins σ H s:=⟨I.ok.unwish,I.os,I.bare,I.base,I.loc,I.cell,I.free,I.freeC,I.pin,I.hok,I.len⟩
theorem SP.unwish {D:Ends}{f:Flow}{s':Shared}(h:SP (X.wish E) pins D f s'):SP X pins D f s':=by
 cases f with
 |next=>obtain⟨σ',H',I,q⟩:=h;exact⟨σ',H',I.unwish,q⟩
 |brk=>obtain⟨σ',H',I,q⟩:=h;exact⟨σ',H',I.unwish,q⟩
 |cont=>obtain⟨σ',H',I,q⟩:=h;exact⟨σ',H',I.unwish,q⟩
 |ret u=>obtain⟨v,σ',H',I,r,q⟩:=h;exact⟨v,σ',H',I.unwish,r,q⟩
theorem PSs.nox {st:List Stmt}{t:TS}(h:PSs X.nox st t):PSs X st t:=fun pins s σ H D I hw=>
 wpAny_mono (h pins s σ H D (I.wish _) hw) (fun _ _ q=>q.unwish) fun _ _ z=>False.elim z
end
section
variable {X:Cx} {st:Stmt} {rest:List Stmt} {t u:TS} {e:Expr} {te:TE} {pos:Pos}
def tNext:TS:=fun D σ H=>D.nx σ H
def tSeq (t u:TS):TS:=fun D σ H=>t { D with nx:=u D } σ H
theorem pss_nil:PSs X [] tNext:=fun _ _ σ H _ I h=>wpAny_execs_nil ⟨σ,H,I,h⟩
theorem pss_cons (h1:PS X st t)(h2:PSs X rest u):PSs X (st::rest) (tSeq t u):=by
 intro pins s σ H D I h
 refine wpAny_execs_cons (thn (h1 pins s σ H { D with nx:=u D } I h) fun f s1 q=>?_)
 cases f with
 |next=>
  obtain⟨σ',H',I',q⟩:=q
  exact h2 pins s1 σ' H' D I' q
 |ret v=>exact q
 |brk=>exact q
 |cont=>exact q
theorem pss_one (h1:PS X st t):PSs X [st] t:=by
 intro pins s σ H D I h
 refine wpAny_execs_cons (thn (h1 pins s σ H D I h) fun f s1 q=>?_)
 cases f with
 |next=>exact wpAny_execs_nil q
 |ret v=>exact q
 |brk=>exact q
 |cont=>exact q
theorem Inv.quiet {pins:List (Addr×Obj)}{σ:St}{H:Hp}{s:Shared}(I:Inv X pins σ H s):interactive X.env=false:=by simp[interactive,I.ok.kind]
def tDrop (te:TE):TS:=fun D σ H=>te σ H fun _ H1=>D.nx σ H1
theorem ps_expr (he:PE X e te)(hs:swapsWith e none pos.line X.env=pure false:=by rfl):PS X (.Expr e pos) (tDrop te):=by
 intro pins s σ H D I h
 exact wpAny_Expr_any (thn (he pins s σ H _ I h) fun v s1 ⟨x,H1,I1,r1,q1⟩=>⟨σ,H1,I1,q1⟩) I.quiet hs
def tRet (te:TE):TS:=fun D σ H=>te σ H D.rt
theorem ps_ret (he:PE X e te):PS X (.Return (some e) pos) (tRet te):=by
 intro pins s σ H D I h
 exact wpAny_Return_some (thn (he pins s σ H _ I h) fun v s1 ⟨x,H1,I1,r1,q1⟩=>⟨x,σ,H1,I1,r1,q1⟩)
def tIfS (c:TT)(t u:TS):TS:=fun D σ H=>c σ H fun b H1=>if b=true then t D σ H1 else u D σ H1
theorem ps_if {c:Expr}{a b:List Stmt}{tc:TT}(hc:PT X c tc)(ha:PSs X a t)(hb:PSs X b u):PS X (.If c a b pos) (tIfS tc t u):=by
 intro pins s σ H D I h
 refine wpAny_If (thn (hc pins s σ H _ I h) fun d s1 ⟨H1,I1,q1⟩=>?_)
 cases d with
 |true=>exact ha pins s1 σ H1 D I1 q1
 |false=>exact hb pins s1 σ H1 D I1 q1
def tNever:TS:=fun _ _ _=>False
theorem pss_never {sts:List Stmt}:PSs X sts tNever:=fun _ _ _ _ _ _ h=>h.elim
end
abbrev TG:=V->St->Hp->(St->Hp->Prop)->Prop
abbrev TGs:=List V->St->Hp->(St->Hp->Prop)->Prop
def PG (X:Cx)(target:Expr)(t:TG):Prop:=
 ∀(pins:List (Addr×Obj)) (s:Shared) (σ:St) (H:Hp) (v:V) (u:Value) (Q:St->Hp->Prop),Inv X pins σ H s->RelV v u->t v σ H Q→
  wpAny (model X.prog X.w) X.A (assign target X.env u) (fun _ s'=>∃σ' H',Inv X pins σ' H' s'/\Q σ' H') X.xe s
def PGs (X:Cx)(ts:List Expr)(t:TGs):Prop:=
 ∀(pins:List (Addr×Obj)) (s:Shared) (σ:St) (H:Hp) (vs:List V) (us:List Value) (Q:St->Hp->Prop),Inv X pins σ H s->Vals vs us->t vs σ H Q→
  wpAny (model X.prog X.w) X.A (assignInOrder ((assignEach ts X.env).map (·.2)) us) (fun _ s'=>∃σ' H',Inv X pins σ' H' s'/\Q σ' H') X.xe s
abbrev TSet:=V->V->V->Hp->(Hp->Prop)->Prop
def PSet (X:Cx)(t:TSet):Prop:=
 ∀(pins:List (Addr×Obj)) (s:Shared) (σ:St) (H:Hp) (o i v:V) (ov iv u:Value) (Q:Hp->Prop),Inv X pins σ H s->RelV o ov->RelV i iv->RelV v u->t o i v H Q→
  wpAny (model X.prog X.w) X.A (setItem ov iv u) (fun _ s'=>∃H',Inv X pins σ H' s'/\Q H') X.xe s
section
variable {X:Cx} {pos:Pos}
def gName (i:Nat):TG:=fun v σ H Q=>Q (σ.set i (some v)) H
theorem pg_name {i:Nat}{x:Str}(hN:X.N.Nodup)(hi:X.N[i]?=some x)(hx:Loc X.env.scope x)(hf:X.fn x=true\/X.env.scope.names.lookup x=some .local:=by first|exact .inl rfl|exact .inr rfl|assumption):PG X (.Name x pos) (gName i):=by
 intro pins s σ H v u Q I r h
 exact wpAny_assign_Name (store_ok I hN hi hx r (fun s' I'=>⟨_,H,I',h⟩) hf)
def gNil:TGs:=fun vs σ H Q=>vs=[]/\Q σ H
def gCons (t:TG)(u:TGs):TGs:=fun vs σ H Q=>∃v r,vs=v::r/\t v σ H fun σ' H'=>u r σ' H' Q
theorem pgs_nil:PGs X [] gNil:=by
 intro pins s σ H vs us Q I r h
 obtain⟨e,h⟩:=h
 subst e
 cases r
 exact assignInOrder_nil ⟨σ,H,I,h⟩
theorem pgs_cons {e:Expr}{es:List Expr}{t:TG}{u:TGs}(h1:PG X e t)(h2:PGs X es u)
  (hs:(assignEach (e::es) X.env).map (·.2)=assign e X.env::(assignEach es X.env).map (·.2):=by rfl):PGs X (e::es) (gCons t u):=by
 intro pins s σ H vs us Q I r h
 obtain⟨v,vr,e1,h⟩:=h
 subst e1
 cases r with
 |cons r rr=>
  rw[hs]
  refine assignInOrder_cons (thn (h1 pins s σ H _ _ _ I r h) fun _ s1 ⟨σ1,H1,I1,q1⟩=>?_)
  exact h2 pins s1 σ1 H1 _ _ Q I1 rr q1
def gTup (K:W.Frag)(n:Nat)(t:TGs):TG:=fun v σ H Q=>∃a xs,v=.ref a/\SqT K H a xs/\xs.length=n/\t xs σ H Q
theorem pg_tup {es:List Expr}{k:Nat}{t:TGs}{n:Nat}(hc:X.calm=true)(h:PGs X es t)
  (hn:(assignEach es X.env).length=n:=by rfl) (hst:(assignEach es X.env).findIdx? (·.1)=none:=by rfl):PG X (.Tuple es k pos) (gTup X.K n t):=by
 intro pins s σ H v u Q I r hw
 obtain⟨a,xs,e1,hq,hl,hw⟩:=hw
 subst e1
 cases r
 obtain⟨its,rv,ht,hz⟩:=I.tuple hq
 refine assign_Tuple_tuple (I.ok.hd hc) ht (by simp[hn,<- hl,rv.length]) hst fun h' hx=>?_
 have I1:Inv X pins σ H { s with heap:=h' }:=I.kept (t':=s.toks) fun b o e=>hx b o (Nat.ne_of_lt (Heap.lt_size e)) e
 exact h pins _ σ H xs _ Q I1 (by simpa using rv) hw
def gSub (to ti:TE)(t:TSet):TG:=fun v σ H Q=>to σ H fun o H1=>ti σ H1 fun i H2=>t o i v H2 fun H3=>Q σ H3
theorem pg_sub {o i:Expr}{to ti:TE}{t:TSet}(ho:PE X o to)(hi:PE X i ti)(hs:PSet X t)
  (ha:∀v,assign (.Subscript o i pos) X.env v=(do
   let ov ← holding [v] (eval o X.env)
   let iv ← holding [v,ov] (eval i X.env)
   standAt pos
   holding [v,ov,iv] (setItem ov iv v)
   release [v,ov,iv] []):=by intro _;rfl):PG X (.Subscript o i pos) (gSub to ti t):=by
 intro pins s σ H v u Q I r h
 rw[ha]
 refine wpAny_bind (wpAny_holding (thn (ho pins s σ H _ I h) fun ov s1 ⟨x,H1,I1,r1,q1⟩=>?_))
 refine wpAny_bind (wpAny_holding (thn (hi pins s1 σ H1 _ I1 q1) fun iv s2 ⟨y,H2,I2,r2,q2⟩=>?_))
 refine wpAny_bind (wpAny_standAt (wpAny_bind (wpAny_holding (thn (hs pins s2 σ H2 x y v ov iv u _ I2 r1 r2 r q2) fun _ s3 ⟨H3,I3,q3⟩=>?_))))
 exact wpAny_release ⟨σ,H3,I3,q3⟩
def tAsg (te:TE)(g:TG):TS:=fun D σ H=>te σ H fun x H1=>g x σ H1 D.nx
theorem ps_asg {tg e:Expr}{te:TE}{g:TG}(he:PE X e te)(hg:PG X tg g)(hs:swapsWithSole [tg] e pos.line X.env=pure false:=by rfl)(hw:swappedStores [tg] e X.env=pure none:=by rfl)
  (h1:(assignEach [tg] X.env).map (·.2)=[assign tg X.env]:=by rfl):PS X (.Assign [tg] e pos) (tAsg te g):=by
 intro pins s σ H D I h
 refine wpAny_Assign_stores (thn (he pins s σ H _ I h) fun v s1 ⟨x,H1,I1,r1,q1⟩=>?_) hs hw
 rw[h1]
 exact thn (hg pins s1 σ H1 x v _ I1 r1 q1) fun _ s2 q=>q
theorem ps_set {i:Nat}{x:Str}{e:Expr}{te:TE}{pos':Pos}(hN:X.N.Nodup)(hi:X.N[i]?=some x)(hx:Loc X.env.scope x)(he:PE X e te)(hs:swapsWith e (some (.Name x pos')) pos.line X.env=pure false:=by rfl)(hf:X.fn x=true\/X.env.scope.names.lookup x=some .local:=by first|exact .inl rfl|exact .inr rfl|assumption):
  PS X (.Assign [.Name x pos'] e pos) (tAsg te (gName i)):=by
 intro pins s σ H D I h
 refine wpAny_Assign_Name (thn (he pins s σ H _ I h) fun v s1 ⟨y,H1,I1,r1,q1⟩=>?_) hs
 exact store_ok I1 hN hi hx r1 (fun s2 I2=>⟨_,H1,I2,q1⟩) hf
end
structure It where
 go:Nat->Hp->Prop
 yld:Nat->Hp->V->Hp->Prop
 stop:Nat->Hp->Prop
def FpOk (X:Cx)(pins:List (Addr×Obj))(H:Hp)(b:Addr):Prop:=
 H b=none/\b≠X.env.locals/\b∉X.fs/\(b∈X.ex\/X.s₀.heap.objs.size<=b)/\(∀x c,X.env.cells.lookup x=some c->c≠b)/\∀p∈X.pn++pins,p.1≠b
theorem Inv.fpOk {X:Cx}{pins:List (Addr×Obj)}{σ:St}{H H':Hp}{s:Shared}{b:Addr}(I:Inv X pins σ H s)(hb:s.heap.objs.size<=b)(hn:H' b=none):FpOk X pins H' b:=by
 refine⟨hn,Nat.ne_of_gt (Nat.lt_of_lt_of_le I.lt hb),I.nofs hb,.inr (Nat.le_trans I.sz hb),fun x c e z=>?_,fun p hp z=>?_⟩
 ·obtain⟨v,q⟩:=I.cell x c e
  exact absurd (Nat.lt_of_lt_of_le q.lt (by rw[z];exact hb)) (Nat.lt_irrefl _)
 ·exact absurd (Nat.lt_of_lt_of_le (Heap.lt_size (I.pin p hp).1) (by rw[z];exact hb)) (Nat.lt_irrefl _)
structure Turn (P:Program)(w:World)(K:W.Frag)(tg:Expr)(J:It)(fp:List Addr)(it:Addr)(tn:Nat->Heap->Prop):Prop where
 mem:it∈fp
 obj:∀i h,tn i h->∀b∈fp,∃o,h.get? b=some o/\∀v,o.data≠.cell v
 keep:∀i h h',tn i h->(∀b∈fp,∀o,h.get? b=some o->h'.get? b=some o)->tn i h'
 item:∀(X:Cx),X.prog=P->X.w=w->X.K=K->X.calm=true->∀(i:Nat) (pins:List (Addr×Obj)) (s:Shared) (σ:St) (H:Hp) (E:Value->Shared->Prop),Inv X pins σ H s->(∀b∈fp,FpOk X pins H b)->tn i s.heap->J.go i H→
  wpAny (model P w) X.A (pyNext (.ref it)) (fun r s1=>∃u,r=some u∧
   wpAny (model P w) X.A (letOwnedTupleGo tg (.ref it) u) (fun _ s2=>∃x H',Inv X pins σ H' s2/\RelV x u/\J.yld i H x H'/\tn (i+1) s2.heap/\∀b∈fp,H' b=none) E s1) E s
 done:∀(X:Cx),X.prog=P->X.w=w->X.K=K->X.calm=true->∀(i:Nat) (pins:List (Addr×Obj)) (s:Shared) (σ:St) (H:Hp) (E:Value->Shared->Prop),Inv X pins σ H s->(∀b∈fp,FpOk X pins H b)->tn i s.heap->J.stop i H→
  wpAny (model P w) X.A (pyNext (.ref it)) (fun r s1=>r=none/\Inv X pins σ H s1) E s
 self:∀(A:Around) (i:Nat) (s:Shared) (Q:Value->Shared->Prop) (E:Value->Shared->Prop),tn i s.heap->Q (.ref it) s->wpAny (model P w) A (pyIter (.ref it)) Q E s
abbrev TI:=St->Hp->(It->Hp->Prop)->Prop
def PIE (X:Cx)(pins:List (Addr×Obj))(σ:St)(tg:Expr)(R:It->Hp->Prop)(itv:Value)(s2:Shared):Prop:=
 ∃(it:Addr) (fp:List Addr) (tn:Nat->Heap->Prop) (J:It) (H':Hp),itv=.ref it/\Inv X pins σ H' s2/\Turn X.prog X.w X.K tg J fp it tn/\tn 0 s2.heap/\(∀b∈fp,FpOk X pins H' b)/\R J H'
def PI (X:Cx)(tg iter:Expr)(wi:TI):Prop:=
 ∀(pins:List (Addr×Obj)) (s:Shared) (σ:St) (H:Hp) (R:It->Hp->Prop),Inv X pins σ H s->wi σ H R→
  wpAny (model X.prog X.w) X.A (eval iter X.env) (fun v s1=>wpAny (model X.prog X.w) X.A (pyIter v) (PIE X pins σ tg R) X.xe s1) X.xe s
theorem go_of {M:Model}{A:Around}{E:Value->Shared->Prop}{s:Shared}{tg:Expr}{it:Addr}{u:Value}{o:Obj}{n:String}{vs:Array Value}{Q:Unit->Shared->Prop}(ho:s.heap.get? it=some o)(hc:o.cls=.type n)(hd:o.data=.fields vs)
  (hn:["enumerate","zip","dict_itemiterator","dict_reverseitemiterator","odict_iterator","itertools.zip_longest","itertools.pairwise"].contains n=false) (hQ:Q () s):wpAny M A (letOwnedTupleGo tg (.ref it) u) Q E s:=by
 unfold letOwnedTupleGo
 cases tg<;>first
  |exact wpAny_pure hQ
  | (cases u<;>first
      |exact wpAny_pure hQ
      | (refine wpAny_bind (wpAny_load ho ?_)
         rw[hc,hd]
         show wpAny M A (if (["enumerate","zip","dict_itemiterator","dict_reverseitemiterator","odict_iterator","itertools.zip_longest","itertools.pairwise"].contains n&&vs[0]?==some (rawInt _))=true then _ else _) Q E s
         rw[if_neg (by intro h;rw[hn,Bool.false_and] at h;cases h)]
         exact wpAny_pure hQ))
def Itl (K:W.Frag)(a:Addr):It:=
 ⟨fun i H=>∃xs x,SqL K H a xs/\xs[i]?=some x,fun i H x H'=>H'=H/\∀xs,SqL K H a xs->xs[i]?=some x,fun i H=>∃xs,SqL K H a xs/\xs.length<=i⟩
def Itt (K:W.Frag)(a:Addr):It:=
 ⟨fun i H=>∃xs x,SqT K H a xs/\xs[i]?=some x,fun i H x H'=>H'=H/\∀xs,SqT K H a xs->xs[i]?=some x,fun i H=>∃xs,SqT K H a xs/\xs.length<=i⟩
def Itr (lo:Int)(n:Nat):It:=⟨fun i _=>i<n,fun i H x H'=>H'=H/\x=.int (lo+i),fun i _=>n<=i⟩
theorem turn_list {P:Program}{w:World}{K:W.Frag}{tg:Expr}(a it:Addr):Turn P w K tg (Itl K a) [it] it (fun i h=>h.IsListIter it a i) where
 mem:=by simp
 obj:=fun i h st b hb=>by
  have e:b=it:=by simpa using hb
  subst e
  obtain⟨o,e,c,d⟩:=st
  exact⟨o,e,fun v z=>by rw[d] at z;cases z⟩
 keep:=fun i h h' st k=>st.at fun o e=>k it (by simp) o e
 item:=by
  intro X hP hw hK hc i pins s σ H E I hf st hg
  subst hP hw hK
  obtain⟨xs,x,hq,hx⟩:=hg
  obtain⟨its,rv,p,hz⟩:=I.list hq
  obtain⟨u,hu,ru⟩:=rv.get hx
  obtain⟨f0,f1,f2,f3,f4,f5⟩:=hf it (by simp)
  refine wpAny_pyNext_list_item st p.isList (x:=u) (by simpa using hu) fun h' st' sb=>?_
  have I1:Inv X pins σ H { s with heap:=h' }:=I.turned (t':=s.toks) (fun b o hb e=>(sb.2 b hb).trans e) f0 f1 f3 f4 f5
  obtain⟨o,e,c,d⟩:=id st'
  exact⟨u,rfl,go_of (s:={ s with heap:=h' }) e c d (by decide) ⟨x,H,I1,ru,⟨rfl,fun ys hy=>by rw[I.list_inj hy hq];exact hx⟩,st',fun b hb=>(hf b hb).1⟩⟩
 done:=by
  intro X hP hw hK hc i pins s σ H E I hf st hg
  subst hP hw hK
  obtain⟨xs,hq,hx⟩:=hg
  obtain⟨its,rv,p,hz⟩:=I.list hq
  obtain⟨f0,f1,f2,f3,f4,f5⟩:=hf it (by simp)
  have hl:=rv.length
  exact wpAny_pyNext_list_end (I.ok.hd hc) st p.isList (by simp;omega) fun h' eb=>⟨rfl,I.turned (t':=s.toks) (fun b o hb e=>eb b o hb e) f0 f1 f3 f4 f5⟩
 self:=fun _ _ _ _ _ st h=>wpAny_pyIter_listiter st h
theorem turn_tuple {P:Program}{w:World}{K:W.Frag}{tg:Expr}(a it:Addr):Turn P w K tg (Itt K a) [it] it (fun i h=>h.IsTupleIter it a i) where
 mem:=by simp
 obj:=fun i h st b hb=>by
  have e:b=it:=by simpa using hb
  subst e
  obtain⟨o,e,c,d⟩:=st
  exact⟨o,e,fun v z=>by rw[d] at z;cases z⟩
 keep:=fun i h h' st k=>st.at fun o e=>k it (by simp) o e
 item:=by
  intro X hP hw hK hc i pins s σ H E I hf st hg
  subst hP hw hK
  obtain⟨xs,x,hq,hx⟩:=hg
  obtain⟨its,rv,p,hz⟩:=I.tuple hq
  obtain⟨u,hu,ru⟩:=rv.get hx
  obtain⟨f0,f1,f2,f3,f4,f5⟩:=hf it (by simp)
  refine wpAny_pyNext_tuple_item st (show s.heap.IsTuple a its.toArray from p) (x:=u) (by simpa using hu) fun h' st' sb=>?_
  have I1:Inv X pins σ H { s with heap:=h' }:=I.turned (t':=s.toks) (fun b o hb e=>(sb.2 b hb).trans e) f0 f1 f3 f4 f5
  obtain⟨o,e,c,d⟩:=id st'
  exact⟨u,rfl,go_of (s:={ s with heap:=h' }) e c d (by decide) ⟨x,H,I1,ru,⟨rfl,fun ys hy=>by rw[I.tuple_inj hy hq];exact hx⟩,st',fun b hb=>(hf b hb).1⟩⟩
 done:=by
  intro X hP hw hK hc i pins s σ H E I hf st hg
  subst hP hw hK
  obtain⟨xs,hq,hx⟩:=hg
  obtain⟨its,rv,p,hz⟩:=I.tuple hq
  obtain⟨f0,f1,f2,f3,f4,f5⟩:=hf it (by simp)
  have hl:=rv.length
  exact wpAny_pyNext_tuple_end (I.ok.hd hc) st (show s.heap.IsTuple a its.toArray from p) (by simp;omega) fun h' eb=>⟨rfl,I.turned (t':=s.toks) (fun b o hb e=>eb b o hb e) f0 f1 f3 f4 f5⟩
 self:=fun _ _ _ _ _ st h=>wpAny_pyIter_tupleiter st h
theorem turn_range {P:Program}{w:World}{K:W.Frag}{tg:Expr}(it:Addr)(lo:Int)(n:Nat):Turn P w K tg (Itr lo n) [it] it (fun i h=>IsRangeIter h it (lo+(i:Nat)*1) ((n:Int)-(i:Nat)) 1) where
 mem:=by simp
 obj:=fun i h st b hb=>by
  have e:b=it:=by simpa using hb
  subst e
  exact⟨_,st,fun v z=>by
   have z':Data.fields _=Data.cell v:=z
   cases z'⟩
 keep:=fun i h h' st k=>k it (by simp) _ st
 item:=by
  intro X hP hw hK hc i pins s σ H E I hf st hg
  subst hP hw hK
  obtain⟨f0,f1,f2,f3,f4,f5⟩:=hf it (by simp)
  have W:=Walks.range (prog:=X.prog) (w:=X.w) (I.ok.hd hc) it lo 1 n
  refine W.item i s _ _ hg st fun v h' tk hv st' kk=>?_
  obtain⟨t,rfl⟩:=hv
  have I1:Inv X pins σ H { s with heap:=h',toks:=tk }:=I.turned (fun b o hb e=>kk b o (by simpa using hb) e) f0 f1 f3 f4 f5
  refine⟨_,rfl,go_of (s:={ s with heap:=h',toks:=tk }) (n:="range_iterator") st' rfl rfl (by decide) ⟨.int (lo+i),H,I1,⟨t,?_⟩,⟨rfl,rfl⟩,st',fun b hb=>(hf b hb).1⟩⟩
  rw[Int.mul_one]
 done:=by
  intro X hP hw hK hc i pins s σ H E I hf st hg
  subst hP hw hK
  obtain⟨f0,f1,f2,f3,f4,f5⟩:=hf it (by simp)
  exact wpAny_pyNext_range_end (I.ok.hd hc) st (by have:n<=i:=hg;omega) fun h' eb=>⟨rfl,I.turned (t':=s.toks) (fun b o hb e=>eb b o hb e) f0 f1 f3 f4 f5⟩
 self:=fun _ _ _ _ _ st h=>wpAny_pyIter_rangeiter st h
end L2
namespace L2
open PySem PySem.Spec PyProof.Rows
section
variable {X:Cx} {tg:Expr}
def iList (K:W.Frag)(tl:TE):TI:=fun σ H R=>tl σ H fun x H1=>∃a,x=.ref a/\(∃xs,SqL K H1 a xs)/\R (Itl K a) H1
def iTup (K:W.Frag)(tl:TE):TI:=fun σ H R=>tl σ H fun x H1=>∃a,x=.ref a/\(∃xs,SqT K H1 a xs)/\R (Itt K a) H1
theorem pi_list {l:Expr}{tl:TE}(hl:PE X l tl):PI X tg l (iList X.K tl):=by
 intro pins s σ H R I h
 refine thn (hl pins s σ H _ I h) fun v s1 hq9=>?_
 obtain⟨x,H1,I1,r1,q1⟩:=hq9
 obtain⟨a,e,⟨xs,hq⟩,q⟩:=q1
 subst e
 cases r1
 obtain⟨its,rv,p,hz⟩:=I1.list hq
 refine wpAny_pyIter_list p.isList ?_
 refine⟨s1.heap.objs.size,[s1.heap.objs.size],_,_,H1,rfl,I1.kept (t':=s1.toks) fun b o e=>Heap.get?_push_of_some _ e,turn_list a _,⟨_,Heap.get?_push_size _ rfl,rfl,rfl⟩,fun b hb=>?_,q⟩
 have e:b=s1.heap.objs.size:=by simpa using hb
 subst e
 exact I1.fpOk (Nat.le_refl _) (I1.hok.fresh (Nat.le_refl _))
theorem pi_tup {l:Expr}{tl:TE}(hl:PE X l tl):PI X tg l (iTup X.K tl):=by
 intro pins s σ H R I h
 refine thn (hl pins s σ H _ I h) fun v s1 hq9=>?_
 obtain⟨x,H1,I1,r1,q1⟩:=hq9
 obtain⟨a,e,⟨xs,hq⟩,q⟩:=q1
 subst e
 cases r1
 obtain⟨its,rv,p,hz⟩:=I1.tuple hq
 refine wpAny_pyIter_tuple (show s1.heap.IsTuple a its.toArray from p) ?_
 refine⟨s1.heap.objs.size,[s1.heap.objs.size],_,_,H1,rfl,I1.kept (t':=s1.toks) fun b o e=>Heap.get?_push_of_some _ e,turn_tuple a _,⟨_,Heap.get?_push_size _ rfl,rfl,rfl⟩,fun b hb=>?_,q⟩
 have e:b=s1.heap.objs.size:=by simpa using hb
 subst e
 exact I1.fpOk (Nat.le_refl _) (I1.hok.fresh (Nat.le_refl _))
theorem range_it {pins:List (Addr×Obj)}{σ:St}{H:Hp}{s:Shared}{R:It->Hp->Prop}{E:Value->Shared->Prop}{lo hi:Int}{t u v:Tok}{tk:Nat}(I:Inv X pins σ H s)(h1:-(2 ^ 62)<=lo)(h2:lo<2 ^ 62)(h3:-(2 ^ 62)<=hi)(h4:hi<2 ^ 62)
  (q:R (Itr lo (hi-lo).toNat) H):wpAny (model X.prog X.w) X.A (pyIter (.ref s.heap.objs.size)) (PIE X pins σ tg R) E { s with heap:=s.heap.push { cls:=.type "range",data:=.fields #[.int lo t,.int hi u,.int 1 v] },toks:=tk }:=by
 refine wpAny_pyIter_range (IsRange.new ..) (small_one h1 h2 h3 h4) ?_
 have I1:Inv X pins σ H { s with heap:=s.heap.push { cls:=.type "range",data:=.fields #[.int lo t,.int hi u,.int 1 v] },toks:=tk }:=I.kept fun b o e=>Heap.get?_push_of_some _ e
 refine⟨(s.heap.push { cls:=.type "range",data:=.fields #[.int lo t,.int hi u,.int 1 v] }).objs.size,[(s.heap.push { cls:=.type "range",data:=.fields #[.int lo t,.int hi u,.int 1 v] }).objs.size],_,_,H,rfl,
  I1.kept (t':=tk) fun b o e=>Heap.get?_push_of_some _ e,turn_range _ lo (hi-lo).toNat,?_,fun b hb=>?_,q⟩
 ·have e1:lo+((0:Nat):Int)*1=lo:=by simp
  have e2:(((hi-lo).toNat:Nat):Int)-((0:Nat):Int)=Builtin.Range.rangeSize lo hi 1:=by rw[rangeSize_one];split<;>omega
  show IsRangeIter _ _ (lo+((0:Nat):Int)*1) ((((hi-lo).toNat:Nat):Int)-((0:Nat):Int)) 1
  rw[e1,e2]
  exact Heap.get?_push_size _ rfl
 ·have e:b=(s.heap.push { cls:=.type "range",data:=.fields #[.int lo t,.int hi u,.int 1 v] }).objs.size:=by simpa using hb
  subst e
  exact I1.fpOk (Nat.le_refl _) (I1.hok.fresh (Nat.le_refl _))
def iRng1 (ta:TA):TI:=fun σ H R=>ta σ H fun vs H1=>∃j:Int,vs=[.int j]/\-(2 ^ 62)<=j/\j<2 ^ 62/\R (Itr 0 j.toNat) H1
def iRng2 (ta:TA):TI:=fun σ H R=>ta σ H fun vs H1=>∃i j:Int,vs=[.int i,.int j]/\(-(2 ^ 62)<=i/\i<2 ^ 62/\-(2 ^ 62)<=j/\j<2 ^ 62)/\R (Itr i (j-i).toNat) H1
theorem pi_range1 {a:Expr}{ta:TA}{p pos:Pos}(hg:Gl X "range")(hm:X.mg "range"=none)(ha:PA X [a] ta)(hs:starEach [a] X.env=[(false,eval a X.env)]:=by rfl):PI X tg (.Call (.Name "range" p) [a] [] pos) (iRng1 ta):=by
 intro pins s σ H R I h
 refine Call_ (ld_blt I hg hm boot_range (PyProof.Rows.callWith_type1 (thn (ha pos pins s σ H _ I h) fun us s1 ⟨vs,H1,I1,r1,q1⟩=>?_) hs rfl))
 obtain⟨j,e,q1,q2,q⟩:=q1
 subst e
 cases r1 with
 |cons r rr=>
  cases rr
  obtain⟨t,rfl⟩:=r
  exact call_range_1 (range_it I1 (by omega) (by omega) q1 q2 (by simpa using q))
theorem pi_range2 {a b:Expr}{ta:TA}{p pos:Pos}(hg:Gl X "range")(hm:X.mg "range"=none)(ha:PA X [a,b] ta)(hs:starEach [a,b] X.env=[(false,eval a X.env),(false,eval b X.env)]:=by rfl)(hs2:starEach [b] X.env=[(false,eval b X.env)]:=by rfl):
  PI X tg (.Call (.Name "range" p) [a,b] [] pos) (iRng2 ta):=by
 intro pins s σ H R I h
 refine Call_ (ld_blt I hg hm boot_range (PyProof.Rows.callWith_type1 (thn (ha pos pins s σ H _ I h) fun us s1 ⟨vs,H1,I1,r1,q1⟩=>?_) (by rw[hs,hs2]) (by rw[hs2];rfl)))
 obtain⟨i,j,e,⟨q1,q2,q3,q4⟩,q⟩:=q1
 subst e
 cases r1 with
 |cons r rr=>
  cases rr with
  |cons r' rr=>
   cases rr
   obtain⟨t,rfl⟩:=r
   obtain⟨t',rfl⟩:=r'
   exact call_range_2 (range_it I1 q1 q2 q3 q4 q)
def tFor (wi:TI)(g:TG)(tb:TS):TS:=fun D σ H=>wi σ H fun J H1=>∃W:Nat->Nat->St->Hp->Prop,(∃m,W 0 m σ H1)/\∀i m σ H,W i m σ H→
 (J.stop i H/\D.nx σ H)\/(J.go i H/\∃N:St->Hp->Prop,(∀σ' H',N σ' H'->∃m',m'<m/\W (i+1) m' σ' H')/\∀x H',J.yld i H x H'->g x σ H' fun σ2 H2=>tb { D with nx:=N,ct:=N,bk:=D.nx } σ2 H2)
def pinsAt (fp:List Addr)(h:Heap):List (Addr×Obj):=fp.filterMap fun b=>(h.get? b).map fun o=>(b,o)
theorem mem_pinsAt {fp:List Addr}{h:Heap}{b:Addr}{o:Obj}(hb:b∈fp)(e:h.get? b=some o):(b,o)∈pinsAt fp h:=List.mem_filterMap.mpr ⟨b,hb,by rw[e];rfl⟩
theorem of_pinsAt {fp:List Addr}{h:Heap}{p:Addr×Obj}(hp:p∈pinsAt fp h):p.1∈fp/\h.get? p.1=some p.2:=by
 obtain⟨b,hb,e⟩:=List.mem_filterMap.mp hp
 cases q:h.get? b with
 |none=>rw[q] at e;cases e
 |some o=>
  rw[q] at e
  have e':(b,o)=p:=Option.some.inj e
  subst e'
  exact⟨hb,q⟩
theorem Inv.pinned {pins:List (Addr×Obj)}{σ:St}{H:Hp}{s:Shared}{fp:List Addr}(I:Inv X pins σ H s)(hf:∀b∈fp,FpOk X pins H b)(ho:∀b∈fp,∃o,s.heap.get? b=some o/\∀v,o.data≠.cell v):Inv X (pins++pinsAt fp s.heap) σ H s:=
 I.pins_of fun p hp=>(List.mem_append.mp hp).elim (fun z=>I.pin p (List.mem_append_right _ z)) fun z=>by
  obtain⟨hb,e⟩:=of_pinsAt z
  obtain⟨f0,f1,f2,_⟩:=hf p.1 hb
  obtain⟨o,e',d⟩:=ho p.1 hb
  rw[e] at e';cases e'
  exact⟨e,f0,f1,f2,d⟩
theorem Inv.unpinned {pins pl:List (Addr×Obj)}{σ:St}{H:Hp}{s:Shared}(I:Inv X (pins++pl) σ H s):Inv X pins σ H s:=I.pins_of fun p hp=>I.pin p (List.mem_append_right _ (List.mem_append_left _ hp))
theorem ps_for {iter:Expr}{body:List Stmt}{wi:TI}{g:TG}{tb:TS}{pos:Pos}(hp:PassesOwn (model X.prog X.w) X.A X.env X.xe)(hc:X.calm=true)(hi:PI X tg iter wi)(hg:PG X tg g)(hb:PSs X body tb)
  (hs:∀x,foldedSetIterable iter X.env x=pure x:=by intro _;rfl):PS X (.For tg iter body [] pos) (tFor wi g tb):=by
 intro pins s σ H D I h
 refine wpAny_For (thn (hi pins s σ H _ I h) fun v s1 h1=>thn h1 fun itv s2 h2=>?_) hs
 obtain⟨it,fp,tn,J,H2,e,I2,T,st2,f2,W,⟨m0,w0⟩,turn⟩:=h2
 subst e
 have stat:∀{H':Hp},(∀b∈fp,H' b=none)->∀b∈fp,FpOk X pins H' b:=fun hn b hb=>⟨hn b hb,(f2 b hb).2⟩
 refine codeAny_forLoop_any (fun n s'=>∃i σ' H',Inv X pins σ' H' s'/\tn i s'.heap/\(∀b∈fp,H' b=none)/\W i n σ' H') ?_ m0 ⟨0,σ,H2,I2,st2,fun b hb=>(f2 b hb).1,w0⟩
 rintro n s3 ⟨i,σ3,H3,I3,st3,fr3,w3⟩
 rcases turn i n σ3 H3 w3 with⟨stop,qn⟩|⟨go,N,hN,step⟩
 ·refine wpAny_passesOwn hp (thn (T.done X rfl rfl rfl hc i pins s3 σ3 H3 X.xe I3 (stat fr3) st3 stop) fun r s4 ⟨hr,I4⟩=>?_)
  subst hr
  exact wpAny_execs_nil ⟨σ3,H3,I4,qn⟩
 ·refine wpAny_passesOwn hp (thn (T.item X rfl rfl rfl hc i pins s3 σ3 H3 X.xe I3 (stat fr3) st3 go) fun r s4 ⟨u,hr,h4⟩=>?_)
  subst hr
  refine wpAny_passesOwn hp (thn h4 fun _ s5 ⟨x,H5,I5,r5,y5,st5,fr5⟩=>?_)
  have I5':=I5.pinned (stat fr5) (T.obj _ _ st5)
  refine wpAny_passesOwn hp (thn (hg _ s5 σ3 H5 x u _ I5' r5 (step x H5 y5)) fun _ s6 ⟨σ6,H6,I6,q6⟩=>?_)
  refine wpAny_passesOwn hp (thn (hb _ s6 σ6 H6 _ I6 q6) fun f s7 q7=>?_)
  have again:∀{σ7:St} {H7:Hp},Inv X (pins++pinsAt fp s5.heap) σ7 H7 s7->N σ7 H7->∃m,m<n/\∃i σ' H',Inv X pins σ' H' s7/\tn i s7.heap/\(∀b∈fp,H' b=none)/\W i m σ' H':=fun {σ7 H7} I7 n7=>by
   obtain⟨m',hm,w7⟩:=hN σ7 H7 n7
   refine⟨m',hm,i+1,σ7,H7,I7.unpinned,T.keep _ _ _ st5 fun b hb o e=>(I7.pin (b,o) (List.mem_append_right _ (List.mem_append_right _ (mem_pinsAt hb e)))).1,fun b hb=>?_,w7⟩
   obtain⟨o,e,d⟩:=T.obj _ _ st5 b hb
   exact(I7.pin (b,o) (List.mem_append_right _ (List.mem_append_right _ (mem_pinsAt hb e)))).2.1
  cases f with
  |next=>obtain⟨σ7,H7,I7,n7⟩:=q7;exact again I7 n7
  |cont=>obtain⟨σ7,H7,I7,n7⟩:=q7;exact again I7 n7
  |brk=>obtain⟨σ7,H7,I7,q7⟩:=q7;exact⟨σ7,H7,I7.unpinned,q7⟩
  |ret v=>obtain⟨x7,σ7,H7,I7,r7,q7⟩:=q7;exact⟨x7,σ7,H7,I7.unpinned,r7,q7⟩
end
theorem for_list {K:W.Frag}{a:Addr}{xs:List V}{g:TG}{tb:TS}{D:Ends}{σ:St}{H:Hp}(Pv:Nat->St->Hp->Prop)(h0:Pv 0 σ H)(hl:∀i σ H,i<=xs.length->Pv i σ H->SqL K H a xs)
  (hs:∀i x σ H,xs[i]?=some x->Pv i σ H->g x σ H fun σ2 H2=>tb { D with nx:=Pv (i+1),ct:=Pv (i+1),bk:=D.nx } σ2 H2) (hd:∀σ H,Pv xs.length σ H->D.nx σ H):
  ∃W:Nat->Nat->St->Hp->Prop,(∃m,W 0 m σ H)/\∀i m σ H,W i m σ H→
   ((Itl K a).stop i H/\D.nx σ H)\/((Itl K a).go i H/\∃N:St->Hp->Prop,(∀σ' H',N σ' H'->∃m',m'<m/\W (i+1) m' σ' H')/\∀x H',(Itl K a).yld i H x H'->g x σ H' fun σ2 H2=>tb { D with nx:=N,ct:=N,bk:=D.nx } σ2 H2):=by
 refine⟨fun i m σ H=>m=xs.length-i/\i<=xs.length/\Pv i σ H,⟨xs.length,by simp,Nat.zero_le _,h0⟩,?_⟩
 rintro i m σ H ⟨rfl,hi,p⟩
 have q:=hl i σ H hi p
 by_cases hlt:i<xs.length
 ·refine .inr ⟨⟨xs,xs[i],q,by simp[hlt]⟩,Pv (i+1),fun σ' H' p'=>⟨xs.length-(i+1),by omega,rfl,hlt,p'⟩,fun x H' y=>?_⟩
  obtain⟨e,y⟩:=y
  subst e
  exact hs i x σ _ (y xs q) p
 ·have e:i=xs.length:=by omega
  subst e
  exact .inl ⟨⟨xs,q,Nat.le_refl _⟩,hd σ H p⟩
theorem for_tup {K:W.Frag}{a:Addr}{xs:List V}{g:TG}{tb:TS}{D:Ends}{σ:St}{H:Hp}(Pv:Nat->St->Hp->Prop)(h0:Pv 0 σ H)(hl:∀i σ H,i<=xs.length->Pv i σ H->SqT K H a xs)
  (hs:∀i x σ H,xs[i]?=some x->Pv i σ H->g x σ H fun σ2 H2=>tb { D with nx:=Pv (i+1),ct:=Pv (i+1),bk:=D.nx } σ2 H2) (hd:∀σ H,Pv xs.length σ H->D.nx σ H):
  ∃W:Nat->Nat->St->Hp->Prop,(∃m,W 0 m σ H)/\∀i m σ H,W i m σ H→
   ((Itt K a).stop i H/\D.nx σ H)\/((Itt K a).go i H/\∃N:St->Hp->Prop,(∀σ' H',N σ' H'->∃m',m'<m/\W (i+1) m' σ' H')/\∀x H',(Itt K a).yld i H x H'->g x σ H' fun σ2 H2=>tb { D with nx:=N,ct:=N,bk:=D.nx } σ2 H2):=by
 refine⟨fun i m σ H=>m=xs.length-i/\i<=xs.length/\Pv i σ H,⟨xs.length,by simp,Nat.zero_le _,h0⟩,?_⟩
 rintro i m σ H ⟨rfl,hi,p⟩
 have q:=hl i σ H hi p
 by_cases hlt:i<xs.length
 ·refine .inr ⟨⟨xs,xs[i],q,by simp[hlt]⟩,Pv (i+1),fun σ' H' p'=>⟨xs.length-(i+1),by omega,rfl,hlt,p'⟩,fun x H' y=>?_⟩
  obtain⟨e,y⟩:=y
  subst e
  exact hs i x σ _ (y xs q) p
 ·have e:i=xs.length:=by omega
  subst e
  exact .inl ⟨⟨xs,q,Nat.le_refl _⟩,hd σ H p⟩
theorem for_range {lo:Int}{n:Nat}{g:TG}{tb:TS}{D:Ends}{σ:St}{H:Hp}(Pv:Nat->St->Hp->Prop)(h0:Pv 0 σ H)
  (hs:∀i σ H,i<n->Pv i σ H->g (.int (lo+i)) σ H fun σ2 H2=>tb { D with nx:=Pv (i+1),ct:=Pv (i+1),bk:=D.nx } σ2 H2) (hd:∀σ H,Pv n σ H->D.nx σ H):
  ∃W:Nat->Nat->St->Hp->Prop,(∃m,W 0 m σ H)/\∀i m σ H,W i m σ H→
   ((Itr lo n).stop i H/\D.nx σ H)\/((Itr lo n).go i H/\∃N:St->Hp->Prop,(∀σ' H',N σ' H'->∃m',m'<m/\W (i+1) m' σ' H')/\∀x H',(Itr lo n).yld i H x H'->g x σ H' fun σ2 H2=>tb { D with nx:=N,ct:=N,bk:=D.nx } σ2 H2):=by
 refine⟨fun i m σ H=>m=n-i/\i<=n/\Pv i σ H,⟨n,by simp,Nat.zero_le _,h0⟩,?_⟩
 rintro i m σ H ⟨rfl,hi,p⟩
 by_cases hlt:i<n
 ·refine .inr ⟨hlt,Pv (i+1),fun σ' H' p'=>⟨n-(i+1),by omega,rfl,hlt,p'⟩,fun x H' y=>?_⟩
  obtain⟨e,y⟩:=y
  subst e y
  exact hs i σ _ hlt p
 ·have e:i=n:=by omega
  subst e
  exact .inl ⟨Nat.le_refl _,hd σ H p⟩
end L2
namespace L2
open PySem PySem.Spec PyProof.Rows
abbrev R2:=V->V->Hp->VK->Prop
def OpR (X:Cx)(f:Value->Value->Sem Value)(r:R2):Prop:=
 ∀(pins:List (Addr×Obj)) (s:Shared) (σ:St) (H:Hp) (x y:V) (v u:Value) (Q:VK),Inv X pins σ H s->RelV x v->RelV y u->r x y H Q→
  wpAny (model X.prog X.w) X.A (f v u) (EP X pins σ Q) X.xe s
def UnR (X:Cx)(f:Value->Sem Value)(r:V->Hp->VK->Prop):Prop:=
 ∀(pins:List (Addr×Obj)) (s:Shared) (σ:St) (H:Hp) (x:V) (v:Value) (Q:VK),Inv X pins σ H s->RelV x v->r x H Q→
  wpAny (model X.prog X.w) X.A (f v) (EP X pins σ Q) X.xe s
def CallR (X:Cx)(f:Value)(r:List V->Hp->VK->Prop):Prop:=
 ∀(pins:List (Addr×Obj)) (s:Shared) (σ:St) (H:Hp) (xs:List V) (us:List Value) (Q:VK),Inv X pins σ H s->Vals xs us->r xs H Q→
  wpAny (model X.prog X.w) X.A (call f us) (EP X pins σ Q) X.xe s
def tOp (r:R2)(ta tb:TE):TE:=fun σ H Q=>ta σ H fun x H1=>tb σ H1 fun y H2=>r x y H2 Q
def tUn (r:V->Hp->VK->Prop)(ta:TE):TE:=fun σ H Q=>ta σ H fun x H1=>r x H1 Q
def rI (C:Int->Int->Prop)(g:Int->Int->V):R2:=fun x y H Q=>∃i j,x=.int i/\y=.int j/\C i j/\Q (g i j) H
def rI0 (g:Int->Int->V):R2:=fun x y H Q=>∃i j,x=.int i/\y=.int j/\Q (g i j) H
def rU (g:Int->V):V->Hp->VK->Prop:=fun x H Q=>∃i,x=.int i/\Q (g i) H
section
variable {X:Cx} {a b c:Expr} {ta tb tc:TE} {pos:Pos}
theorem binT (ha:PE X a ta)(hb:PE X b tb){pins:List (Addr×Obj)}{s:Shared}{σ:St}{H:Hp}{R:V->V->Hp->Prop}(I:Inv X pins σ H s)
  (h:ta σ H fun x H1=>tb σ H1 fun y H2=>R x y H2) {Q:Value->Shared->Prop} {f:Value->Value->Sem Value}
  (hf:∀v u s2 x y H2,Inv X pins σ H2 s2->RelV x v->RelV y u->R x y H2->wpAny (model X.prog X.w) X.A (f v u) Q X.xe s2):
  wpAny (model X.prog X.w) X.A (eval a X.env) (fun v s₁=>wpAny (model X.prog X.w) X.A (eval b X.env) (fun u s₂=>wpAny (model X.prog X.w) X.A (f v u) Q X.xe s₂) X.xe s₁) X.xe s:=by
 refine thn (ha pins s σ H _ I h) fun v s1 hq9=>?_
 obtain⟨x,H1,I1,r1,q1⟩:=hq9
 refine thn (hb pins s1 σ H1 _ I1 q1) fun u s2 hq9=>?_
 obtain⟨y,H2,I2,r2,q2⟩:=hq9
 exact hf v u s2 x y H2 I2 r1 r2 q2
theorem pe_op {op:Operator}{r:R2}(ho:OpR X (binaryOp op) r)(ha:PE X a ta)(hb:PE X b tb):PE X (.BinOp a op b pos) (tOp r ta tb):=by
 intro pins s σ H Q I h
 exact wpAny_BinOp (binT ha hb I h fun v u s2 x y H2 I2 rx ry q=>ho pins s2 σ H2 x y v u Q I2 rx ry q)
theorem pe_un {op:UnaryOp}{r:V->Hp->VK->Prop}(ho:UnR X (unaryOp op) r)(ha:PE X a ta):PE X (.UnaryOp op a pos) (tUn r ta):=by
 intro pins s σ H Q I h
 exact UnaryOp_ (thn (ha pins s σ H _ I h) fun v s1 ⟨x,H1,I1,r1,q1⟩=>ho pins s1 σ H1 x v Q I1 r1 q1)
theorem opI {f:Value->Value->Sem Value}{C:Int->Int->Prop}{g:Int->Int->Int}
  (rule:∀(i j:Int) (t u:Tok) (s:Shared) (Q:Value->Shared->Prop) (E:Value->Shared->Prop),C i j->Q (.int (g i j) s.toks) { s with toks:=s.toks+1 }->wpAny (model X.prog X.w) X.A (f (.int i t) (.int j u)) Q E s):
  OpR X f (rI C fun i j=>.int (g i j)):=by
 intro pins s σ H x y v u Q I rx ry h
 obtain⟨i,j,rfl,rfl,hc,q⟩:=h
 obtain⟨t,rfl⟩:=rx
 obtain⟨t',rfl⟩:=ry
 exact rule i j t t' s _ _ hc ⟨.int (g i j),H,I.tok _,⟨_,rfl⟩,q⟩
theorem opI0 {f:Value->Value->Sem Value}{g:Int->Int->Int}
  (rule:∀(i j:Int) (t u:Tok) (s:Shared) (Q:Value->Shared->Prop) (E:Value->Shared->Prop),Q (.int (g i j) s.toks) { s with toks:=s.toks+1 }->wpAny (model X.prog X.w) X.A (f (.int i t) (.int j u)) Q E s):
  OpR X f (rI0 fun i j=>.int (g i j)):=by
 intro pins s σ H x y v u Q I rx ry h
 obtain⟨i,j,rfl,rfl,q⟩:=h
 obtain⟨t,rfl⟩:=rx
 obtain⟨t',rfl⟩:=ry
 exact rule i j t t' s _ _ ⟨.int (g i j),H,I.tok _,⟨_,rfl⟩,q⟩
theorem opB0 {f:Value->Value->Sem Value}{g:Int->Int->Bool}
  (rule:∀(i j:Int) (t u:Tok) (s:Shared) (Q:Value->Shared->Prop) (E:Value->Shared->Prop),Q (.bool (g i j)) s->wpAny (model X.prog X.w) X.A (f (.int i t) (.int j u)) Q E s):
  OpR X f (rI0 fun i j=>.bl (g i j)):=by
 intro pins s σ H x y v u Q I rx ry h
 obtain⟨i,j,rfl,rfl,q⟩:=h
 obtain⟨t,rfl⟩:=rx
 obtain⟨t',rfl⟩:=ry
 exact rule i j t t' s _ _ ⟨.bl (g i j),H,I,rfl,q⟩
def CDiv (i j:Int):Prop:=0<j/\j<1073741824
def CMul (i j:Int):Prop:=(-(2 ^ 64)<i/\i<2 ^ 64)\/(-(2 ^ 64)<j/\j<2 ^ 64)
theorem CMul.ok {i j:Int}(h:CMul i j):IntMulOk i j:=by
 rcases h with⟨h1,h2⟩|⟨h1,h2⟩
 ·exact .of_left (intBits_le_64 h1 h2)
 ·exact .of_right (intBits_le_64 h1 h2)
theorem op_add:OpR X (binaryOp .Add) (rI0 fun i j=>.int (i+j)):=opI0 fun _ _ _ _ _ _ _ q=>add_int q
theorem op_sub:OpR X (binaryOp .Sub) (rI0 fun i j=>.int (i-j)):=opI0 fun _ _ _ _ _ _ _ q=>sub_int q
theorem op_mul:OpR X (binaryOp .Mult) (rI CMul fun i j=>.int (i*j)):=opI fun _ _ _ _ _ _ _ hc q=>mul_int q hc.ok
theorem op_fdiv:OpR X (binaryOp .FloorDiv) (rI CDiv fun i j=>.int (i / j)):=opI fun i j _ _ _ _ _ hc q=>by
 have h1:(0:Int)<j:=hc.1
 have h2:j<1073741824:=hc.2
 exact floordiv_int (by omega) (by rw[Int.fdiv_eq_ediv_of_nonneg i (by omega)];exact q) (.inl (PyProof.noPylong_small (by omega)))
theorem op_mod:OpR X (binaryOp .Mod) (rI (fun _ j=>0<j) fun i j=>.int (i%j)):=opI fun i j _ _ _ _ _ hc q=>by
 have h1:(0:Int)<j:=hc
 exact mod_int' (by omega) (by rw[Int.fmod_eq_emod_of_nonneg i (by omega)];exact q)
theorem unI {f:Value->Sem Value}{g:Int->Int}
  (rule:∀(i:Int) (t:Tok) (s:Shared) (Q:Value->Shared->Prop) (E:Value->Shared->Prop),Q (.int (g i) s.toks) { s with toks:=s.toks+1 }->wpAny (model X.prog X.w) X.A (f (.int i t)) Q E s):
  UnR X f (rU fun i=>.int (g i)):=by
 intro pins s σ H x v Q I rx h
 obtain⟨i,rfl,q⟩:=h
 obtain⟨t,rfl⟩:=rx
 exact rule i t s _ _ ⟨.int (g i),H,I.tok _,⟨_,rfl⟩,q⟩
theorem un_neg:UnR X (unaryOp .USub) (rU fun i=>.int (-i)):=unI fun _ _ _ _ _ q=>neg_int q
end
def scal:V->V->Bool
 |.non,.non=>true | .non,.int _=>true | .int _,.non=>true | .non,.bl _=>true | .bl _,.non=>true | .non,.str _=>true | .str _,.non=>true
 |.int _,.int _=>true | .bl _,.bl _=>true | .str _,.str _=>true | .byt _,.byt _=>true
 |.int _,.str _=>true | .str _,.int _=>true | .bl _,.str _=>true | .str _,.bl _=>true
 |_,_=>false
def rEq:R2:=fun x y H Q=>scal x y=true/\Q (.bl (decide (x=y))) H
def rNe:R2:=fun x y H Q=>scal x y=true/\Q (.bl (!decide (x=y))) H
theorem dec_int {i j:Int}:decide (V.int i=V.int j)=(i==j):=by
 rw[Bool.eq_iff_iff]
 simp
theorem dec_bl {i j:Bool}:decide (V.bl i=V.bl j)=(i==j):=by
 rw[Bool.eq_iff_iff]
 simp
theorem dec_str {i j:Str}:decide (V.str i=V.str j)=(i==j):=by
 rw[Bool.eq_iff_iff]
 simp
theorem dec_byt {i j:Array UInt8}:decide (V.byt i=V.byt j)=(i.toList==j.toList):=by
 rw[Bool.eq_iff_iff]
 cases i
 cases j
 simp
section
variable {X:Cx} {a b c:Expr} {ta tb tc:TE} {pos:Pos}
theorem fin_bl {pins:List (Addr×Obj)}{σ:St}{H:Hp}{s:Shared}{Q:VK}{k k':Bool}(I:Inv X pins σ H s)(q:Q (.bl k) H)(e:k=k'):EP X pins σ Q (.bool k') s:=by
 subst e
 exact⟨.bl k,H,I,rfl,q⟩
theorem op_eq:OpR X (compareOp .Eq) rEq:=by
 intro pins s σ H x y v u Q I rx ry h
 obtain⟨hs,q⟩:=h
 cases x with
 |non=>
  cases rx
  cases y with
  |non=>cases ry;exact PySem.EqNone.eq_none_none (fin_bl I q (by simp))
  |bl j=>cases ry;exact PySem.EqNone.eq_none_bool (fin_bl I q (by simp))
  |int j=>obtain⟨t',rfl⟩:=ry;exact PySem.EqNone.eq_none_int (fin_bl I q (by simp))
  |str j=>obtain⟨t',rfl⟩:=ry;exact PySem.EqNone.eq_none_str (fin_bl I q (by simp))
  |_=>exact absurd (show false=true from hs) Bool.false_ne_true
 |bl i=>
  cases rx
  cases y with
  |non=>cases ry;exact PySem.EqNone.eq_bool_none (fin_bl I q (by simp))
  |bl j=>cases ry;exact eq_bool (fin_bl I q dec_bl)
  |str j=>obtain⟨t',rfl⟩:=ry;exact PySem.EqMixed.eq_bool_str (fin_bl I q (by simp))
  |_=>exact absurd (show false=true from hs) Bool.false_ne_true
 |int i=>
  obtain⟨t,rfl⟩:=rx
  cases y with
  |non=>cases ry;exact PySem.EqNone.eq_int_none (fin_bl I q (by simp))
  |int j=>obtain⟨t',rfl⟩:=ry;exact eq_int (fin_bl I q dec_int)
  |str j=>obtain⟨t',rfl⟩:=ry;exact PySem.EqMixed.eq_int_str (fin_bl I q (by simp))
  |_=>exact absurd (show false=true from hs) Bool.false_ne_true
 |str i=>
  obtain⟨t,rfl⟩:=rx
  cases y with
  |non=>cases ry;exact PySem.EqNone.eq_str_none (fin_bl I q (by simp))
  |bl j=>cases ry;exact PySem.EqMixed.eq_str_bool (fin_bl I q (by simp))
  |int j=>obtain⟨t',rfl⟩:=ry;exact PySem.EqMixed.eq_str_int (fin_bl I q (by simp))
  |str j=>obtain⟨t',rfl⟩:=ry;exact eq_str (fin_bl I q dec_str)
  |_=>exact absurd (show false=true from hs) Bool.false_ne_true
 |byt i=>
  obtain⟨t,rfl⟩:=rx
  cases y with
  |byt j=>obtain⟨t',rfl⟩:=ry;exact W.eq_bytes (fin_bl I q dec_byt)
  |_=>exact absurd (show false=true from hs) Bool.false_ne_true
 |_=>cases y<;>exact absurd (show false=true from hs) Bool.false_ne_true
theorem op_ne:OpR X (compareOp .NotEq) rNe:=by
 intro pins s σ H x y v u Q I rx ry h
 obtain⟨hs,q⟩:=h
 cases x with
 |non=>
  cases rx
  cases y with
  |non=>cases ry;exact PySem.EqNone.ne_none_none (fin_bl I q (by simp))
  |bl j=>cases ry;exact PySem.EqNone.ne_none_bool (fin_bl I q (by simp))
  |int j=>obtain⟨t',rfl⟩:=ry;exact PySem.EqNone.ne_none_int (fin_bl I q (by simp))
  |str j=>obtain⟨t',rfl⟩:=ry;exact PySem.EqNone.ne_none_str (fin_bl I q (by simp))
  |_=>exact absurd (show false=true from hs) Bool.false_ne_true
 |bl i=>
  cases rx
  cases y with
  |non=>cases ry;exact PySem.EqNone.ne_bool_none (fin_bl I q (by simp))
  |bl j=>cases ry;exact ne_bool (fin_bl I q (congrArg not dec_bl))
  |str j=>obtain⟨t',rfl⟩:=ry;exact PySem.EqMixed.ne_bool_str (fin_bl I q (by simp))
  |_=>exact absurd (show false=true from hs) Bool.false_ne_true
 |int i=>
  obtain⟨t,rfl⟩:=rx
  cases y with
  |non=>cases ry;exact PySem.EqNone.ne_int_none (fin_bl I q (by simp))
  |int j=>obtain⟨t',rfl⟩:=ry;exact ne_int (fin_bl I q (congrArg not dec_int))
  |str j=>obtain⟨t',rfl⟩:=ry;exact PySem.EqMixed.ne_int_str (fin_bl I q (by simp))
  |_=>exact absurd (show false=true from hs) Bool.false_ne_true
 |str i=>
  obtain⟨t,rfl⟩:=rx
  cases y with
  |non=>cases ry;exact PySem.EqNone.ne_str_none (fin_bl I q (by simp))
  |bl j=>cases ry;exact PySem.EqMixed.ne_str_bool (fin_bl I q (by simp))
  |int j=>obtain⟨t',rfl⟩:=ry;exact PySem.EqMixed.ne_str_int (fin_bl I q (by simp))
  |str j=>obtain⟨t',rfl⟩:=ry;exact ne_str (fin_bl I q (congrArg not dec_str))
  |_=>exact absurd (show false=true from hs) Bool.false_ne_true
 |byt i=>
  obtain⟨t,rfl⟩:=rx
  cases y with
  |byt j=>obtain⟨t',rfl⟩:=ry;exact W.ne_bytes (fin_bl I q (congrArg not dec_byt))
  |_=>exact absurd (show false=true from hs) Bool.false_ne_true
 |_=>cases y<;>exact absurd (show false=true from hs) Bool.false_ne_true
theorem op_lt:OpR X (compareOp .Lt) (rI0 fun i j=>.bl (decide (i<j))):=opB0 fun _ _ _ _ _ _ _ q=>lt_int q
theorem op_le:OpR X (compareOp .LtE) (rI0 fun i j=>.bl (decide (i<=j))):=opB0 fun _ _ _ _ _ _ _ q=>le_int q
theorem op_gt:OpR X (compareOp .Gt) (rI0 fun i j=>.bl (decide (j<i))):=opB0 fun _ _ _ _ _ _ _ q=>gt_int q
theorem op_ge:OpR X (compareOp .GtE) (rI0 fun i j=>.bl (decide (j<=i))):=opB0 fun _ _ _ _ _ _ _ q=>ge_int q
theorem op_in_str:OpR X (compareOp .In) (fun x y H Q=>∃i j,x=.str i/\y=.str j/\Q (.bl (!(Builtin.Str.occurrences j i 0 j.length 1).isEmpty)) H):=by
 intro pins s σ H x y v u Q I rx ry h
 obtain⟨i,j,rfl,rfl,q⟩:=h
 obtain⟨t,rfl⟩:=rx
 obtain⟨t',rfl⟩:=ry
 exact in_str (fin_bl I q rfl)
theorem nomark (b:Expr){op:CmpOp}(h:op≠.In:=by decide)(h2:op≠.NotIn:=by decide):behindInMarks op b=false:=by
 have e1:(op==CmpOp.In)=false:=by cases op<;>first|rfl|exact absurd rfl h
 have e2:(op==CmpOp.NotIn)=false:=by cases op<;>first|rfl|exact absurd rfl h2
 cases b<;>simp[behindInMarks,e1,e2]
theorem pe_cmpR {op:CmpOp}{r:R2}(ho:OpR X (compareOp op) r)(ha:PE X a ta)(hb:PE X b tb)(hm:behindInMarks op b=false):PE X (.Compare a [op] [b] pos) (tOp r ta tb):=by
 intro pins s σ H Q I h
 exact wpAny_Compare1 (binT ha hb I h fun v u s2 x y H2 I2 rx ry q=>ho pins s2 σ H2 x y v u Q I2 rx ry q) hm
def tTest (t:TE):TT:=fun σ H Q=>t σ H fun x H'=>∃k,x=.bl k/\Q k H'
theorem pt_cmpR {op:CmpOp}{r:R2}(ho:OpR X (compareOp op) r)(ha:PE X a ta)(hb:PE X b tb)(hm:behindInMarks op b=false):PT X (.Compare a [op] [b] pos) (tTest (tOp r ta tb)):=by
 intro pins s σ H Q I h
 refine wpAny_isTrue_Compare1 (thn (ha pins s σ H _ I h) fun v s1 ⟨x,H1,I1,r1,q1⟩=>thn (hb pins s1 σ H1 _ I1 q1) fun u s2 ⟨y,H2,I2,r2,q2⟩=>
  thn (ho pins s2 σ H2 x y v u _ I2 r1 r2 q2) fun c s3 ⟨z,H3,I3,r3,k,e,q3⟩=>?_) hm
 subst e
 cases r3
 exact wpAny_truthy_bool ⟨H3,I3,q3⟩
def tChain (r r':R2)(ta tb tc:TE):TE:=fun σ H Q=>ta σ H fun x H1=>tb σ H1 fun y H2=>r x y H2 fun z H3=>∃k,z=.bl k∧
 (if k=true then tc σ H3 fun w' H4=>r' y w' H4 Q else Q (.bl false) H3)
theorem pt_chain {op op':CmpOp}{r r':R2}(ho:OpR X (compareOp op) r)(ho':OpR X (compareOp op') r')(ha:PE X a ta)(hb:PE X b tb)(hc:PE X c tc)
  (hm:lastMarks [op,op'] [b,c]=false:=by with_unfolding_all rfl):PT X (.Compare a [op,op'] [b,c] pos) (tTest (tChain r r' ta tb tc)):=by
 intro pins s σ H Q I h
 refine isTrue_chain (thn (ha pins s σ H _ I h) fun v s1 ⟨x,H1,I1,r1,q1⟩=>test_link (thn (hb pins s1 σ H1 _ I1 q1) fun u s2 ⟨y,H2,I2,r2,q2⟩=>
  thn (ho pins s2 σ H2 x y v u _ I2 r1 r2 q2) fun d s3 ⟨z,H3,I3,r3,k,e,q3⟩=>?_)) hm
 subst e
 cases r3
 refine wpAny_truthy_bool ?_
 cases k with
 |false=>
  obtain⟨k',e',q'⟩:=q3
  cases e'
  exact ite_ff ⟨H3,I3,q'⟩
 |true=>
  refine ite_tt (test_last (thn (hc pins s3 σ H3 _ I3 q3) fun w' s4 ⟨z',H4,I4,r4,q4⟩=>thn (ho' pins s4 σ H4 y z' u w' _ I4 r2 r4 q4) fun d' s5 ⟨z2,H5,I5,r5,k2,e2,q5⟩=>?_))
  subst e2
  cases r5
  exact wpAny_truthy_bool ⟨H5,I5,q5⟩
theorem line63:(sizeLine:Nat)<2 ^ 63:=by rw[sizeLine_eq];decide
theorem op_add_str:OpR X (binaryOp .Add) (fun x y H Q=>∃i j,x=.str i/\y=.str j/\i.length+j.length<=sizeLine/\Q (.str (i++j)) H):=by
 intro pins s σ H x y v u Q I rx ry h
 obtain⟨i,j,rfl,rfl,hz,q⟩:=h
 obtain⟨t,rfl⟩:=rx
 obtain⟨t',rfl⟩:=ry
 exact add_str (fun t' tk=>⟨.str (i++j),H,I.tok _,⟨_,rfl⟩,q⟩) hz
theorem vals1 {x:V}{us:List Value}(r:Vals [x] us):∃u,us=[u]/\RelV x u:=by
 cases r with
 |cons r1 r2=>cases r2;exact⟨_,rfl,r1⟩
theorem vals2 {x y:V}{us:List Value}(r:Vals [x,y] us):∃u w',us=[u,w']/\RelV x u/\RelV y w':=by
 cases r with
 |cons r1 r2=>
  cases r2 with
  |cons r3 r4=>cases r4;exact⟨_,_,rfl,r1,r3⟩
theorem call_max2 (hc:X.calm=true):CallR X (.builtin "max") (fun xs H Q=>∃i j,xs=[.int i,.int j]/\Q (.int (if j > i then j else i)) H):=by
 intro pins s σ H xs us Q I r h
 obtain⟨i,j,rfl,q⟩:=h
 obtain⟨u,w',rfl,⟨t,rfl⟩,⟨t',rfl⟩⟩:=vals2 r
 refine max_two_ints (I.ok.hd hc) fun h' tk k=>⟨_,H,I.kept k,?_,q⟩
 by_cases hj:j > i
 ·rw[if_pos hj,if_pos hj];exact⟨_,rfl⟩
 ·rw[if_neg hj,if_neg hj];exact⟨_,rfl⟩
theorem call_min2 (hc:X.calm=true):CallR X (.builtin "min") (fun xs H Q=>∃i j,xs=[.int i,.int j]/\Q (.int (if j<i then j else i)) H):=by
 intro pins s σ H xs us Q I r h
 obtain⟨i,j,rfl,q⟩:=h
 obtain⟨u,w',rfl,⟨t,rfl⟩,⟨t',rfl⟩⟩:=vals2 r
 refine min_two_ints (I.ok.hd hc) fun h' tk k=>⟨_,H,I.kept k,?_,q⟩
 by_cases hj:j<i
 ·rw[if_pos hj,if_pos hj];exact⟨_,rfl⟩
 ·rw[if_neg hj,if_neg hj];exact⟨_,rfl⟩
theorem call_str_int:CallR X (.type "str") (fun xs H Q=>∃i,xs=[.int i]/\i.natAbs.log2<1920/\Q (.str (toString i)) H):=by
 intro pins s σ H xs us Q I r h
 obtain⟨i,rfl,hz,q⟩:=h
 obtain⟨u,rfl,t,rfl⟩:=vals1 r
 exact PySem.P.str_of_int hz ⟨.str _,H,I.tok _,⟨_,rfl⟩,q⟩
end
end L2
namespace L2
open PySem PySem.Spec PyProof.Rows
structure ObjM (h:Heap)(x dx C:Addr)(mA:Str->Option Value):Prop where
 obj:h.get? x=some (W.instObj C dx)
 ns:h.Ns1 dx mA
 ne:dx≠x
theorem lookIn_ns {h:Heap}{dx:Addr}{mA:Str->Option Value}(n:h.Ns1 dx mA):∃od,h.get? dx=some od/\∀name,W.lookIn name od=some (mA name):=by
 obtain⟨o,es,ep,ho,hd,hk,_,hm⟩:=n
 refine⟨o,ho,fun name=>?_⟩
 have e:=hm name
 unfold nsFind findBy at e
 rw[<- Array.find?_toList] at e
 unfold W.lookIn
 rw[hd]
 dsimp only
 split
 ·rename_i y q
  rw[q] at e
  exact congrArg some e
 ·rename_i q
  rw[q] at e
  have a:es.toList.any (·.refKey)=false:=by
   rw[List.any_eq_false]
   intro y hy
   obtain⟨z,t,hkey⟩:=hk y (Array.mem_toList_iff.mp hy)
   simp[DictEntry.refKey,hkey]
  have a':¬es.toList.any (·.refKey)=true:=by rw[a];exact Bool.false_ne_true
  rw[if_neg a']
  exact congrArg some e
theorem ObjM.look {h:Heap}{x dx C:Addr}{mA:Str->Option Value}(I:ObjM h x dx C mA):∃od,W.InstAt h x (W.instObj C dx) C (some od)/\∀name,W.lookIn name od=some (mA name):=
 let ⟨od,ho,hl⟩:=lookIn_ns I.ns
 ⟨od,⟨I.obj,rfl,rfl,ho⟩,hl⟩
section
variable {prog:Program} {w:World} {A:Around} {E:Value->Shared->Prop} {s:Shared} {K:W.Frag} {x dx C f:Addr} {mA:Str->Option Value} {name:Str} {v:Value}
theorem get_map {expr:Bool}{Q:Value->Shared->Prop}(X:K.In s.heap)(I:ObjM s.heap x dx C mA)(hg:W.plainGet K C name=true)(hh:W.hasDictIn K C=true)
  (ha:W.findIn K (.ref C) name=some none) (hv:mA name=some v) (hv':W.handedIn v=true) (h:Q v { s with toks:=s.toks+1 }):
  wpAny (model prog w) A (getAttr (.ref x) name expr) Q E s:=by
 obtain⟨od,J,hl⟩:=I.look
 exact W.get_value X J (W.plainGet_of hg).1 (W.findObj_own hh ha rfl (by rw[hl,hv])) hv' h
theorem get_meth {pl:Sem Bool}{Q:Value×List Value->Shared->Prop}(X:K.In s.heap)(I:ObjM s.heap x dx C mA)(hg:W.plainGet K C name=true)
  (hf:W.findIn K (.ref C) name=some (some (.ref f))) (ht:W.isFn K (.ref f)=true) (hv:mA name=none) (h:Q (.ref f,[.ref x]) s):
  wpAny (model prog w) A (getMethod (.ref x) name pl) Q E s:=by
 obtain⟨od,J,hl⟩:=I.look
 exact W.method_fn X J (W.plainGet_of hg).1 (W.plainGet_of hg).2 hf (beq_iff_eq.mp ht) (by show(W.lookIn name od).map (·.isSome)=some false;rw[hl,hv];rfl) h
theorem set_map {ns:List Str}{Q:Unit->Shared->Prop}(X:K.In s.heap)(I:ObjM s.heap x dx C mA)
  (hs:W.findIn K (.ref C) "__setattr__"=some (some (.builtin "object.__setattr__"))) (hp:W.plainOver K C=true) (ht:W.takerIn K C name=some none) (hh:W.hasDictIn K C=true)
  (hw:PySem.Within mA ns) (hsz:ns.length<=sizeLine)
  (h:∀h',ObjM h' x dx C (fun y=>if y=name then some v else mA y)->Heap.SameBut dx s.heap h'->Q () { s with heap:=h',toks:=s.toks+2 }):
  wpAny (model prog w) A (setAttr (.ref x) name v) Q E s:=by
 obtain⟨od,J,hl⟩:=I.look
 refine W.set_plain X J hs (W.osa_open (s:={ s with toks:=s.toks+1 }) (r:=none) X J hp ht fun b=>?_)
 obtain⟨cd,hc,hd'⟩:=W.any_some hh
 have hx:s.heap.get? x=some ⟨.ref C,some dx,.plain,#[]⟩:=I.obj
 refine wpAny_bind (wpAny_pure (wpAny_bind (wpAny_bind (wpAny_loadPart hx (wpAny_bind (W.Looks.here (s:={ s with toks:=s.toks+1 }) (W.looks_clsIn X hc) ?_))))))
 rw[hd']
 refine wpAny_pure (a:=some dx) (wpAny_bind (wpAny_pure (wpAny_bind ?_)))
 refine wpAny_nsSet1 (s:={ s with toks:=s.toks+1 }) I.ns fun h' hn2 hs2=>?_
 obtain⟨oD,esD,epD,hoD,hdD,hcD⟩:=hn2.count (PySem.Within.cons name v hw)
 refine wpAny_bind (wpAny_lookBehind hoD (by rw[hdD];exact pastItsLine_dict (Nat.le_trans hcD (by rw[List.length_cons];omega))) ?_)
 exact wpAny_pure (h _ ⟨(hs2.2 _ (Ne.symm I.ne)).trans I.obj,hn2,I.ne⟩ hs2)
theorem make_map {R:Result->Shared->Prop}{vs:List Value}{kw:List (Str×Value)}(X:K.In s.heap)(hm:W.makesIn K C=true)
  (hi:W.findIn K (.ref C) "__init__"=some (some (.ref f))) (hf:W.typeIn K (.ref f)=some (.type "function"))
  (h:codeAny (model prog w) (A.under (.builtin "type.__call__" ⟨.ref C::vs,kw⟩)) (.call (.ref f) ⟨.ref (s.heap.objs.size+1)::vs,kw⟩) (W.InitBack (s.heap.objs.size+1) R)
   { s with heap:=(s.heap.push W.emptyDict).push (W.instObj C s.heap.objs.size) }):
  codeAny (model prog w) A (.call (.ref C) ⟨vs,kw⟩) R s:=by
 obtain⟨hh,g,d,t,os⟩:=s
 exact W.make_core (W.makes_of X hm) (W.looks_findIn X hi) (fun self=>W.bind_fn X self hf) (.inl rfl) h
theorem make_map0 {R:Result->Shared->Prop}(X:K.In s.heap)(hm:W.makesIn K C=true)
  (hi:W.findIn K (.ref C) "__init__"=some (some (.builtin "object.__init__")))
  (hb:∀self,W.Looks (model prog w) s.heap (bindSpecial (.builtin "object.__init__") self) (.builtin "object.__init__",[self]))
  (h:codeAny (model prog w) (A.under (.builtin "type.__call__" ⟨[.ref C],[]⟩)) (.call (.builtin "object.__init__") ⟨[.ref (s.heap.objs.size+1)],[]⟩) (W.InitBack (s.heap.objs.size+1) R)
   { s with heap:=(s.heap.push W.emptyDict).push (W.instObj C s.heap.objs.size) }):
  codeAny (model prog w) A (.call (.ref C) ⟨[],[]⟩) R s:=by
 obtain⟨hh,g,d,t,os⟩:=s
 exact W.make_core (W.makes_of X hm) (W.looks_findIn X hi) hb (.inr ⟨rfl,rfl⟩) h
end
def putF (f:Str)(v:V):List (Str×V)->List (Str×V)
 | []=>[(f,v)]
 | (g,x)::r=>if g=f then(g,v)::r else(g,x)::putF f v r
theorem lookup_putF (f g:Str)(v:V):∀fs:List (Str×V),(putF f v fs).lookup g=if g=f then some v else fs.lookup g
 | []=>by
  show List.lookup g [(f,v)]=_
  by_cases h:g=f
  ·have hb:(g==f)=true:=beq_iff_eq.mpr h
   simp only[List.lookup,hb,if_pos h]
  ·have hb:(g==f)=false:=beq_eq_false_iff_ne.mpr h
   simp only[List.lookup,hb,if_neg h]
 | (k,x)::r=>by
  have ih:=lookup_putF f g v r
  rw[show putF f v ((k,x)::r)=(if k=f then(k,v)::r else(k,x)::putF f v r) from rfl]
  by_cases hk:k=f
  ·rw[if_pos hk]
   by_cases h:g=k
   ·have hb:(g==k)=true:=beq_iff_eq.mpr h
    simp only[List.lookup,hb,if_pos (h.trans hk)]
   ·have hb:(g==k)=false:=beq_eq_false_iff_ne.mpr h
    simp only[List.lookup,hb,if_neg (fun e:g=f=>h (e.trans hk.symm))]
  ·rw[if_neg hk]
   by_cases h:g=k
   ·have hb:(g==k)=true:=beq_iff_eq.mpr h
    simp only[List.lookup,hb,if_neg (fun e:g=f=>hk (h.symm.trans e))]
   ·have hb:(g==k)=false:=beq_eq_false_iff_ne.mpr h
    simp only[List.lookup,hb]
    exact ih
theorem keys_putF (f:Str)(v:V):∀fs:List (Str×V),f∈(putF f v fs).map (·.1)/\∀g,g∈fs.map (·.1)->g∈(putF f v fs).map (·.1)
 | []=>⟨by simp[putF],fun g h=>by simp at h⟩
 | (k,x)::r=>by
  obtain⟨i1,i2⟩:=keys_putF f v r
  rw[show putF f v ((k,x)::r)=(if k=f then(k,v)::r else(k,x)::putF f v r) from rfl]
  by_cases hk:k=f
  ·rw[if_pos hk]
   subst hk
   exact⟨by simp,fun g h=>by simpa using h⟩
  ·rw[if_neg hk]
   refine⟨?_,fun g h=>?_⟩
   ·rw[List.map_cons]
    exact List.mem_cons_of_mem _ i1
   ·rw[List.map_cons] at h ⊢
    rcases List.mem_cons.mp h with e|e
    ·exact List.mem_cons.mpr (.inl e)
    ·exact List.mem_cons_of_mem _ (i2 g e)
theorem length_putF (f:Str)(v:V):∀fs:List (Str×V),(putF f v fs).length<=fs.length+1
 | []=>by simp[putF]
 | (k,x)::r=>by
  have ih:=length_putF f v r
  rw[show putF f v ((k,x)::r)=(if k=f then(k,v)::r else(k,x)::putF f v r) from rfl]
  by_cases hk:k=f
  ·rw[if_pos hk,List.length_cons,List.length_cons];omega
  ·rw[if_neg hk,List.length_cons,List.length_cons];omega
theorem RelO.some_of {v:V}{o:Option Value}(r:RelO (some v) o):∃u,o=some u/\RelV v u:=by
 cases o with
 |none=>exact(show False from r).elim
 |some u=>exact⟨u,rfl,r⟩
theorem RelO.none_of {o:Option Value}(r:RelO none o):o=none:=by
 cases o with
 |none=>rfl
 |some u=>exact(show False from r).elim
theorem handed_of {v:V}{u:Value}(r:RelV v u):W.handedIn u=true:=by
 cases v with
 |non=>cases(show u=Value.none from r);rfl
 |bl b=>cases(show u=Value.bool b from r);rfl
 |int i=>obtain⟨t,e⟩:=(show ∃t,u=Value.int i t from r);cases e;rfl
 |str x=>obtain⟨t,e⟩:=(show ∃t,u=Value.str x t from r);cases e;rfl
 |byt b=>obtain⟨t,e⟩:=(show ∃t,u=Value.bytes b t from r);cases e;rfl
 |flt b=>obtain⟨t,e⟩:=(show ∃t,u=Value.float b t from r);cases e;rfl
 |ref a=>cases(show u=Value.ref a from r);rfl
 |ty n=>cases(show u=Value.type n from r);rfl
section
variable {P:Program} {w:World} {H H':Hp} {h h':Heap} {a C dx:Addr} {fs fs':List (Str×V)}
theorem ins_get (hok:HOk P w H h)(e:H a=some (.ins C dx fs)):∃mA,ObjM h a dx C mA/\(∀f,RelO (fs.lookup f) (mA f))/\PySem.Within mA (fs.map (·.1))/\fs.length<=1000/\H dx=some (.own a):=by
 obtain⟨d,z,ne,ob,mA,n,r,q⟩:=(show ObjOk P w H h a (.ins C dx fs) from hok a _ e)
 exact⟨mA,⟨ob,n,ne⟩,r,q,z,d⟩
end
structure Cls (K:W.Frag)(C:Addr):Prop where
 pg:W.plainGet K C Str.empty=true
 hd:W.hasDictIn K C=true
 po:W.plainOver K C=true
 sa:W.findIn K (.ref C) "__setattr__"=some (some (.builtin "object.__setattr__"))
theorem Cls.get {K:W.Frag}{C:Addr}(c:Cls K C)(f:Str):W.plainGet K C f=true:=c.pg
def NoAttr (K:W.Frag)(C:Addr)(f:Str):Prop:=W.findIn K (.ref C) f=some none
theorem NoAttr.taker {K:W.Frag}{C:Addr}{f:Str}(n:NoAttr K C f):W.takerIn K C f=some none:=by
 unfold W.takerIn
 rw[show W.findIn K (.ref C) f=some none from n]
 rfl
structure Con (K:W.Frag)(C:Addr)(f:Str)(v:V)(u:Value):Prop where
 at_:W.findIn K (.ref C) f=some (some u)
 rel:RelV v u
 get:W.specialIn K u "__get__"=some none
 cp:W.copiedNames.contains f=false
structure Meth (K:W.Frag)(C:Addr)(m:Str)(f:Addr):Prop where
 at_:W.findIn K (.ref C) m=some (some (.ref f))
 fn:W.isFn K (.ref f)=true
 kp:W.keepIn K (.ref f)=true
section
variable {X:Cx} {pins:List (Addr×Obj)} {σ:St} {H:Hp} {s:Shared} {a C dx:Addr} {fs:List (Str×V)} {f:Str} {v:V} {A:Around} {E:Value->Shared->Prop}
theorem getattr_ok {b:Bool}{Q:Value->Shared->Prop}(I:Inv X pins σ H s)(e:H a=some (.ins C dx fs))(c:Cls X.K C)(n:NoAttr X.K C f)(l:fs.lookup f=some v)
  (h:∀u s',Inv X pins σ H s'->RelV v u->Q u s'):wpAny (model X.prog X.w) A (getAttr (.ref a) f b) Q E s:=by
 obtain⟨mA,O,r,_,_,_⟩:=ins_get I.hok e
 obtain⟨u,hu,ru⟩:=RelO.some_of (v:=v) (o:=mA f) (by rw[<- l];exact r f)
 exact get_map I.kIn O (c.get f) c.hd n hu (handed_of ru) (h u _ (I.tok _) ru)
theorem getmeth_ok {m:Str}{g:Addr}{pl:Sem Bool}{Q:Value×List Value->Shared->Prop}(I:Inv X pins σ H s)(e:H a=some (.ins C dx fs))(c:Cls X.K C)(k:Meth X.K C m g)(l:fs.lookup m=none)
  (h:Q (.ref g,[.ref a]) s):wpAny (model X.prog X.w) A (getMethod (.ref a) m pl) Q E s:=by
 obtain⟨mA,O,r,_,_,_⟩:=ins_get I.hok e
 have hn:mA m=none:=RelO.none_of (by rw[<- l];exact r m)
 exact get_meth I.kIn O (c.get m) k.at_ k.fn hn h
theorem setattr_ok {y:V}{u:Value}{Q:Unit->Shared->Prop}(I:Inv X pins σ H s)(e:H a=some (.ins C dx fs))(c:Cls X.K C)(n:NoAttr X.K C f)(hl:fs.length<1000)(ry:RelV y u)
  (h:∀s',Inv X pins σ (upd H a (.ins C dx (putF f y fs))) s'->Q () s'):wpAny (model X.prog X.w) A (setAttr (.ref a) f u) Q E s:=by
 obtain⟨mA,O,r,wi,_,ho⟩:=ins_get I.hok e
 have hz:(fs.map (·.1)).length<=sizeLine:=by rw[List.length_map,sizeLine_eq];omega
 refine set_map I.kIn O c.sa c.po n.taker c.hd wi hz fun h' O' sb=>h _ ?_
 have hd:∃o,h'.get? dx=some o:=let ⟨o,_,_,e',_⟩:=O'.ns;⟨o,e'⟩
 refine I.write (x:=a) (e:=dx) (by rw[e];exact True.intro) (.inr ho) (fun b q hb z=>(sb.2 b hb).trans z) hd ?_
 refine⟨by rw[upd_ne O.ne];exact ho,?_,O.ne,O'.obj,_,O'.ns,fun g=>?_,fun g hg=>?_⟩
 ·have:=length_putF f y fs;omega
 ·show RelO ((putF f y fs).lookup g) (if g=f then some u else mA g)
  rw[lookup_putF]
  by_cases q:g=f
  ·rw[if_pos q,if_pos q];exact ry
  ·rw[if_neg q,if_neg q];exact r g
 ·by_cases q:g=f
  ·rw[q];exact(keys_putF f y fs).1
  ·refine(keys_putF f y fs).2 g (wi g fun z=>hg ?_)
   show(if g=f then some u else mA g)=none
   rw[if_neg q];exact z
theorem Inv.made (I:Inv X pins σ H s):Inv X pins σ (upd (upd H s.heap.objs.size (.own (s.heap.objs.size+1))) (s.heap.objs.size+1) (.ins C s.heap.objs.size []))
  { s with heap:=(s.heap.push W.emptyDict).push (W.instObj C s.heap.objs.size) }:=by
 have e1:(s.heap.push W.emptyDict).get? s.heap.objs.size=some W.emptyDict:=Heap.get?_push_size s.heap rfl
 have e2:((s.heap.push W.emptyDict).push (W.instObj C s.heap.objs.size)).get? (s.heap.objs.size+1)=some (W.instObj C s.heap.objs.size):=by
  have:=Heap.get?_push_size (s.heap.push W.emptyDict) (o:=W.instObj C s.heap.objs.size) rfl
  rwa [Heap.size_push] at this
 have e3:(s.heap.push W.emptyDict).Ns s.heap.objs.size (fun _=>none):=⟨W.emptyDict,#[],_,e1,rfl,(fun e he=>absurd he (by simp)),fun _=>rfl⟩
 have I1:=I.laid (a:=s.heap.objs.size) (o:=.own (s.heap.objs.size+1)) (h':=s.heap.push W.emptyDict) (t':=s.toks) (fun b u q=>Heap.get?_push_of_some _ q) (Nat.le_refl _) ⟨_,e1⟩
 refine I1.laid (a:=s.heap.objs.size+1) (o:=.ins C s.heap.objs.size []) (t':=s.toks) (fun b u q=>Heap.get?_push_of_some _ q) (Nat.le_of_eq (Heap.size_push _ _)) ?_
 have ne:s.heap.objs.size≠s.heap.objs.size+1:=Nat.ne_of_lt (Nat.lt_succ_self _)
 refine⟨by rw[upd_ne ne,upd_same],Nat.zero_le _,ne,e2,fun _=>none,(Heap.Ns1.of_empty e3).at fun o q=>Heap.get?_push_of_some _ q,fun _=>True.intro,fun y hy=>absurd rfl hy⟩
theorem attr_of {prog:Program}{w:World}{env:Env}{e:Expr}{f:Str}{pos:Pos}{s:Shared}{Q:Value->Shared->Prop}(hb:attributeBase e f env (eval e env)=eval e env)
  (h:wpAny (model prog w) A (eval e env) (fun o s₁=>wpAny (model prog w) A (getAttr o f true) Q E s₁) E s):wpAny (model prog w) A (eval (.Attribute e f pos) env) Q E s:=
 Attribute_any_ h (by rw[arm_eval_Attribute,hb])
end
def tFld (K:W.Frag)(ta:TE)(f:Str):TE:=fun σ H Q=>ta σ H fun x H1=>∃a C dx fs v,x=.ref a/\H1 a=some (.ins C dx fs)/\Cls K C/\NoAttr K C f/\fs.lookup f=some v/\Q v H1
def sFld (K:W.Frag)(ta tv:TE)(f:Str):TS:=fun D σ H=>tv σ H fun y H1=>ta σ H1 fun x H2=>∃a C dx fs,x=.ref a/\H2 a=some (.ins C dx fs)/\Cls K C/\NoAttr K C f/\fs.length<1000∧
 D.nx σ (upd H2 a (.ins C dx (putF f y fs)))
section
variable {X:Cx} {o e value:Expr} {f:Str} {pos pos' tpos:Pos} {ta tv:TE}
theorem pe_fld (he:PE X e ta)(hb:attributeBase e f X.env (eval e X.env)=eval e X.env):PE X (.Attribute e f pos) (tFld X.K ta f):=by
 intro pins s σ H Q I h
 refine attr_of hb (thn (he pins s σ H _ I h) fun u s1 ⟨x,H1,I1,rx,a,C,dx,fs,v,ex,ea,c,n,l,q⟩=>?_)
 subst ex
 obtain rfl:u=Value.ref a:=rx
 exact getattr_ok I1 ea c n l fun u' s2 I2 ru=>⟨v,H1,I2,ru,q⟩
theorem ps_fld (ha:PE X o ta)(hv:PE X value tv)(hs:swapsWith value (some (.Attribute o f pos')) pos.line X.env=pure false):PS X (.Assign [.Attribute o f pos'] value pos) (sFld X.K ta tv f):=by
 intro pins s σ H D I h
 refine plainObj_wpAny_Assign_Attribute (thn (hv pins s σ H _ I h) fun u s1 ⟨y,H1,I1,ry,q⟩=>thn (ha pins s1 σ H1 _ I1 q) fun ov s2 ⟨x,H2,I2,rx,a,C,dx,fs,ex,ea,c,n,l,q2⟩=>?_) hs
 subst ex
 obtain rfl:ov=Value.ref a:=rx
 exact setattr_ok I2 ea c n l ry fun s3 I3=>⟨σ,_,I3,q2⟩
end
section
variable {X:Cx} {pins:List (Addr×Obj)} {σ:St} {H:Hp} {s:Shared} {A:Around} {E:Value->Shared->Prop} {Q:Value->Shared->Prop} {c:Value} {b:Bool}
inductive TyOf (K:W.Frag) (H:Hp):V->Value->Prop where
 |non:TyOf K H .non (.type "NoneType")
 |bl (x:Bool):TyOf K H (.bl x) (.type "bool")
 |int (i:Int):TyOf K H (.int i) (.type "int")
 |str (x:Str):TyOf K H (.str x) (.type "str")
 |flt (x:UInt64):TyOf K H (.flt x) (.type "float")
 |lst {a:Addr} {xs:List V} (e:H a=some (.lst xs)):TyOf K H (.ref a) (.type "list")
 |frz {a:Addr} {o:Obj} {xs:List V} (e:H a=some (.frz o (.lst xs))):TyOf K H (.ref a) (.type "list")
 |tup {a:Addr} {xs:List V} (e:H a=some (.tup xs)):TyOf K H (.ref a) (.type "tuple")
 |dK {a:Addr} {kvs:List (Key×V)} (e:H a=some (.dK kvs)):TyOf K H (.ref a) (.type "dict")
 |dT {a:Addr} {kvs:List (List Key×V)} (e:H a=some (.dT kvs)):TyOf K H (.ref a) (.type "dict")
 |ins {a C dx:Addr} {fs:List (Str×V)} (e:H a=some (.ins C dx fs)) (cl:Cls K C) (ha:W.findIn K (.ref C) "__class__"=some (some (.builtin "object.__class__")))
   (hn:W.specialIn K (.builtin "object.__class__") "__get__"=some (some (.builtin "getset_descriptor.__get__"))) (htk:W.takesIn K (.builtin "object.__class__")=some true)
   (hm:W.mroIn K C (.type "object")=some true):TyOf K H (.ref a) (.ref C)
theorem isinst_ok {x:V}{u t:Value}(I:Inv X pins σ H s)(rx:RelV x u)(ty:TyOf X.K H x t)(e:W.kitOne X.K t c=some b)(h:∀tk,Q (.bool b) { s with toks:=tk }):
  wpAny (model X.prog X.w) A (call (.builtin "isinstance") [u,c]) Q E s:=by
 cases ty with
 |non=>cases(show u=Value.none from rx);exact W.kia_one W.kitx_none I.kIn True.intro e (fun z=>nomatch z) h
 |bl y=>cases(show u=Value.bool y from rx);exact W.kia_one W.kitx_bool I.kIn True.intro e (fun z=>nomatch z) h
 |int i=>obtain⟨t,q⟩:=(show ∃t,u=Value.int i t from rx);cases q;exact W.kia_one W.kitx_int I.kIn True.intro e (fun z=>nomatch z) h
 |str y=>obtain⟨t,q⟩:=(show ∃t,u=Value.str y t from rx);cases q;exact W.kia_one W.kitx_str I.kIn True.intro e (fun z=>nomatch z) h
 |flt y=>obtain⟨t,q⟩:=(show ∃t,u=Value.float y t from rx);cases q;exact W.kia_one W.kitx_float I.kIn True.intro e (fun z=>nomatch z) h
 |@lst a xs ea=>
  cases(show u=Value.ref a from rx)
  obtain⟨_,_,n,_,h1⟩:=(show ObjOk X.prog X.w H s.heap a (.lst xs) from I.hok a _ ea)
  exact W.kia_one W.kitx_list I.kIn ⟨_,h1,rfl⟩ e (fun z=>nomatch z) h
 |@frz a ob xs ea=>
  cases(show u=Value.ref a from rx)
  obtain⟨_,_,_,n,_,h1⟩:=(show ObjOk X.prog X.w H s.heap a (.frz ob (.lst xs)) from I.hok a _ ea)
  exact W.kia_one W.kitx_list I.kIn ⟨_,h1,rfl⟩ e (fun z=>nomatch z) h
 |@tup a xs ea=>
  cases(show u=Value.ref a from rx)
  obtain⟨_,_,_,p⟩:=(show ObjOk X.prog X.w H s.heap a (.tup xs) from I.hok a _ ea)
  obtain⟨o,h1,h2,_⟩:=p
  exact W.kia_one W.kitx_tuple I.kIn ⟨o,h1,h2⟩ e (fun z=>nomatch z) h
 |@dK a kvs ea=>
  cases(show u=Value.ref a from rx)
  obtain⟨_,_,vs,_,p⟩:=(show ObjOk X.prog X.w H s.heap a (.dK kvs) from I.hok a _ ea)
  obtain⟨o,es,ep,h1,h2,_⟩:=p
  exact W.kia_one W.kitx_dict I.kIn ⟨o,h1,h2.1⟩ e (fun z=>nomatch z) h
 |@dT a kvs ea=>
  cases(show u=Value.ref a from rx)
  obtain⟨_,_,xs,_,o,es,ep,h1,h2,_⟩:=(show ObjOk X.prog X.w H s.heap a (.dT kvs) from I.hok a _ ea)
  exact W.kia_one W.kitx_dict I.kIn ⟨o,h1,h2.1⟩ e (fun z=>nomatch z) h
 |@ins a C dx fs ea cl ha hn htk hm=>
  cases(show u=Value.ref a from rx)
  obtain⟨mA,O,_⟩:=ins_get I.hok ea
  obtain⟨od,J,_⟩:=O.look
  exact W.kia_one (W.kitx_own (cl.get _) cl.hd ha hn htk hm) I.kIn J e (fun z=>nomatch z) h
end
end L2
namespace L2
open PySem PySem.Spec PyProof.Rows
structure Room (k:Nat)(A:Around):Prop where
 hd:A.handled=none
 dp:A.depth+3*k+5<recursionLimit
 un:A.units+16*k+200<cLine
theorem Room.mono {j k:Nat}{A:Around}(r:Room k A)(h:j<=k):Room j A:=⟨r.hd,by have:=r.dp;omega,by have:=r.un;omega⟩
theorem Room.deeper {k:Nat}{A:Around}(r:Room (k+1) A)(env:Env):Room k (A.deeper env):=
 ⟨r.hd,by have:=r.dp;show A.depth+1+3*k+5<_;omega,by have:=r.un;show A.units+3+16*k+200<_;omega⟩
theorem make_depth {A:Around}{C:Addr}{us:List Value}{kw:List (Str×Value)}:(A.under (.builtin "type.__call__" ⟨.ref C::us,kw⟩)).depth=A.depth+1:=by
 first|rfl|simp[Around.under,Code.weight,Code.isCreation,Code.isGuard,Code.isCaller,Code.frames,Code.isFrame,guardIds]
theorem make_units {A:Around}{C:Addr}{us:List Value}{kw:List (Str×Value)}:(A.under (.builtin "type.__call__" ⟨.ref C::us,kw⟩)).units=A.units+1:=by
 first|rfl|simp[Around.under,Code.cUnits,Code.frames,Code.isFrame]
theorem Room.make {k:Nat}{A:Around}(r:Room (k+1) A)(C:Addr)(us:List Value)(kw:List (Str×Value)):Room k (A.under (.builtin "type.__call__" ⟨.ref C::us,kw⟩)):=
 ⟨r.hd,by have:=r.dp;rw[make_depth];omega,by have:=r.un;rw[make_units];omega⟩
theorem Room.depth {k:Nat}{A:Around}(r:Room k A):A.depth<recursionLimit:=by have:=r.dp;omega
theorem Room.units {k:Nat}{A:Around}(r:Room k A):A.units+64<cLine:=by have:=r.un;omega
def tNil:TA:=fun _ H Q=>Q [] H
def tCons (ta:TE)(tr:TA):TA:=fun σ H Q=>ta σ H fun x H1=>tr σ H1 fun xs H2=>Q (x::xs) H2
section
variable {X:Cx} {e:Expr} {es:List Expr} {te:TE} {t:TA} {pos:Pos}
theorem pa_nil:PA X [] tNil:=fun _ _ _ _ H Q I h=>Calls.spliced_nil ⟨[],H,I,.nil,h⟩
theorem pa_cons (ha:PE X e te)(hr:PA X es t)(hs:starEach (e::es) X.env=(false,eval e X.env)::starEach es X.env:=by rfl):PA X (e::es) (tCons te t):=by
 intro pos pins s σ H Q I h
 rw[hs]
 show wpAny _ _ (spliced ((false,eval e X.env)::backTo pos (starEach es X.env))) _ _ s
 refine Calls.spliced_cons (thn (ha pins s σ H _ I h) fun u s1 ⟨x,H1,I1,r1,q1⟩=>?_)
 exact thn (hr pos pins s1 σ H1 _ I1 q1) fun us s2 ⟨xs,H2,I2,r2,q2⟩=>⟨x::xs,H2,I2,.cons r1 r2,q2⟩
def tTup (t:TA):TE:=fun σ H Q=>t σ H fun xs H1=>xs.length<=sizeLine/\∀p,H1 p=none->Q (.ref p) (upd H1 p (.tup xs))
def tLst (t:TA):TE:=fun σ H Q=>t σ H fun xs H1=>xs.length<=sizeLine/\∀p,H1 p=none->Q (.ref p) (upd H1 p (.lst xs))
theorem pe_tup {x1}(h:PA X es t):PE X (.Tuple es x1 pos) (tTup t):=by
 intro pins s σ H Q I hq
 refine wpAny_Tuple_spliced (thn (h pos pins s σ H _ I hq) fun us s1 ⟨xs,H1,I1,r,z,q⟩=>⟨by rw[<- r.length];exact z,?_⟩)
 have hf:H1 s1.heap.objs.size=none:=I1.hok.fresh (Nat.le_refl _)
 refine⟨.ref s1.heap.objs.size,upd H1 s1.heap.objs.size (.tup xs),I1.laid (t':=s1.toks) (fun b u e=>Heap.get?_push_of_some _ e) (Nat.le_refl _) ?_,rfl,q _ hf⟩
 exact⟨z,us,r,⟨_,Heap.get?_push_size _ rfl,rfl,_,rfl⟩⟩
theorem pe_lst (h:PA X es t):PE X (.List es pos) (tLst t):=by
 intro pins s σ H Q I hq
 refine wpAny_List_spliced (thn (h pos pins s σ H _ I hq) fun us s1 ⟨xs,H1,I1,r,z,q⟩=>⟨by rw[<- r.length];exact z,?_⟩)
 have hf:H1 s1.heap.objs.size=none:=I1.hok.fresh (Nat.le_refl _)
 refine⟨.ref s1.heap.objs.size,upd H1 s1.heap.objs.size (.lst xs),I1.laid (t':=s1.toks) (fun b u e=>Heap.get?_push_of_some _ e) (Nat.le_refl _) ?_,rfl,q _ hf⟩
 exact⟨z,us,0,r,Heap.get?_push_size _ rfl⟩
end
abbrev Sp:=List V->Hp->VK->XK->Prop
abbrev CXT:=List Env->Hp->Shared->XK->Value->Shared->Prop
structure Env0 (P:Program)(w:World)(K:W.Frag)(mg:Str->Option Value)(base:Heap)(A:Around)(outer:List Env)(s:Shared)(H:Hp):Prop where
 frames:A.frames=some outer
 mod:Mod K mg base
 bs:∀b o,base.get? b=some o->s.heap.get? b=some o/\H b=none
 bsz:base.objs.size<=s.heap.objs.size
 funs:s.heap.FunFrames base outer
 frf:∀b∈frs outer,H b=none
 hok:HOk P w H s.heap
 bare:AllBare s.gens
def CE (outer:List Env)(P:Program)(w:World)(H:Hp)(s:Shared)(Q:VK)(u:Value)(s':Shared):Prop:=
 ∃v H',s'.os=s.os/\AllBare s'.gens/\Un (frs outer) [] H H' s.heap s'.heap/\HOk P w H' s'.heap/\RelV v u/\Q v H'
def CR (CX:CXT)(outer:List Env)(P:Program)(w:World)(H:Hp)(s:Shared)(Q:VK)(E:XK)(r:Result)(s':Shared):Prop:=
 match r with
 |.ok (.ret u)=>CE outer P w H s Q u s'
 |.ok _=>False
 |.error e=>CX outer H s E e s'
structure FnOk (P:Program)(w:World)(K:W.Frag)(mg:Str->Option Value)(base:Heap)(CX:CXT)(k:Nat)(f:Addr)(fd:FuncData)(ps:List Str)(sp:Sp):Prop where
 len:∀vs H Q E,sp vs H Q E->vs.length=ps.length
 run:∀(A:Around) (outer:List Env) (s:Shared) (H:Hp) (args:Args) (us:List Value) (vs:List V) (Q:VK) (E:XK),Room k A->Env0 P w K mg base A outer s H->BindsTo s fd args (ps.zip us)->Vals vs us->sp vs H Q E→
  codeAny (model P w) A (.call (.ref f) args) (CR CX outer P w H s Q E) s
theorem FnOk.mono {P:Program}{w:World}{K:W.Frag}{mg:Str->Option Value}{base:Heap}{CX:CXT}{j k:Nat}{f:Addr}{fd:FuncData}{ps:List Str}{sp:Sp}(F:FnOk P w K mg base CX j f fd ps sp)(h:j<=k):
  FnOk P w K mg base CX k f fd ps sp:=⟨F.len,fun A outer s H args us vs Q E hr=>F.run A outer s H args us vs Q E (hr.mono h)⟩
theorem Env0.make {P:Program}{w:World}{K:W.Frag}{mg:Str->Option Value}{base:Heap}{A:Around}{outer:List Env}{s:Shared}{H:Hp}(e:Env0 P w K mg base A outer s H)(C:Addr)(us:List Value)(kw:List (Str×Value)):
  Env0 P w K mg base (A.under (.builtin "type.__call__" ⟨.ref C::us,kw⟩)) outer s H:=⟨by first|exact e.frames|(simpa [Around.under,Code.envs,Code.isFrame,pushEnvs] using e.frames),e.mod,e.bs,e.bsz,e.funs,e.frf,e.hok,e.bare⟩
section
variable {X:Cx} {pins:List (Addr×Obj)} {σ:St} {H:Hp} {s s':Shared}
theorem Inv.env0 (I:Inv X pins σ H s):Env0 X.prog X.w X.K X.mg X.base X.A X.stack s H:=
 ⟨I.ok.frames,I.ok.mod,I.bs,Nat.le_trans I.ok.bsz I.sz,I.stack,I.stkFree,I.hok,I.bare⟩
theorem Inv.after {Q:VK}{u:Value}(I:Inv X pins σ H s)(h:CE X.stack X.prog X.w H s Q u s'):EP X pins σ Q u s':=by
 obtain⟨v,H',os,bare,un,hok,r,q⟩:=h
 obtain⟨hh,g,d,t,os'⟩:=s'
 obtain rfl:os'=s.os:=os
 exact⟨v,H',I.call (h':=hh) (g':=g) (d':=d) (t':=t) (ch:=[]) un hok bare (fun b z=>absurd z (by simp)),r,q⟩
end
def tCall (sp:Sp)(dvs:List V)(E:XK)(t:TA):TE:=fun σ H Q=>t σ H fun vs H1=>sp (vs++dvs) H1 Q E
def tMeth (C:Addr)(m:Str)(sp:Sp)(dvs:List V)(E:XK)(ta:TE)(t:TA):TE:=fun σ H Q=>ta σ H fun x H1=>∃a dx fs,x=.ref a/\H1 a=some (.ins C dx fs)/\fs.lookup m=none∧
 t σ H1 fun vs H2=>sp (x::(vs++dvs)) H2 Q E
def tMake (C:Addr)(sp:Sp)(dvs:List V)(E:XK)(t:TA):TE:=fun σ H Q=>t σ H fun vs H1=>∀x dx,H1 x=none->H1 dx=none->dx≠x→
 sp (.ref x::(vs++dvs)) (upd (upd H1 dx (.own x)) x (.ins C dx [])) (fun v H2=>v=.non/\Q (.ref x) H2) E
def Binds (K:W.Frag)(fd:FuncData)(ps:List Str)(ds:List Value):Prop:=
 ∀(s:Shared) (us:List Value),K.In s.heap->(us++ds).length=ps.length->BindsTo s fd ⟨us,[]⟩ (ps.zip (us++ds))
theorem Binds.all {K:W.Frag}{fd:FuncData}{ps:List Str}(h:∀us:List Value,us.length=ps.length->bindArgs fd ⟨us,[]⟩=pure (ps.zip us)):Binds K fd ps []:=fun s us _ hl=>by
 rw[List.append_nil] at hl ⊢
 exact .of_eq (h us hl)
def Passes (CX:CXT)(X:Cx)(E:XK):Prop:=∀(pins:List (Addr×Obj)) (σ:St) (H:Hp) (s:Shared) (e:Value) (s':Shared),Inv X pins σ H s->CX X.stack H s E e s'->X.xe e s'
section
variable {X:Cx} {CX:CXT} {k:Nat} {f C:Addr} {fd:FuncData} {ps:List Str} {sp:Sp} {dvs:List V} {ds:List Value} {E:XK} {x m:Str} {p pos apos:Pos} {e o:Expr} {es:List Expr} {ta:TE} {t:TA}
theorem run_fn {pins:List (Addr×Obj)}{σ:St}{H:Hp}{s:Shared}{Q:VK}{us:List Value}{vs:List V}(F:FnOk X.prog X.w X.K X.mg X.base CX k f fd ps sp)(hr:Room k X.A)(hb:Binds X.K fd ps ds)(hd:Vals dvs ds)(hx:Passes CX X E)
  (I:Inv X pins σ H s) (r:Vals vs us) (h:sp (vs++dvs) H Q E):wpAny (model X.prog X.w) X.A (call (.ref f) us) (EP X pins σ Q) X.xe s:=by
 have r2:Vals (vs++dvs) (us++ds):=r.append hd
 have hl:(us++ds).length=ps.length:=by rw[<- r2.length];exact F.len _ _ _ _ h
 refine wpAny_call (codeAny_mono (F.run X.A X.stack s H ⟨us,[]⟩ (us++ds) (vs++dvs) Q E hr I.env0 (hb s us I.kIn hl) r2 h) fun r s' hq=>?_)
 cases r with
 |error e=>exact hx pins σ H s e s' I hq
 |ok fl=>
  cases fl with
  |ret u=>exact I.after hq
  |next=>exact False.elim hq
  |brk=>exact False.elim hq
  |cont=>exact False.elim hq
theorem pe_call (F:FnOk X.prog X.w X.K X.mg X.base CX k f fd ps sp)(hr:Room k X.A)(hg:Gl X x)(hm:X.mg x=some (.ref f))(hk:W.keepIn X.K (.ref f)=true)(hb:Binds X.K fd ps ds)(hd:Vals dvs ds)(hx:Passes CX X E)
  (ha:PA X (e::es) t) (hdb:(x==("__debug__":Str))=false:=by decide) (he:starEach (e::es) X.env=(false,eval e X.env)::starEach es X.env:=by rfl) (hpl:(backTo pos (starEach es X.env)).any (·.1)=false:=by rfl):
  PE X (.Call (.Name x p) (e::es) [] pos) (tCall sp dvs E t):=by
 intro pins s σ H Q I h
 refine wpAny_Call_Name_kw (ld_glob I hg hm ?_ hdb)
 refine W.callWith_K (h₀:=X.base) I.ok.mod.kin hk (thn (ha pos pins s σ H _ I h) fun us s1 ⟨vs,H1,I1,r,q⟩=>⟨I1.kIn,?_⟩) he hpl
 exact run_fn F hr hb hd hx I1 r q
theorem pe_call0 (F:FnOk X.prog X.w X.K X.mg X.base CX k f fd ps sp)(hr:Room k X.A)(hg:Gl X x)(hm:X.mg x=some (.ref f))(hk:W.keepIn X.K (.ref f)=true)(hb:Binds X.K fd ps ds)(hd:Vals dvs ds)(hx:Passes CX X E)
  (hdb:(x==("__debug__":Str))=false:=by decide):PE X (.Call (.Name x p) [] [] pos) (tCall sp dvs E tNil):=by
 intro pins s σ H Q I h
 refine wpAny_Call_Name_kw (ld_glob I hg hm ?_ hdb)
 exact W.callWith_K0 I.kIn hk (run_fn (us:=[]) F hr hb hd hx I .nil h)
theorem pe_meth {pl:Sem Bool}(he:PE X o ta)(c:Cls X.K C)(hm:Meth X.K C m f)(F:FnOk X.prog X.w X.K X.mg X.base CX k f fd ps sp)(hr:Room k X.A)(hb:Binds X.K fd ps ds)(hd:Vals dvs ds)(hx:Passes CX X E)(ha:PA X (e::es) t)
  (hst:starEach (e::es) X.env=(false,eval e X.env)::starEach es X.env:=by rfl) (hpl:(backTo pos (starEach es X.env)).any (·.1)=false:=by rfl)
  (ht:eval (.Call (.Attribute o m apos) (e::es) [] pos) X.env=(do
   let ov ← eval o X.env
   standAt apos.atName
   let (f,first) ← holding [ov] (getMethod ov m pl)
   callWith pos f first (backTo pos (starEach (e::es) X.env)) (backToKw pos (keywordEach [] X.env))):=by rfl):
  PE X (.Call (.Attribute o m apos) (e::es) [] pos) (tMeth C m sp dvs E ta t):=by
 intro pins s σ H Q I h
 refine W.methodCall_KW (pl:=pl) (thn (he pins s σ H _ I h) fun u s1 ⟨x,H1,I1,rx,a,dx,fs,ex,ea,l,q⟩=>?_) ht
 subst ex
 obtain rfl:u=Value.ref a:=rx
 refine getmeth_ok I1 ea c hm l ?_
 refine W.callWith_K (first:=[.ref a]) (h₀:=X.base) I.ok.mod.kin hm.kp (thn (ha pos pins s1 σ H1 _ I1 q) fun us s2 ⟨vs,H2,I2,r,q2⟩=>⟨I2.kIn,?_⟩) hst hpl
 exact run_fn (us:=.ref a::us) (vs:=.ref a::vs) F hr hb hd hx I2 (.cons rfl r) q2
theorem pe_meth0 {pl:Sem Bool}(he:PE X o ta)(c:Cls X.K C)(hm:Meth X.K C m f)(F:FnOk X.prog X.w X.K X.mg X.base CX k f fd ps sp)(hr:Room k X.A)(hb:Binds X.K fd ps ds)(hd:Vals dvs ds)(hx:Passes CX X E)
  (ht:eval (.Call (.Attribute o m apos) [] [] pos) X.env=(do
   let ov ← eval o X.env
   standAt apos.atName
   let (f,first) ← holding [ov] (getMethod ov m pl)
   callWith pos f first (backTo pos (starEach [] X.env)) (backToKw pos (keywordEach [] X.env))):=by rfl):
  PE X (.Call (.Attribute o m apos) [] [] pos) (tMeth C m sp dvs E ta tNil):=by
 intro pins s σ H Q I h
 refine W.methodCall_KW (pl:=pl) (thn (he pins s σ H _ I h) fun u s1 ⟨x,H1,I1,rx,a,dx,fs,ex,ea,l,q⟩=>?_) ht
 subst ex
 obtain rfl:u=Value.ref a:=rx
 refine getmeth_ok I1 ea c hm l ?_
 exact W.callWith_K0 (first:=[.ref a]) I1.kIn hm.kp (run_fn (us:=[.ref a]) (vs:=[.ref a]) F hr hb hd hx I1 (.cons rfl .nil) q)
structure Mk (K:W.Frag)(C f:Addr):Prop where
 makes:W.makesIn K C=true
 init:W.findIn K (.ref C) "__init__"=some (some (.ref f))
 fn:W.isFn K (.ref f)=true
 kp:W.keepIn K (.ref C)=true
theorem run_make {pins:List (Addr×Obj)}{σ:St}{H:Hp}{s:Shared}{Q:VK}{us:List Value}{vs:List V}(M:Mk X.K C f)(F:FnOk X.prog X.w X.K X.mg X.base CX k f fd ps sp)(hr:Room (k+1) X.A)(hb:Binds X.K fd ps ds)(hd:Vals dvs ds)
  (hx:Passes CX X E) (I:Inv X pins σ H s) (r:Vals vs us)
  (h:∀x dx,H x=none->H dx=none->dx≠x->sp (.ref x::(vs++dvs)) (upd (upd H dx (.own x)) x (.ins C dx [])) (fun v H2=>v=.non/\Q (.ref x) H2) E):
  wpAny (model X.prog X.w) X.A (call (.ref C) us) (EP X pins σ Q) X.xe s:=by
 have hq:=h (s.heap.objs.size+1) s.heap.objs.size (I.hok.fresh (Nat.le_succ _)) (I.hok.fresh (Nat.le_refl _)) (Nat.ne_of_lt (Nat.lt_succ_self _))
 have I2:=Inv.made (C:=C) I
 have r2:Vals (V.ref (s.heap.objs.size+1)::(vs++dvs)) (Value.ref (s.heap.objs.size+1)::(us++ds)):=.cons rfl (r.append hd)
 have hl:(Value.ref (s.heap.objs.size+1)::us++ds).length=ps.length:=by
  have e:=r2.length
  rw[F.len _ _ _ _ hq] at e
  exact e.symm
 refine wpAny_call (make_map (f:=f) I.kIn M.makes M.init (beq_iff_eq.mp M.fn) (codeAny_mono (F.run _ X.stack _ _ ⟨Value.ref (s.heap.objs.size+1)::us,[]⟩ (Value.ref (s.heap.objs.size+1)::(us++ds)) _ _ E (hr.make C us [])
  (I2.env0.make C us []) (hb _ (Value.ref (s.heap.objs.size+1)::us) I2.kIn hl) r2 hq) fun r s' hq'=>?_))
 cases r with
 |error e=>exact hx pins σ _ _ e s' I2 hq'
 |ok fl=>
  cases fl with
  |ret u=>
   obtain⟨v,H',I3,rv,ev,q3⟩:=I2.after hq'
   subst ev
   exact⟨rv,⟨V.ref (s.heap.objs.size+1),H',I3,rfl,q3⟩⟩
  |next=>exact False.elim hq'
  |brk=>exact False.elim hq'
  |cont=>exact False.elim hq'
theorem pe_make (M:Mk X.K C f)(F:FnOk X.prog X.w X.K X.mg X.base CX k f fd ps sp)(hr:Room (k+1) X.A)(hg:Gl X x)(hm:X.mg x=some (.ref C))(hb:Binds X.K fd ps ds)(hd:Vals dvs ds)(hx:Passes CX X E)
  (ha:PA X (e::es) t) (hdb:(x==("__debug__":Str))=false:=by decide) (he:starEach (e::es) X.env=(false,eval e X.env)::starEach es X.env:=by rfl) (hpl:(backTo pos (starEach es X.env)).any (·.1)=false:=by rfl):
  PE X (.Call (.Name x p) (e::es) [] pos) (tMake C sp dvs E t):=by
 intro pins s σ H Q I h
 refine wpAny_Call_Name_kw (ld_glob I hg hm ?_ hdb)
 refine W.callWith_K (h₀:=X.base) I.ok.mod.kin M.kp (thn (ha pos pins s σ H _ I h) fun us s1 ⟨vs,H1,I1,r,q⟩=>⟨I1.kIn,?_⟩) he hpl
 exact run_make M F hr hb hd hx I1 r q
end
section
variable {X:Cx} {CX:CXT} {k:Nat} {f C:Addr} {fd:FuncData} {ps ks:List Str} {sp:Sp} {E:XK} {x m:Str} {p pos apos kpos:Pos} {e o:Expr} {es:List Expr} {kws:List Keyword} {te ta:TE} {t tk:TA} {nm:Option Str}
structure KBinds (K:W.Frag)(fd:FuncData)(ps ks:List Str)(g:List Value->List Value->List Value)(gV:List V->List V->List V):Prop where
 to:∀(s:Shared) (us ws:List Value),K.In s.heap->(g us ws).length=ps.length->BindsTo s fd ⟨us,ks.zip ws⟩ (ps.zip (g us ws))
 rel:∀{vs:List V} {us:List Value} {zs:List V} {ws:List Value},Vals vs us->Vals zs ws->Vals (gV vs zs) (g us ws)
variable {g:List Value->List Value->List Value} {gV:List V->List V->List V}
end
structure FnScope (N P:List Str)(sc:Scope):Prop where
 kind:sc.kind=.function
 co:sc.isCoroutine=false
 gen:sc.isGenerator=false
 nd:N.Nodup
 pre:N.take P.length=P
 par:∀x∈P,sc.names.lookup x=some .local\/sc.names.lookup x=some .cell
 nofree:∀y∈sc.names,y.2≠.free
theorem FnScope.of {N P:List Str}{sc:Scope}(h:sc.kind=.function/\sc.isCoroutine=false/\sc.isGenerator=false/\N.Nodup/\N.take P.length=P/\(∀x∈P,sc.names.lookup x=some .local\/sc.names.lookup x=some .cell)/\∀y∈sc.names,y.2≠.free):FnScope N P sc:=⟨h.1,h.2.1,h.2.2.1,h.2.2.2.1,h.2.2.2.2.1,h.2.2.2.2.2.1,h.2.2.2.2.2.2⟩
theorem bindL_out {kindOf:Str->Option NameKind}{x:Str}:∀{binds:List (Str×Value)} {m:Str->Option Value},(∀v,(x,v)∉binds)->bindL kindOf binds m x=m x
 | [],_,_=>rfl
 | (n,v)::r,m,h=>by
  unfold bindL
  rw[bindL_out fun w hw=>h w (List.mem_cons_of_mem _ hw)]
  split
  ·have:x≠n:=by rintro rfl;exact h v List.mem_cons_self
   simp[this]
  ·rfl
theorem bindC_out {kindOf:Str->Option NameKind}{x:Str}:∀{binds:List (Str×Value)} {m:Str->Option Value},(∀v,(x,v)∉binds)->bindC kindOf binds m x=m x
 | [],_,_=>rfl
 | (n,v)::r,m,h=>by
  unfold bindC
  rw[bindC_out fun w hw=>h w (List.mem_cons_of_mem _ hw)]
  split
  ·rfl
  ·have:x≠n:=by rintro rfl;exact h v List.mem_cons_self
   simp[this]
theorem bindL_get {kindOf:Str->Option NameKind}{x:Str}{v:Value}:∀{P:List Str} {vs:List Value} {i:Nat} {m:Str->Option Value},P.Nodup->P[i]?=some x->vs[i]?=some v->kindOf x=some .local→
  bindL kindOf (P.zip vs) m x=some v
 | [],_,_,_,_,h,_,_=>by simp at h
 |_::_,[],_,_,_,_,h,_=>by simp at h
 |p::P,w::vs,0,m,nd,h1,h2,hk=>by
  simp at h1 h2;subst h1;subst h2
  show bindL kindOf ((p,w)::P.zip vs) m p=_
  unfold bindL
  rw[bindL_out fun v hv=>(List.nodup_cons.mp nd).1 (List.of_mem_zip hv).1,if_pos hk]
  simp
 |p::P,w::vs,i+1,m,nd,h1,h2,hk=>by
  show bindL kindOf ((p,w)::P.zip vs) m x=_
  unfold bindL
  exact bindL_get (i:=i) (List.nodup_cons.mp nd).2 (by simpa using h1) (by simpa using h2) hk
theorem bindC_get {kindOf:Str->Option NameKind}{x:Str}{v:Value}:∀{P:List Str} {vs:List Value} {i:Nat} {m:Str->Option Value},P.Nodup->P[i]?=some x->vs[i]?=some v->kindOf x≠some .local→
  bindC kindOf (P.zip vs) m x=some v
 | [],_,_,_,_,h,_,_=>by simp at h
 |_::_,[],_,_,_,_,h,_=>by simp at h
 |p::P,w::vs,0,m,nd,h1,h2,hk=>by
  simp at h1 h2;subst h1;subst h2
  show bindC kindOf ((p,w)::P.zip vs) m p=_
  unfold bindC
  rw[bindC_out fun v hv=>(List.nodup_cons.mp nd).1 (List.of_mem_zip hv).1,if_neg hk]
  simp
 |p::P,w::vs,i+1,m,nd,h1,h2,hk=>by
  show bindC kindOf ((p,w)::P.zip vs) m x=_
  unfold bindC
  exact bindC_get (i:=i) (List.nodup_cons.mp nd).2 (by simpa using h1) (by simpa using h2) hk
def start (N:List Str)(vs:List V):St:=vs.map some++List.replicate (N.length-vs.length) none
def cxOf (CX:CXT)(P:Program)(w:World)(K:W.Frag)(mg:Str->Option Value)(base:Heap)(N:List Str)(qual:Str)(scope:Scope)(f:Addr)(cd:Value)(A:Around)(outer:List Env)(s:Shared)(H:Hp)(E:XK):Cx where
 prog:=P
 w:=w
 K:=K
 mg:=mg
 base:=base
 A:=A.deeper (envOfC qual scope s.heap.objs.size f cd)
 N:=N
 s₀:=s
 H₀:=H
 env:=envOfC qual scope s.heap.objs.size f cd
 outer:=outer
 stack:=envOfC qual scope s.heap.objs.size f cd::outer
 ex:=[]
 calm:=true
 fn:=fun _=>true
 pn:=[]
 xe:=fun e s'=>wpAny (model P w) (A.deeper (envOfC qual scope s.heap.objs.size f cd)) (leaving (envOfC qual scope s.heap.objs.size f cd) e) (fun _ s''=>CX outer H s E e s'') (fun e' s''=>CX outer H s E e' s'') s'
theorem cell_has {sc:Scope}{n:Nat}{x:Str}(h:sc.names.lookup x=some .cell):∃c,(cellsFrom n sc.names []).lookup x=some c:=by
 have q:=W.cellsFrom_some sc.names n [] (.inl h)
 exact Option.isSome_iff_exists.mp q
theorem inv_start {CX:CXT}{P:Program}{w:World}{K:W.Frag}{mg:Str->Option Value}{base:Heap}{N ps:List Str}{qual:Str}{scope:Scope}{f:Addr}{cd:Value}{A:Around}{outer:List Env}{s s1:Shared}{H:Hp}{E:XK}{us:List Value}{vs:List V}
  (S:FnScope N ps scope) (hd:A.handled=none) (e0:Env0 P w K mg base A outer s H) (hl:vs.length=ps.length) (r:Vals vs us)
  (x:InCallC s s.heap.objs.size (bindL (envOfC qual scope s.heap.objs.size f cd).kindOf (ps.zip us) fun _=>none) (cellsFrom (s.heap.objs.size+1) scope.names []) (bindC (envOfC qual scope s.heap.objs.size f cd).kindOf (ps.zip us) fun _=>none) s1):
  Inv (cxOf CX P w K mg base N qual scope f cd A outer s H E) [] (start N vs) H s1:=by
 have hpl:ps.length<=N.length:=by have:=congrArg List.length S.pre;rw[List.length_take] at this;omega
 obtain⟨h1,tk,rfl,hk⟩:=x.done
 have noA:∀b:Addr,b∉(cxOf CX P w K mg base N qual scope f cd A outer s H E).ex:=fun b z=>absurd (show b∈([]:List Addr) from z) (by simp)
 refine⟨⟨e0.mod,S.kind,rfl,rfl,Nat.le_refl _,fun y z c h1 h2=>?_,fun y hy=>?_,fun y c _ h=>?_,fun _=>hd,Around.frames_deeper e0.frames,.inr ⟨rfl,rfl⟩,fun b z=>absurd z (noA b),e0.bs,e0.bsz,fun b _ _=>noA b,fun b z=>absurd z (noA b),e0.funs,e0.frf⟩,
  rfl,e0.bare,Un.kept hk,⟨_,x.toInCall.ns,fun i y v h1 h2 h3=>?_⟩,fun y c h=>⟨_,x.cell y c h⟩,e0.hok.fresh (Nat.le_refl _),fun y c h=>?_,fun p hp=>absurd (show p∈([]:List (Addr×Obj)) from hp) (by simp),e0.hok.kept hk,?_⟩
 ·exact name_of_addr x.apart (PySem.mem_of_lookup h1) (PySem.mem_of_lookup h2)
 ·have hy:scope.names.lookup y=some .cell\/scope.names.lookup y=some .free:=hy
  rcases hy with hy|hy
  ·exact cell_has hy
  ·exact absurd rfl (S.nofree _ (PySem.mem_of_lookup hy))
 ·exact Nat.le_of_lt (x.above y c (PySem.mem_of_lookup h))
 ·have hi:i<vs.length:=by
   unfold start at h2
   by_cases hi:i<vs.length
   ·exact hi
   ·rw[List.getElem?_append_right (by simpa using hi)] at h2
    rw[List.getElem?_replicate] at h2
    split at h2<;>cases h2
  have ha:vs[i]?=some v:=by
   unfold start at h2
   rw[List.getElem?_append_left (by simpa using hi),List.getElem?_map] at h2
   cases e:vs[i]? with
   |none=>rw[e] at h2;cases h2
   |some a=>rw[e] at h2;cases h2;rfl
  obtain⟨u,hu,rv⟩:=r.get ha
  have hp:ps[i]?=some y:=by
   rw[<- S.pre,List.getElem?_take_of_lt (by omega)];exact h1
  have ndP:ps.Nodup:=by rw[<- S.pre];exact S.nd.sublist (List.take_sublist _ _)
  refine⟨u,rv,?_⟩
  rcases S.par y (List.mem_of_getElem? hp) with k|k
  ·exact .inl ⟨k,bindL_get ndP hp hu k⟩
  ·obtain⟨c,e⟩:=cell_has (n:=s.heap.objs.size+1) k
   refine .inr ⟨.inl k,c,e,?_⟩
   have q:=x.cell y c e
   rw[bindC_get ndP hp hu (by show scope.names.lookup y≠_;rw[k];decide)] at q
   exact q
 ·exact e0.hok.fresh (Nat.le_of_lt (x.above y c (PySem.mem_of_lookup h)))
 ·unfold start
  show _=N.length
  rw[List.length_append,List.length_map,List.length_replicate]
  omega
theorem fn_of {CX:CXT}{P:Program}{w:World}{K:W.Frag}{mg:Str->Option Value}{base:Heap}{k:Nat}{f:Addr}{name qual:Str}{params:Arguments}{body:List Stmt}{scope:Scope}{dV kV doc pm cdv ct oc:Value}{an od:Option Addr}
  {osl:Array (Option Value)} {N ps:List Str} {sp:Sp} (lk:K.lookup f=some ⟨oc,od,.func (W.fnOf name qual params body scope dV kV doc pm an cdv ct),osl⟩) (hcd:W.codeIn K cdv qual=true) (S:FnScope N ps scope)
  (len:∀vs H Q E,sp vs H Q E->vs.length=ps.length)
  (hbody:∀(A:Around) (outer:List Env) (s:Shared) (H:Hp) (vs:List V) (Q:VK) (E:XK),Room k (A.deeper (envOfC qual scope s.heap.objs.size f cdv))->sp vs H Q E→
   ∃t,PSs (cxOf CX P w K mg base N qual scope f cdv A outer s H E) body t/\t { nx:=fun _ H'=>Q .non H',rt:=Q } (start N vs) H):
  FnOk P w K mg base CX (k+1) f (W.fnOf name qual params body scope dV kV doc pm an cdv ct) ps sp:=by
 refine⟨len,fun A outer s H args us vs Q E hr e0 hb r hsp=>?_⟩
 have hl:=len _ _ _ _ hsp
 have KX:K.In s.heap:=e0.mod.kin.keeps fun b o e=>(e0.bs b o e).1
 have lim:s.heap.NoLimit:=e0.mod.nolimit.keeps fun b o e=>(e0.bs b o e).1
 have hkind:∀y∈ps.zip us,scope.names.lookup y.1=some .local\/(scope.names.lookup y.1=some .cell/\((cellsFrom (s.heap.objs.size+1) scope.names []).lookup y.1).isSome=true):=fun⟨n,v⟩ hy=>by
  rcases S.par n (List.of_mem_zip hy).1 with q|q
  ·exact .inl q
  ·exact .inr ⟨q,W.cellsFrom_some _ _ _ (.inl q)⟩
 refine codeAny_call_function hr.depth (KX _ _ lk) rfl S.co S.gen rfl (W.codeRec_of KX hcd) (hb _ _ _ _ ?_)
 refine wpAny_newFunctionEnv_cells S.kind hkind fun env he s1 x=>?_
 subst he
 refine⟨lim.keeps x.toInCall.keep,codeAny_func ?_⟩
 obtain⟨t,ht,hq⟩:=hbody A outer s H vs Q E (hr.deeper _) hsp
 have I:Inv (cxOf CX P w K mg base N qual scope f cdv A outer s H E) [] (start N vs) H s1:=inv_start S hr.hd e0 hl r x
 refine wpAny_mono (ht [] s1 (start N vs) H _ I hq) (fun fl s' hs=>?_) fun e s' hs=>hs
 have fin:∀{σ':St} {H':Hp} {v:V} {u:Value},Inv (cxOf CX P w K mg base N qual scope f cdv A outer s H E) [] σ' H' s'->RelV v u->Q v H'->CE outer P w H s Q u s':=
  fun {σ' H' v u} J rv q=>⟨v,H',J.os,J.bare,J.base,J.hok,rv,q⟩
 cases fl with
 |ret u=>
  obtain⟨v,σ',H',J,rv,q⟩:=hs
  exact fin J rv q
 |next=>
  obtain⟨σ',H',J,q⟩:=hs
  exact fin (v:=V.non) (u:=Value.none) J rfl q
 |brk=>
  obtain⟨_,_,_,q⟩:=hs
  exact False.elim q
 |cont=>
  obtain⟨_,_,_,q⟩:=hs
  exact False.elim q
end L2
namespace L2
open PySem PySem.Spec PyProof.Rows
section
variable {X:Cx} {x:Str} {p pos:Pos} {e:Expr} {es:List Expr} {t:TA} {id T:String} {r:List V->Hp->VK->Prop}
def tCB (r:List V->Hp->VK->Prop)(t:TA):TE:=fun σ H Q=>t σ H fun vs H1=>r vs H1 Q
theorem pe_callB (hc:CallR X (.builtin id) r)(hg:Gl X x)(hm:X.mg x=none)(hv:bootBuiltins x=some (.builtin id))(ha:PA X (e::es) t)(hn:x≠"__name__":=by decide)(hdb:(x==("__debug__":Str))=false:=by decide)
  (he:starEach (e::es) X.env=(false,eval e X.env)::starEach es X.env:=by rfl) (hpl:(backTo pos (starEach es X.env)).any (·.1)=false:=by rfl):PE X (.Call (.Name x p) (e::es) [] pos) (tCB r t):=by
 intro pins s σ H Q I h
 refine wpAny_Call_Name_kw (ld_blt I hg hm hv ?_ hn hdb)
 exact PyProof.Rows.callWith_builtin1 (thn (ha pos pins s σ H _ I h) fun us s1 ⟨vs,H1,I1,r1,q1⟩=>hc pins s1 σ H1 vs us Q I1 r1 q1) he hpl
theorem pe_callTy (hc:CallR X (.type T) r)(hg:Gl X x)(hm:X.mg x=none)(hv:bootBuiltins x=some (.type T))(ha:PA X (e::es) t)(hn:x≠"__name__":=by decide)(hdb:(x==("__debug__":Str))=false:=by decide)
  (he:starEach (e::es) X.env=(false,eval e X.env)::starEach es X.env:=by rfl) (hpl:(backTo pos (starEach es X.env)).any (·.1)=false:=by rfl):PE X (.Call (.Name x p) (e::es) [] pos) (tCB r t):=by
 intro pins s σ H Q I h
 refine wpAny_Call_Name_kw (ld_blt I hg hm hv ?_ hn hdb)
 exact PyProof.Rows.callWith_type1 (thn (ha pos pins s σ H _ I h) fun us s1 ⟨vs,H1,I1,r1,q1⟩=>hc pins s1 σ H1 vs us Q I1 r1 q1) he hpl
end
end L2
namespace HT
open PySem PyProof.Rows
section
variable {prog:Program} {w:World} {A:Around} {E:Value->Shared->Prop} {s:Shared}
theorem cat_tup {t b:Addr}{vs ws:List Value}{Q:Value->Shared->Prop}(ht:IsTup s.heap t vs.toArray)(hb:IsTup s.heap b ws.toArray)(hv:vs≠[])
  (h1:ws=[]->Q (.ref t) s) (h2:ws≠[]->Q (.ref s.heap.objs.size) { s with heap:=s.heap.push { cls:=.type "tuple",data:=.seq (vs++ws).toArray } })
  (hsz:vs.length+ws.length<=sizeLine):wpAny (model prog w) A (binaryOp .Add (.ref t) (.ref b)) Q E s:=by
 obtain⟨⟨cls,dd,data,sl⟩,ho,hc,n,hd⟩:=id ht
 obtain⟨⟨cls2,dd2,data2,sl2⟩,ho2,hc2,n2,hd2⟩:=id hb
 simp only at hc hd hc2 hd2
 subst hc hd hc2 hd2
 have e:vs.toArray++ws.toArray=(vs++ws).toArray:=by simp
 by_cases hw:ws=[]
 ·exact concat_meets ⟨_,ho,rfl⟩ ⟨_,ho2,rfl⟩ noFill_tuple_add seq_tuple_add PySem.F.slot_tuple_add PySem.F.entry_tuple_add (PySem.F.args_tuple_add_2 _ _)
   (tuple_addW1 t b vs.toArray ws.toArray n n2 dd dd2 sl sl2 (by simpa using hv) (by simp[hw])) ⟨ho,ho2,h1 hw⟩
 ·refine concat_meets ⟨_,ho,rfl⟩ ⟨_,ho2,rfl⟩ noFill_tuple_add seq_tuple_add PySem.F.slot_tuple_add PySem.F.entry_tuple_add (PySem.F.args_tuple_add_2 _ _)
   (tuple_addW2 t b vs.toArray ws.toArray n n2 dd dd2 sl sl2 (by simpa using hv) (by simpa using hw) (by rw[List.size_toArray,List.size_toArray];exact hsz)) ⟨ho,ho2,?_⟩
  rw[e]
  exact h2 hw
def sIx (n d:Nat):Option Int->Nat
 |none=>d
 |some v=>if v<0 then(v+(n:Int)).toNat else min v.toNat n
theorem sIx_none (n d:Nat):sIx n d none=d:=rfl
theorem sIx_nat (n d k:Nat):sIx n d (some (k:Int))=min k n:=by
 show(if (k:Int)<0 then((k:Int)+(n:Int)).toNat else min (k:Int).toNat n)=min k n
 rw[if_neg (by omega),Int.toNat_natCast]
theorem sIx_le (n d:Nat)(hd:d<=n)(o:Option Int):sIx n d o<=n:=by
 cases o with
 |none=>exact hd
 |some v=>
  show(if v<0 then(v+(n:Int)).toNat else min v.toNat n)<=n
  by_cases hv:v<0
  ·rw[if_pos hv];omega
  ·rw[if_neg hv];exact Nat.min_le_right _ _
theorem clip_eq (v:Int)(n d:Nat):(if v<0 then max (v+(n:Int)) 0 else min v (n:Int))=((sIx n d (some v):Nat):Int):=by
 show(if v<0 then max (v+(n:Int)) 0 else min v (n:Int))=(((if v<0 then(v+(n:Int)).toNat else min v.toNat n):Nat):Int)
 by_cases hv:v<0
 ·simp only[if_pos hv];omega
 ·simp only[if_neg hv];omega
theorem adjust_gen (lo hi:Option Int)(n:Nat):Builtin.Slice.sliceAdjust lo hi 1 (n:Int)=(((sIx n 0 lo:Nat):Int),((sIx n n hi:Nat):Int)):=by
 have h1:¬((1:Int)<0):=by omega
 unfold Builtin.Slice.sliceAdjust
 simp only[h1,if_false]
 refine Prod.ext ?_ ?_
 ·cases lo with
  |none=>rfl
  |some v=>exact clip_eq v n 0
 ·cases hi with
  |none=>rfl
  |some v=>exact clip_eq v n n
theorem places_gen (i j:Nat):Builtin.Slice.slicePlaces (i:Int) (j:Int) 1=j-i:=by
 unfold Builtin.Slice.slicePlaces
 have h1:(1:Int) > 0:=by omega
 simp only[h1,if_true,Int.ediv_one]
 split<;>omega
theorem slicePart_ {v:Value}{o:Option Int}{Q:Option Int->Shared->Prop}(p:IsPart v o)(h:Q o s):wpAny (model prog w) A (Builtin.Slice.slicePartIndex v) Q E s:=by
 cases p with
 |none=>exact slicePart_none h
 |int i t=>exact slicePart_int h
theorem sliceApplied_gen {sl:Addr}{vl vu:Value}{lo hi:Option Int}{n:Nat}{Q:Int×Int×Nat->Shared->Prop}(hs:s.heap.IsSliceOf sl vl vu .none)(pl:IsPart vl lo)(pu:IsPart vu hi)
  (h:Q (((sIx n 0 lo:Nat):Int),1,sIx n n hi-sIx n 0 lo) s):wpAny (model prog w) A (Builtin.Slice.sliceApplied (.ref sl) (pure (n:Int))) Q E s:=by
 obtain⟨os,hos,hcs,hds⟩:=id hs
 unfold Builtin.Slice.sliceApplied Builtin.Slice.sliceFields
 refine wpAny_bind (wpAny_bind (wpAny_field hos hds (x:=vl) rfl (wpAny_bind (wpAny_field hos hds (x:=vu) rfl (wpAny_bind (wpAny_field hos hds (x:=.none) rfl (wpAny_pure ?_)))))))
 refine wpAny_bind (slicePart_none ?_)
 show wpAny _ _ (if ((1:Int)==0)=true then _ else _) _ _ s
 rw[if_neg (by decide)]
 refine wpAny_bind (slicePart_ pl (wpAny_bind (slicePart_ pu (wpAny_bind (wpAny_pure ?_)))))
 show wpAny _ _ (match Builtin.Slice.sliceAdjust lo hi 1 (n:Int) with|(lo,hi)=>pure (lo,(1:Int),Builtin.Slice.slicePlaces lo hi 1)) _ _ s
 rw[adjust_gen lo hi n]
 show wpAny _ _ (pure (((sIx n 0 lo:Nat):Int),(1:Int),Builtin.Slice.slicePlaces ((sIx n 0 lo:Nat):Int) ((sIx n n hi:Nat):Int) 1)) _ _ s
 rw[places_gen]
 exact wpAny_pure h
theorem pick_gen (xs:Array Value)(i k:Nat):((List.range k).filterMap fun(m:Nat)=>xs[((i:Int)+(m:Int)*1).toNat]?).toArray=((xs.toList.drop i).take k).toArray:=by
 have e:(fun(m:Nat)=>xs[((i:Int)+(m:Int)*1).toNat]?)=fun m=>xs[i+m]?:=by
  funext m
  have:((i:Int)+(m:Int)*1).toNat=i+m:=by omega
  rw[this]
 rw[e]
 have:=pick_run xs i k
 rw[List.filterMap_map] at this
 have e2:((fun x=>xs[x]?) ∘ fun x=>i+x)=fun m=>xs[i+m]?:=rfl
 rw[e2] at this
 rw[this]
theorem getItem_tuple_cut {t sl:Addr}{items:Array Value}{vl vu:Value}{lo hi:Option Int}{Q:Value->Shared->Prop}(ht:IsTup s.heap t items)(hs:s.heap.IsSliceOf sl vl vu .none)(pl:IsPart vl lo)(pu:IsPart vu hi)
  (hw:¬(sIx items.size 0 lo=0/\sIx items.size items.size hi=items.size))
  (h:Q (.ref s.heap.objs.size) { s with heap:=s.heap.push { cls:=.type "tuple",data:=.seq ((items.toList.drop (sIx items.size 0 lo)).take (sIx items.size items.size hi-sIx items.size 0 lo)).toArray } })
  (hsz:items.size<=sizeLine):wpAny (model prog w) A (getItem (.ref t) (.ref sl)) Q E s:=by
 have htake:sizeOk (.seq ((items.toList.drop (sIx items.size 0 lo)).take (sIx items.size items.size hi-sIx items.size 0 lo)).toArray):=by
  show((items.toList.drop (sIx items.size 0 lo)).take (sIx items.size items.size hi-sIx items.size 0 lo)).toArray.size<=sizeLine
  rw[List.size_toArray,List.length_take,List.length_drop,Array.length_toList]
  omega
 have hj:sIx items.size items.size hi<=items.size:=sIx_le _ _ (Nat.le_refl _) hi
 obtain⟨os,hos,hcs,hds⟩:=id hs
 have hTs:s.TypeIs (.ref sl) "slice":=⟨os,hos,hcs⟩
 unfold getItem
 try with_reducible refine wpAny_holding ?_
 first|refine wpAny_bind (wpAny_pure ?_)|skip
 refine wpAny_bind (wpAny_sequenceKey ht.typeIs (by decide) ?_)
 refine wpAny_bind (wpAny_callSpecial?_slot (name:=Str.ofString "__getitem__") ht.typeIs PyProof.Rows.slot_tuple_getitem
  (wpAny_call_entry PyProof.Rows.slot_tuple_getitem ht.typeIs entry_tuple_getitem ?_ (args_tuple_getitem _ _)))
 show wpAny _ _ (Builtin.Tuple.tupleItemsOf (.ref t) >>= _) _ _ s
 refine wpAny_bind (tupleItemsOf_ ht ?_)
 refine wpAny_bind (wpAny_typeOf hTs ?_)
 rw[if_pos (by decide)]
 refine wpAny_bind (sliceApplied_gen hs pl pu ?_)
 have hno:¬((((sIx items.size 0 lo:Nat):Int)==0&&(1:Int)==1&&(sIx items.size items.size hi-sIx items.size 0 lo)==items.size)=true):=by
  intro q
  rw[Bool.and_eq_true,Bool.and_eq_true] at q
  have q1:((sIx items.size 0 lo:Nat):Int)=0:=eq_of_beq q.1.1
  have q2:sIx items.size items.size hi-sIx items.size 0 lo=items.size:=eq_of_beq q.2
  exact hw ⟨by omega,by omega⟩
 show wpAny _ _ (if (((sIx items.size 0 lo:Nat):Int)==0&&(1:Int)==1&&(sIx items.size items.size hi-sIx items.size 0 lo)==items.size)=true then _ else _) _ _ s
 rw[if_neg hno,pick_gen]
 first
  |exact wpAny_bind (m:=Builtin.Tuple.tupleExact _) (wpAny_newObj_type (wpAny_pure ⟨_,rfl,wpAny_pure h⟩) htake)
  |exact wpAny_bind (m:=Builtin.Tuple.tupleExact _) (wpAny_newObj_type (wpAny_bind (wpAny_pure (wpAny_pure ⟨_,rfl,wpAny_pure h⟩))) htake)
  |exact wpAny_bind (wpAny_bind (m:=Builtin.Tuple.tupleExact _) (wpAny_newObj_type (wpAny_pure (wpAny_pure ⟨_,rfl,wpAny_pure h⟩)) htake))
  |exact wpAny_bind (wpAny_bind (m:=Builtin.Tuple.tupleExact _) (wpAny_newObj_type (wpAny_pure ⟨_,rfl,wpAny_pure h⟩) htake))
end
end HT
namespace L2
open PySem PySem.Spec PyProof.Rows
abbrev TO:=St->Hp->(Option Int->Hp->Prop)->Prop
def PO (X:Cx)(e:Option Expr)(t:TO):Prop:=
 ∀(pins:List (Addr×Obj)) (s:Shared) (σ:St) (H:Hp) (Q:Option Int->Hp->Prop),Inv X pins σ H s->t σ H Q→
  wpAny (model X.prog X.w) X.A (evalPart e X.env) (fun u s'=>∃o H',Inv X pins σ H' s'/\IsPart u o/\Q o H') X.xe s
def tNoPart:TO:=fun _ H Q=>Q none H
def tPart (t:TE):TO:=fun σ H Q=>t σ H fun x H1=>∃i,x=.int i/\Q (some i) H1
section
variable {X:Cx} {e:Expr} {te:TE} {lo hi:Option Expr} {tl th:TO} {pos p2:Pos}
theorem po_none:PO X none tNoPart:=by
 intro pins s σ H Q I h
 rw[evalPart_none]
 exact wpAny_pure ⟨none,H,I,.none,h⟩
theorem po_some (h:PE X e te):PO X (some e) (tPart te):=by
 intro pins s σ H Q I hw
 rw[evalPart_some]
 refine thn (h pins s σ H _ I hw) fun u s1 hq9=>?_
 obtain⟨x,H1,I1,r1,q1⟩:=hq9
 obtain⟨i,rfl,q⟩:=q1
 obtain⟨t,rfl⟩:=r1
 exact⟨some i,H1,I1,.int i t,q⟩
def SlR (X:Cx)(r:V->Option Int->Option Int->Hp->VK->Prop):Prop:=
 ∀(pins:List (Addr×Obj)) (s:Shared) (σ:St) (H:Hp) (x:V) (v vl vu:Value) (lo hi:Option Int) (sl:Addr) (Q:VK),Inv X pins σ H s->RelV x v->s.heap.IsSliceOf sl vl vu .none->IsPart vl lo->IsPart vu hi->r x lo hi H Q→
  ∃T id,typeLookup (.type T) "__getitem__"=pure (some (.builtin id))/\s.TypeIs v T/\wpAny (model X.prog X.w) X.A (getItem v (.ref sl)) (EP X pins σ Q) X.xe s
def tSl (r:V->Option Int->Option Int->Hp->VK->Prop)(te:TE)(tl th:TO):TE:=fun σ H Q=>te σ H fun x H1=>tl σ H1 fun l H2=>th σ H2 fun u H3=>r x l u H3 Q
theorem pe_slice {r:V->Option Int->Option Int->Hp->VK->Prop}(hr:SlR X r)(he:PE X e te)(hl:PO X lo tl)(hu:PO X hi th):PE X (.Subscript e (.Slice lo hi none p2) pos) (tSl r te tl th):=by
 intro pins s σ H Q I h
 refine Subscript_ (thn (he pins s σ H _ I h) fun v s1 ⟨x,H1,I1,r1,q1⟩=>?_)
 refine wpAny_Slice (thn (hl pins s1 σ H1 _ I1 q1) fun vl s2 ⟨l,H2,I2,pl,q2⟩=>thn (hu pins s2 σ H2 _ I2 q2) fun vu s3 ⟨u,H3,I3,pu,q3⟩=>?_)
 rw[evalPart_none]
 refine wpAny_pure ?_
 have I4:Inv X pins σ H3 { s3 with heap:=s3.heap.push { cls:=.type "slice",data:=.fields #[vl,vu,.none] } }:=I3.kept (t':=s3.toks) fun b ob q=>Heap.get?_push_of_some _ q
 obtain⟨T,id,hT,ht,hg⟩:=hr pins { s3 with heap:=s3.heap.push { cls:=.type "slice",data:=.fields #[vl,vu,.none] } } σ H3 x v vl vu l u s3.heap.objs.size Q I4 r1 (Heap.IsSliceOf.new ..) pl pu q3
 show wpAny (model X.prog X.w) X.A (subscriptTail e (.Slice lo hi none p2) v (.ref s3.heap.objs.size)) (EP X pins σ Q) X.xe { s3 with heap:=s3.heap.push { cls:=.type "slice",data:=.fields #[vl,vu,.none] } }
 exact tail_any (ops:=[.ref s3.heap.objs.size,v]) ht hT hg (by with_unfolding_all rfl)
def cutV (xs:List V)(lo hi:Option Int):List V:=(xs.drop (HT.sIx xs.length 0 lo)).take (HT.sIx xs.length xs.length hi-HT.sIx xs.length 0 lo)
theorem cutV_length (xs:List V)(lo hi:Option Int):(cutV xs lo hi).length<=xs.length:=by
 unfold cutV
 rw[List.length_take,List.length_drop]
 omega
def rSlT (K:W.Frag):V->Option Int->Option Int->Hp->VK->Prop:=fun x lo hi H Q=>∃a xs,x=.ref a/\SqT K H a xs∧
 ¬(HT.sIx xs.length 0 lo=0/\HT.sIx xs.length xs.length hi=xs.length)/\∀p,H p=none->Q (.ref p) (upd H p (.tup (cutV xs lo hi)))
theorem sl_tup:SlR X (rSlT X.K):=by
 intro pins s σ H x v vl vu lo hi sl Q I rx hs pl pu h
 obtain⟨a,xs,rfl,hx,hw,q⟩:=h
 cases rx
 obtain⟨its,r,ht,hz⟩:=I.tuple hx
 have hlen:its.toArray.size=xs.length:=by rw[List.size_toArray];exact r.length.symm
 refine⟨"tuple",_,PyProof.Rows.slot_tuple_getitem.lookup,ht.typeIs,?_⟩
 refine HT.getItem_tuple_cut ht hs pl pu (by rw[hlen];exact hw) ?_ (by rw[hlen];exact hz)
 rw[hlen]
 refine⟨.ref s.heap.objs.size,_,I.laid (t':=s.toks) (o:=.tup (cutV xs lo hi)) (fun b ob q=>Heap.get?_push_of_some _ q) (Nat.le_refl _) ?_,rfl,q _ (I.hok.fresh (Nat.le_refl _))⟩
 exact⟨Nat.le_trans (cutV_length xs lo hi) hz,_,(r.drop (HT.sIx xs.length 0 lo)).take (HT.sIx xs.length xs.length hi-HT.sIx xs.length 0 lo),IsTup.new _ _⟩
def rCatT (K:W.Frag):R2:=fun x y H Q=>∃a b xs ys,x=.ref a/\y=.ref b/\SqT K H a xs/\SqT K H b ys/\xs≠[]/\xs.length+ys.length<=sizeLine∧
 (ys=[]->Q (.ref a) H)/\(ys≠[]->∀p,H p=none->Q (.ref p) (upd H p (.tup (xs++ys))))
theorem Vals.nil_iff {xs:List V}{us:List Value}(r:Vals xs us):us=[]↔xs=[]:=by
 cases r with
 |nil=>simp
 |cons _ _=>simp
theorem op_catT:OpR X (binaryOp .Add) (rCatT X.K):=by
 intro pins s σ H x y v u Q I rx ry h
 obtain⟨a,b,xs,ys,rfl,rfl,ha,hb,hx,hz,q1,q2⟩:=h
 cases rx
 cases ry
 obtain⟨its,r1,p1,_⟩:=I.tuple ha
 obtain⟨its2,r2,p2,_⟩:=I.tuple hb
 refine HT.cat_tup p1 p2 (fun z=>hx (r1.nil_iff.mp z)) (fun z=>⟨.ref a,H,I,rfl,q1 (r2.nil_iff.mp z)⟩) (fun z=>?_) (by rw[<- r1.length,<- r2.length];exact hz)
 refine⟨.ref s.heap.objs.size,_,I.laid (t':=s.toks) (o:=.tup (xs++ys)) (fun b ob q=>Heap.get?_push_of_some _ q) (Nat.le_refl _) ?_,rfl,q2 (fun w=>z (r2.nil_iff.mpr w)) _ (I.hok.fresh (Nat.le_refl _))⟩
 exact⟨by rw[List.length_append];exact hz,_,r1.append r2,IsTup.new _ _⟩
end
end L2
namespace L2
open PySem PySem.Spec PyProof.Rows
def ixN (n:Nat)(i:Int):Option Nat:=if 0<=i then(if i<n then some i.toNat else none) else if -(n:Int)<=i then some (i+n).toNat else none
def atI {α:Type}(xs:List α)(i:Int):Option α:=(ixN xs.length i).bind fun j=>xs[j]?
theorem ixN_seq {n:Nat}{i:Int}{j:Nat}(h:ixN n i=some j):seqIndex? i n=some j/\j<n/\-(n:Int)<=i/\i<n:=by
 unfold ixN at h
 by_cases h0:0<=i
 ·rw[if_pos h0] at h
  by_cases h1:i<n
  ·rw[if_pos h1] at h
   have e:i.toNat=j:=Option.some.inj h
   exact⟨by rw[seqIndex_of h0 h1,e],by omega,by omega,h1⟩
  ·rw[if_neg h1] at h;cases h
 ·rw[if_neg h0] at h
  by_cases h1:-(n:Int)<=i
  ·rw[if_pos h1] at h
   have e:(i+n).toNat=j:=Option.some.inj h
   exact⟨by rw[seqIndex_neg (by omega) h1,e],by omega,h1,by omega⟩
  ·rw[if_neg h1] at h;cases h
theorem atI_get {α:Type}{xs:List α}{i:Int}{v:α}(h:atI xs i=some v):∃j,seqIndex? i xs.length=some j/\xs[j]?=some v/\j<xs.length/\-(xs.length:Int)<=i/\i<xs.length:=by
 unfold atI at h
 cases e:ixN xs.length i with
 |none=>rw[e] at h;cases h
 |some j=>
  rw[e] at h
  obtain⟨h1,h2,h3,h4⟩:=ixN_seq e
  exact⟨j,h1,h,h2,h3,h4⟩
theorem atI_nat {α:Type}{xs:List α}{j:Nat}{v:α}(h:xs[j]?=some v):atI xs (j:Int)=some v:=by
 have hj:j<xs.length:=(List.getElem?_eq_some_iff.mp h).1
 have e:ixN xs.length (j:Int)=some j:=by
  unfold ixN
  rw[if_pos (by omega),if_pos (by omega)];simp
 unfold atI;rw[e];exact h
theorem atI_last {α:Type}(xs:List α)(v:α):atI (xs++[v]) (-1)=some v:=by
 have hl:(xs++[v]).length=xs.length+1:=by simp
 have e:ixN (xs++[v]).length (-1)=some xs.length:=by
  unfold ixN
  rw[hl,if_neg (by decide),if_pos (by omega)]
  congr 1
  omega
 unfold atI
 rw[e]
 show(xs++[v])[xs.length]?=some v
 simp
def PlainIx (b:Expr):Prop:=∀o i,subscripted b false o i=operate [o,i] (getItem o i)
def IxR (X:Cx)(r:R2):Prop:=
 ∀(value slice:Expr) (pins:List (Addr×Obj)) (s:Shared) (σ:St) (H:Hp) (x y:V) (v u:Value) (Q:VK),Inv X pins σ H s->RelV x v->RelV y u->r x y H Q→
  subscripted slice false v u=operate [v,u] (getItem v u)->wpAny (model X.prog X.w) X.A (subscriptTail value slice v u) (EP X pins σ Q) X.xe s
def MtR (X:Cx)(id:String)(r:V->List V->Hp->VK->Prop):Prop:=
 ∀(pins:List (Addr×Obj)) (s:Shared) (σ:St) (H:Hp) (x:V) (xs:List V) (v:Value) (us:List Value) (Q:VK),Inv X pins σ H s->RelV x v->Vals xs us->r x xs H Q→
  wpAny (model X.prog X.w) X.A (call (.builtin id) (v::us)) (EP X pins σ Q) X.xe s
section
variable {X:Cx} {a b:Expr} {ta tb:TE} {pos:Pos}
theorem pe_ix {r:R2}(hr:IxR X r)(ha:PE X a ta)(hb:PE X b tb)(hs:PlainIx b):PE X (.Subscript a b pos) (tOp r ta tb):=by
 intro pins s σ H Q I h
 exact Subscript_ (binT ha hb I h fun v u s2 x y H2 I2 rx ry q=>hr a b pins s2 σ H2 x y v u Q I2 rx ry q (hs _ _))
def rIxL (K:W.Frag):R2:=fun x y H Q=>∃p xs i v,x=.ref p/\y=.int i/\SqL K H p xs/\atI xs i=some v/\Q v H
def rIxT (K:W.Frag):R2:=fun x y H Q=>∃p xs i v,x=.ref p/\y=.int i/\SqT K H p xs/\atI xs i=some v/\Q v H
def rIxS:R2:=fun x y H Q=>∃z i c,x=.str z/\y=.int i/\z.length<=sizeLine/\atI z.cps.toList i=some c/\Q (.str ⟨#[c]⟩) H
theorem ix_list:IxR X (rIxL X.K):=by
 intro value slice pins s σ H x y v u Q I rx ry h hs
 obtain⟨p,xs,i,z,rfl,rfl,hq,he,q⟩:=h
 cases rx
 obtain⟨t,rfl⟩:=ry
 obtain⟨its,r,pl,hz⟩:=I.list hq
 obtain⟨j,h1,h2,h3,h4,h5⟩:=atI_get he
 obtain⟨w,ew,rw'⟩:=r.get h2
 have hl:=r.length
 have hn:=line63
 have fin:EP X pins σ Q w s:=⟨z,H,I,rw',q⟩
 by_cases h0:0<=i
 ·have hj:i.toNat=j:=by
   rw[seqIndex_of h0 h5] at h1
   exact Option.some.inj h1
  exact item_listR pl.isList h0 (by omega) (by rw[hj];simpa using ew) fin hs
 ·have hj:(i+(its.toArray.size:Int)).toNat=j:=by
   rw[seqIndex_neg (by omega) h4] at h1
   rw[List.size_toArray,<- hl]
   exact Option.some.inj h1
  exact subscriptTail_builtinR (x:=w) pl.isList.typeIs slot_list_getitem.lookup
   (wpAny_getItem_list_neg (Q:=fun r s'=>r=w/\EP X pins σ Q r s') pl.isList (by omega) (by rw[List.size_toArray]<;>omega) (by omega) (by rw[hj];simpa using ew) ⟨rfl,fin⟩) hs
theorem ix_tup:IxR X (rIxT X.K):=by
 intro value slice pins s σ H x y v u Q I rx ry h hs
 obtain⟨p,xs,i,z,rfl,rfl,hq,he,q⟩:=h
 cases rx
 obtain⟨t,rfl⟩:=ry
 obtain⟨its,r,pl,hz⟩:=I.tuple hq
 obtain⟨j,h1,h2,h3,h4,h5⟩:=atI_get he
 obtain⟨w,ew,rw'⟩:=r.get h2
 have hl:=r.length
 have hn:=line63
 have fin:EP X pins σ Q w s:=⟨z,H,I,rw',q⟩
 exact subscriptTail_builtinR (x:=w) pl.typeIs slot_tuple_getitem.lookup
  (getItem_tuple (j:=j) (Q:=fun r s'=>r=w/\EP X pins σ Q r s') pl (by omega) (by omega) (by rw[List.size_toArray,<- hl];exact h1) (by simpa using ew) ⟨rfl,fin⟩) hs
theorem ix_str:IxR X rIxS:=by
 intro value slice pins s σ H x y v u Q I rx ry h hs
 obtain⟨z,i,c,rfl,rfl,hz,he,q⟩:=h
 obtain⟨t,rfl⟩:=rx
 obtain⟨t',rfl⟩:=ry
 obtain⟨j,h1,h2,h3,h4,h5⟩:=atI_get he
 have hl:z.cps.toList.length=z.length:=by simp[Str.length]
 rw[hl] at h1 h4 h5
 have hn:=line63
 exact tail_any (typeIs_str s z t) slot_str_getitem.lookup (getItem_str (c:=c) (by
  have e1:decide (i < -(2 ^ 63:Int))=false:=decide_eq_false (by omega)
  have e2:decide (i≥2 ^ 63)=false:=decide_eq_false (by omega)
  rw[e1,e2,Bool.or_false]) (by rw[h1];simpa using h2) ⟨.str ⟨#[c]⟩,H,I.tok _,⟨_,rfl⟩,q⟩) hs
theorem mapSeq_set (its:List Value)(n j:Nat)(u:Value):Obj.mapSeq (·.setIfInBounds j u) { cls:=.type "list",data:=.seq its.toArray n }={ cls:=.type "list",data:=.seq (its.set j u).toArray n }:=by
 simp[Obj.mapSeq]
theorem Inv.lst {pins:List (Addr×Obj)}{σ:St}{H:Hp}{s:Shared}{p:Addr}{xs:List V}(I:Inv X pins σ H s)(h:H p=some (.lst xs)):
  ∃(its:List Value) (n:Nat),Vals xs its/\s.heap.get? p=some { cls:=.type "list",data:=.seq its.toArray n }/\xs.length<=sizeLine:=by
 obtain⟨z,its,n,r,e⟩:=I.hok p _ h
 exact⟨its,n,r,e,z⟩
theorem Inv.lstUpd {pins:List (Addr×Obj)}{σ:St}{H:Hp}{s:Shared}{p:Addr}{xs ys:List V}{its its':List Value}{n n':Nat}{f:Obj->Obj}(I:Inv X pins σ H s)(h:H p=some (.lst xs))
  (ho:s.heap.get? p=some { cls:=.type "list",data:=.seq its.toArray n }) (hf:f { cls:=.type "list",data:=.seq its.toArray n }={ cls:=.type "list",data:=.seq its'.toArray n' }) (r:Vals ys its') (hz:ys.length<=sizeLine) (t:Nat):
  Inv X pins σ (upd H p (.lst ys)) { s with heap:=s.heap.update p f,toks:=t }:=by
 have e:(s.heap.update p f).get? p=some { cls:=.type "list",data:=.seq its'.toArray n' }:=by
  rw[Heap.get?_update_self f ho (by rw[hf]<;>rfl),hf]
 refine I.write (x:=p) (e:=p) (by rw[h];trivial) (.inl rfl) (fun b u hb q=>(Heap.get?_update_other _ _ (Ne.symm hb)).trans q) ⟨_,e⟩ ?_
 exact⟨hz,its',n',r,e⟩
def rSetL:V->V->V->Hp->(Hp->Prop)->Prop:=fun o i v H Q=>∃p xs k j,o=.ref p/\i=.int k/\H p=some (.lst xs)/\ixN xs.length k=some j/\Q (upd H p (.lst (xs.set j v)))
theorem set_list:PSet X rSetL:=by
 intro pins s σ H o i v ov iv u Q I ro ri rv h
 obtain⟨p,xs,k,j,rfl,rfl,hp,hj,q⟩:=h
 cases ro
 obtain⟨t,rfl⟩:=ri
 obtain⟨its,n,r,ho,hz⟩:=I.lst hp
 obtain⟨h1,h2,h3,h4⟩:=ixN_seq hj
 have hl:=r.length
 have hn:=line63
 have I':Inv X pins σ (upd H p (.lst (xs.set j v))) { s with heap:=s.heap.update p (Obj.mapSeq (·.setIfInBounds j u)) }:=
  I.lstUpd hp ho (mapSeq_set its n j u) (r.set rv j) (by rw[List.length_set];exact hz) s.toks
 by_cases h0:0<=k
 ·have hk:k.toNat=j:=by
   rw[seqIndex_of h0 h4] at h1
   exact Option.some.inj h1
  exact W.ki_setAt ho h0 (by omega) (by rw[List.size_toArray,<- hl];exact h4) (by rw[hk];exact⟨_,I',q⟩)
 ·have hk:(k+(its.toArray.size:Int)).toNat=j:=by
   rw[seqIndex_neg (by omega) h3] at h1
   rw[List.size_toArray,<- hl]
   exact Option.some.inj h1
  exact W.ki_setBack ho (by omega) (by rw[List.size_toArray,<- hl];exact h3) (by omega) (by rw[hk];exact⟨_,I',q⟩)
theorem slice_bounds (lo hi:Option Int)(n:Nat):(sliceBounds lo hi none n).1=((HT.sIx n 0 lo:Nat):Int)/\(sliceBounds lo hi none n).2.1=((HT.sIx n n hi:Nat):Int)/\(sliceBounds lo hi none n).2.2=1:=by
 refine⟨?_,?_,rfl⟩
 ·cases lo with
  |none=>simp[sliceBounds,HT.sIx]
  |some i=>
   simp only[sliceBounds,HT.sIx,Option.getD_none,show(1:Int) > 0 by decide,if_true]
   by_cases h:i<0
   ·simp only[h,if_true]<;>omega
   ·simp only[h,if_false]<;>omega
 ·cases hi with
  |none=>simp[sliceBounds,HT.sIx]
  |some i=>
   simp only[sliceBounds,HT.sIx,Option.getD_none,show(1:Int) > 0 by decide,if_true]
   by_cases h:i<0
   ·simp only[h,if_true]<;>omega
   ·simp only[h,if_false]<;>omega
theorem slicePick_cut (its:List Value)(lo hi:Option Int):slicePick its.toArray lo hi none=((its.drop (HT.sIx its.length 0 lo)).take (HT.sIx its.length its.length hi-HT.sIx its.length 0 lo)).toArray:=by
 obtain⟨h1,h2,h3⟩:=slice_bounds lo hi its.toArray.size
 unfold slicePick
 rw[h1,h2,h3]
 simp only[sliceRange_one,pick_run,List.size_toArray]<;>rfl
def rSlL (K:W.Frag):V->Option Int->Option Int->Hp->VK->Prop:=fun x lo hi H Q=>∃a xs,x=.ref a/\SqL K H a xs/\∀p,H p=none->Q (.ref p) (upd H p (.lst (cutV xs lo hi)))
theorem sl_list:SlR X (rSlL X.K):=by
 intro pins s σ H x v vl vu lo hi sl Q I rx hs pl pu h
 obtain⟨a,xs,rfl,hx,q⟩:=h
 cases rx
 obtain⟨its,r,ht,hz⟩:=I.list hx
 have hlen:=r.length
 refine⟨"list",_,slot_list_getitem.lookup,ht.isList.typeIs,?_⟩
 refine wpAny_getItem_list_slice ht.isList hs pl pu .none (by simp) ?_ (by rw[List.size_toArray]<;>omega)
 rw[slicePick_cut,<- hlen]
 refine⟨.ref s.heap.objs.size,_,I.laid (t':=s.toks) (o:=.lst (cutV xs lo hi)) (fun b ob q=>Heap.get?_push_of_some _ q) (Nat.le_refl _) ?_,rfl,q _ (I.hok.fresh (Nat.le_refl _))⟩
 exact⟨Nat.le_trans (cutV_length xs lo hi) hz,_,0,(r.drop (HT.sIx xs.length 0 lo)).take (HT.sIx xs.length xs.length hi-HT.sIx xs.length 0 lo),Heap.get?_push_size _ rfl⟩
theorem call_len_seq:CallR X (.builtin "len") (fun xs H Q=>∃p ys,xs=[.ref p]/\(SqL X.K H p ys\/SqT X.K H p ys)/\Q (.int ys.length) H):=by
 intro pins s σ H xs us Q I r h
 obtain⟨p,ys,rfl,hq,q⟩:=h
 obtain⟨u,rfl,rx⟩:=vals1 r
 cases rx
 have hn:=line63
 rcases hq with hq|hq
 ·obtain⟨its,r',pl,hz⟩:=I.list hq
  have hlen:=r'.length
  exact Calls.call_len_list pl.isList (by simp only[List.size_toArray]<;>omega) ⟨.int ys.length,H,I.tok _,⟨s.toks+1,by rw[List.size_toArray,hlen]⟩,q⟩
 ·obtain⟨its,r',pl,hz⟩:=I.tuple hq
  have hlen:=r'.length
  exact len_tuple pl (by simp only[List.size_toArray]<;>omega) ⟨.int ys.length,H,I.tok _,⟨s.toks+1,by rw[List.size_toArray,hlen]⟩,q⟩
theorem call_len_str:CallR X (.builtin "len") (fun xs H Q=>∃z,xs=[.str z]/\z.length<=sizeLine/\Q (.int z.length) H):=by
 intro pins s σ H xs us Q I r h
 obtain⟨z,rfl,hz,q⟩:=h
 obtain⟨u,rfl,t,rfl⟩:=vals1 r
 have hn:=line63
 exact len_str (by omega) ⟨.int z.length,H,I.tok _,⟨_,rfl⟩,q⟩
theorem call_list_of:CallR X (.type "list") (fun xs H Q=>∃p ys,xs=[.ref p]/\(SqL X.K H p ys\/SqT X.K H p ys)/\∀l,H l=none->Q (.ref l) (upd H l (.lst ys))):=by
 intro pins s σ H xs us Q I r h
 obtain⟨p,ys,rfl,hq,q⟩:=h
 obtain⟨u,rfl,rx⟩:=vals1 r
 cases rx
 have fin:∀(its:List Value),Vals ys its->ys.length<=sizeLine->∀(h':Heap) (c':Nat),(∀b o',s.heap.get? b=some o'->h'.get? b=some o')→
   h'.get? s.heap.objs.size=some { cls:=.type "list",dict:=none,data:=.seq its.toArray c',slots:=#[] }->EP X pins σ Q (.ref s.heap.objs.size) { s with heap:=h' }:=fun its r' hz h' c' kp e=>
  ⟨.ref s.heap.objs.size,_,I.laid (t':=s.toks) kp (Nat.le_refl _) (show ObjOk X.prog X.w _ h' _ (.lst ys) from⟨hz,its,c',r',e⟩),rfl,q _ (I.hok.fresh (Nat.le_refl _))⟩
 rcases hq with hq|hq
 ·obtain⟨its,r',pl,hz⟩:=I.list hq
  have hlen:=r'.length
  obtain⟨o,ho,hc,n,hd⟩:=pl.isList
  exact call_list_seq p (.inl rfl) ho hc hd (fun h' c' kp e=>fin its r' hz h' c' kp e) (by simp only[List.size_toArray]<;>omega)
 ·obtain⟨its,r',pl,hz⟩:=I.tuple hq
  have hlen:=r'.length
  obtain⟨o,ho,hc,n,hd⟩:=pl
  exact call_list_seq p (.inr rfl) ho hc hd (fun h' c' kp e=>fin its r' hz h' c' kp e) (by simp only[List.size_toArray]<;>omega)
theorem call_tuple_of:CallR X (.type "tuple") (fun xs H Q=>∃p ys,xs=[.ref p]/\((SqL X.K H p ys/\∀l,H l=none->Q (.ref l) (upd H l (.tup ys)))\/(SqT X.K H p ys/\Q (.ref p) H))):=by
 intro pins s σ H xs us Q I r h
 obtain⟨p,ys,rfl,h⟩:=h
 obtain⟨u,rfl,rx⟩:=vals1 r
 cases rx
 rcases h with⟨hq,q⟩|⟨hq,q⟩
 ·obtain⟨its,r',pl,hz⟩:=I.list hq
  have hlen:=r'.length
  refine call_tuple_list pl.isList (fun h' kp=>?_) (by simp only[List.size_toArray]<;>omega)
  have I1:Inv X pins σ H { s with heap:=h' }:=I.kept (t':=s.toks) kp
  have I2:Inv X pins σ (upd H h'.objs.size (.tup ys)) { s with heap:=h'.push { cls:=.type "tuple",data:=.seq its.toArray } }:=
   I1.laid (t':=s.toks) (fun b o e=>Heap.get?_push_of_some _ e) (Nat.le_refl _) (show ObjOk X.prog X.w _ _ _ (.tup ys) from⟨hz,its,r',IsTup.new _ _⟩)
  exact⟨.ref h'.objs.size,_,I2,rfl,q _ (I1.hok.fresh (Nat.le_refl _))⟩
 ·obtain⟨its,r',pl,hz⟩:=I.tuple hq
  exact call_tuple_same pl ⟨.ref p,H,I,rfl,q⟩
def tyV (K:W.Frag)(T:String)(x:V)(H:Hp):Prop:=match x with
 |.str _=>T="str"
 |.int _=>T="int"
 |.ref p=>(T="list"/\∃xs,SqL K H p xs)\/(T="tuple"/\∃o,K.lookup p=some o/\o.cls=.type "tuple"/\o.dict=none)∨
   (T="dict"/\((∃kvs,H p=some (.dK kvs))\/∃kvs,H p=some (.dT kvs)))\/(T="set"/\∃S n,H p=some (.set S n))
 |_=>False
theorem tyV_is {pins:List (Addr×Obj)}{σ:St}{H:Hp}{s:Shared}{T:String}{x:V}{v:Value}(I:Inv X pins σ H s)(r:RelV x v)(ty:tyV X.K T x H):
  s.TypeIs v T/\∀a,v=.ref a->∃ob,s.heap.get? a=some ob/\ob.dict=none:=by
 cases x with
 |str z=>
  obtain⟨t,rfl⟩:=r
  cases(show T="str" from ty)
  exact⟨typeIs_str s z t,fun _ e=>nomatch e⟩
 |int i=>
  obtain⟨t,rfl⟩:=r
  cases(show T="int" from ty)
  exact⟨typeIs_int s i t,fun _ e=>nomatch e⟩
 |ref p=>
  cases r
  rcases ty with⟨rfl,xs,hq⟩|⟨rfl,o,hk,hc,hd⟩|⟨rfl,hk⟩|⟨rfl,S,n,hk⟩
  ·obtain⟨its,_,pl,_⟩:=I.list hq
   refine⟨pl.isList.typeIs,fun a e=>?_⟩
   cases e
   obtain⟨o,n,e,c,hd,_⟩:=pl
   exact⟨o,e,hd⟩
  ·refine⟨⟨o,I.kIn p o hk,hc⟩,fun a e=>?_⟩
   cases e
   exact⟨o,I.kIn _ o hk,hd⟩
  ·have z:∃o,s.heap.get? p=some o/\o.ExactDict:=by
    rcases hk with⟨kvs,hk⟩|⟨kvs,hk⟩
    ·obtain⟨_,_,_,_,o,_,_,e,ex,_⟩:=I.hok p _ hk
     exact⟨o,e,ex⟩
    ·obtain⟨_,_,_,_,o,_,_,e,ex,_⟩:=I.hok p _ hk
     exact⟨o,e,ex⟩
   obtain⟨o,e,ex⟩:=z
   refine⟨⟨o,e,ex.1⟩,fun a e2=>?_⟩
   cases e2
   exact⟨o,e,ex.2.1⟩
  ·obtain⟨o,_,_,_,e,ex,_⟩:=I.hok p _ hk
   refine⟨⟨o,e,ex.1⟩,fun a e2=>?_⟩
   cases e2
   exact⟨o,e,ex.2.1⟩
 |_=>exact False.elim ty
def tBM (K:W.Frag)(T:String)(r:V->List V->Hp->VK->Prop)(to:TE)(t:TA):TE:=fun σ H Q=>to σ H fun x H1=>tyV K T x H1/\t σ H1 fun xs H2=>r x xs H2 Q
variable {o e:Expr} {es:List Expr} {to:TE} {t:TA} {name:Str} {apos cpos:Pos} {T id:String} {r:V->List V->Hp->VK->Prop}
theorem pe_bm (pa:PlainAttrs T)(slot:Slot T name id)(hty:typeOf (.builtin id)=pure (.type "method_descriptor"))(hm:MtR X id r)(ho:PE X o to)(ha:PA X (e::es) t)
  (hbase:attributeBase o name X.env (eval o X.env)=eval o X.env:=by rfl)
  (hfew:((backTo cpos (starEach (e::es) X.env)).all (fun x=>!x.1)&&(backToKw cpos (keywordEach [] X.env)).all (fun x=>x.1.isSome)
   &&decide ((e::es).length+([]:List Keyword).length+(if ([]:List Keyword).isEmpty then 0 else 1)<30))=true:=by rfl)
  (hline:(apos.endLine==cpos.line)=true:=by rfl) (hs:starEach (e::es) X.env=(false,eval e X.env)::starEach es X.env:=by rfl) (hplain:(backTo cpos (starEach es X.env)).any (·.1)=false:=by rfl):
  PE X (.Call (.Attribute o name apos) (e::es) [] cpos) (tBM X.K T r to t):=by
 intro pins s σ H Q I h
 refine wpAny_Call_method_late hbase hfew hline rfl (thn (ho pins s σ H _ I h) fun v s1 ⟨x,H1,I1,r1,ty,q1⟩=>?_)
 obtain⟨h1,h2⟩:=tyV_is I1 r1 ty
 refine⟨T,id,pa,slot,hty,h1,h2,?_⟩
 have hA:=ha cpos pins s1 σ H1 _ I1 q1
 rw[hs] at hA ⊢
 refine Calls.callWith_builtin (by show(false||(backTo cpos (starEach es X.env)).any (·.1))=false;rw[hplain]<;>rfl) (Calls.evalArgs_plain ?_)
 exact thn hA fun us s2 ⟨vs,H2,I2,r2,q2⟩=>hm pins s2 σ H2 x vs v us Q I2 r1 r2 q2
end
end L2
namespace L2
open PySem PySem.Spec PyProof.Rows
def MtM (X:Cx)(id:String)(r:V->List V->Hp->VK->Prop):Prop:=
 ∀(pins:List (Addr×Obj)) (s:Shared) (σ:St) (H:Hp) (x:V) (xs:List V) (v:Value) (us:List Value) (Q:VK),Inv X pins σ H s->RelV x v->Vals xs us->r x xs H Q→
  wpAny (model X.prog X.w) X.A (call (.builtin id) (v::us)) (EP X pins σ Q) X.xe s
theorem Vals.one:∀{x:V} {us:List Value},Vals [x] us->∃u,us=[u]/\RelV x u
 |_,_,.cons r .nil=>⟨_,rfl,r⟩
theorem Vals.two:∀{x y:V} {us:List Value},Vals [x,y] us->∃u v,us=[u,v]/\RelV x u/\RelV y v
 |_,_,_,.cons r (.cons q .nil)=>⟨_,_,rfl,r,q⟩
theorem Vals.eraseIdx:∀{xs:List V} {us:List Value} (i:Nat),Vals xs us->Vals (xs.eraseIdx i) (us.eraseIdx i)
 |_,_,_,.nil=>.nil
 |_,_,0,.cons _ t=>t
 |_,_,i+1,.cons r t=>.cons r (Vals.eraseIdx i t)
theorem len_erase {α:Type}:∀(l:List α) (i:Nat),(l.eraseIdx i).length<=l.length
 | [],_=>Nat.le_refl _
 |_::_,0=>Nat.le_succ _
 |_::r,i+1=>Nat.succ_le_succ (len_erase r i)
section
variable {X:Cx} {pins:List (Addr×Obj)} {σ:St} {H:Hp} {s:Shared} {l b:Addr} {xs ys zs:List V}
theorem Inv.lset {its its':List Value}{n:Nat}{f:Array Value->Array Value}{t':Nat}(I:Inv X pins σ H s)(hH:H l=some (.lst xs))
  (e:s.heap.get? l=some { cls:=.type "list",data:=.seq its.toArray n }) (hf:f its.toArray=its'.toArray) (hv:Vals ys its') (hz:ys.length<=sizeLine):
  Inv X pins σ (upd H l (.lst ys)) { s with heap:=s.heap.update l (Obj.mapSeq f),toks:=t' }:=by
 have q:=PySem.IsL.update e f
 rw[hf] at q
 refine I.write (x:=l) (e:=l) (by rw[hH];exact trivial) (.inl rfl) (fun b' u hb hu=>(Heap.get?_update_other s.heap (Obj.mapSeq f) (Ne.symm hb)).trans hu) ⟨_,q⟩ ?_
 exact⟨hz,its',_,hv,q⟩
theorem Inv.lnew {its:List Value}{t':Nat}(I:Inv X pins σ H s)(hv:Vals ys its)(hz:ys.length<=sizeLine):
  Inv X pins σ (upd H s.heap.objs.size (.lst ys)) { s with heap:=s.heap.push { cls:=.type "list",data:=.seq its.toArray },toks:=t' }:=
 I.laid (fun _ _ q=>Heap.get?_push_of_some _ q) (Nat.le_refl _) ⟨hz,its,0,hv,Heap.get?_push_size _ rfl⟩
theorem Inv.fresh (I:Inv X pins σ H s):H s.heap.objs.size=none:=I.hok.fresh (Nat.le_refl _)
theorem Inv.lstM (I:Inv X pins σ H s)(hH:H l=some (.lst xs)):xs.length<=sizeLine/\∃(its:List Value) (n:Nat),Vals xs its/\xs.length=its.length/\s.heap.get? l=some { cls:=.type "list",data:=.seq its.toArray n }:=by
 obtain⟨z,its,n,r,e⟩:=I.hok l _ hH
 exact⟨z,its,n,r,r.length,e⟩
end
section
variable {X:Cx}
def rAppend:V->List V->Hp->VK->Prop:=fun x vs H Q=>∃l xs y,x=.ref l/\vs=[y]/\H l=some (.lst xs)/\xs.length<sizeLine/\Q .non (upd H l (.lst (xs++[y])))
theorem mt_append:MtM X "list.append" rAppend:=by
 intro pins s σ H x vs v us Q I rx rv h
 obtain⟨l,xs,y,rfl,rfl,hH,hz,q⟩:=h
 cases rx
 obtain⟨u,rfl,ru⟩:=rv.one
 obtain⟨z,its,n,r,hl,e⟩:=I.lstM hH
 refine call_meets F.slot_list_append ⟨_,e,rfl⟩ F.entry_list_append (F.args_list_append_2 _ _) (PySem.list_append l its.toArray n u (by rw[List.size_toArray];omega)) ⟨e,?_⟩
 refine⟨.non,_,I.lset (its':=its++[u]) hH e (by simp) (r.append (.cons ru .nil)) ?_,rfl,q⟩
 rw[List.length_append,List.length_singleton]
 omega
def rPopAt:V->List V->Hp->VK->Prop:=fun x vs H Q=>∃l xs i k y,x=.ref l/\vs=[.int i]/\H l=some (.lst xs)/\-(2 ^ 63)<=i/\i<2 ^ 63/\seqIndex? i xs.length=some k/\xs[k]?=some y/\Q y (upd H l (.lst (xs.eraseIdx k)))
theorem mt_popAt:MtM X "list.pop" rPopAt:=by
 intro pins s σ H x vs v us Q I rx rv h
 obtain⟨l,xs,i,k,y,rfl,rfl,hH,h1,h2,hk,hy,q⟩:=h
 cases rx
 obtain⟨u,rfl,ru⟩:=rv.one
 obtain⟨t,rfl⟩:=ru
 obtain⟨z,its,n,r,hl,e⟩:=I.lstM hH
 obtain⟨w,hw,rw'⟩:=r.get hy
 refine call_meets F.slot_list_pop ⟨_,e,rfl⟩ F.entry_list_pop (F.args_list_pop_2 _ _)
  (MeetsSeq.list_pop_at l its.toArray n i t k w (fitsIndex_both h1 h2) (by rw[List.size_toArray,<- hl];exact hk) (by rw[<- Array.getElem?_toList];exact hw) (by rw[List.size_toArray];omega)) ⟨e,?_⟩
 refine⟨y,_,I.lset (its':=its.eraseIdx k) hH e ?_ (r.eraseIdx k) ?_,rw',q⟩
 ·show its.toArray.eraseIdxIfInBounds k=(its.eraseIdx k).toArray
  rw[List.eraseIdxIfInBounds_toArray]
 ·have:=len_erase xs k
  omega
end
end L2
namespace Att
open PySem PySem.W PySem.Calls PyProof.Rows
theorem ints_of_wellAll {P:Params}{h:Heap}:∀(ns:List Int) (vs:List Value),WellAll P h vs (ns.map WData.int)->IntsAre vs ns:=by
 intro ns
 induction ns with
 |nil=>
  intro vs w
  rw[List.map_nil] at w
  cases w
  exact .nil
 |cons n ns ih=>
  intro vs w
  rw[List.map_cons] at w
  cases w with
  |cons a b=>
   cases a
   exact .cons _ _ (ih _ b)
theorem script_of {l:OpenLaw}{n:Nat}(hn:l.most=some n){P:Params}{h:Heap}{args:List WData}{vals:List Value}
  (hpre:l.row.toRowW.claim.pre args=true) (hwl:WellAll P h vals args):
  ∃a vs ns,vals=[Value.ref a]/\args=[WData.list (ns.map WData.int)]/\h.get? a=some { cls:=.type "list",data:=.seq vs.toArray }/\IntsAre vs ns/\ns.length<=n:=by
 have hsh:WShape.hasAll [] args [.list .int]=true:=(pre_splitW hpre).1
 have hc:l.pre.holds [] { args:=args }=true:=(pre_splitW hpre).2
 obtain⟨d,r,rfl,h1,h2⟩:=hasAllW_cons hsh
 obtain rfl:=hasAllW_nil h2
 obtain⟨xs,rfl,h3⟩:=hasW_list h1
 obtain⟨ns,rfl⟩:=items_int h3
 have hlen:ns.length<=n:=by
  unfold OpenLaw.pre at hc
  have h4:(WTm.not (.lt (.lit (.int (n:Int))) (.len (.arg 0)))).holds [] { args:=[.list (ns.map .int)] }=true:=by
   have h4:=(holds_andW hc).1
   rw[hn] at h4
   exact h4
  have h5:=condW_of h4 (w_not (w_lt w_lit (w_len_list (w_arg rfl))))
  rw[List.length_map] at h5
  refine Nat.le_of_not_lt fun q=>?_
  have q':(n:Int)<((ns.length:Nat):Int):=by omega
  first
   | (rw[decide_eq_true q'] at h5;exact absurd h5 (by decide))
   | (simp at h5;omega)
 cases hwl with
 |cons w1 w2=>
  cases w2
  cases w1 with
  |list ho hall=>exact⟨_,_,ns,rfl,rfl,ho,ints_of_wellAll ns _ hall,hlen⟩
theorem post_true (l:OpenLaw)(args:List WData):l.row.toRowW.claim.post args (.bool true) args=true:=
 postW_of (r:=l.row.toRowW) (X:=(true==true))
  (show WShape.has [] (.bool true) .bool=true by first|rfl|decide|simp[WShape.has,WShape.arms,WShape.armsAll])
  (show(WTm.eq .res (.lit (.bool true))).value [] { args:=args,res:=some (.bool true),after:=args }=some (.bool (true==true)) from w_eq_bool (w_res rfl) w_lit) rfl
theorem attach_call {l:OpenLaw}{n:Nat}{q:Program}{loose:List Str}{XP:(Str->Option Value)->Heap->Prop}{YP:World->Heap->Prop}{d:DefRec}
  (hn:l.most=some n) (hdf:d.params.defaults=[])
  (call:∀(w:World) (s₀ s₁:Shared) (mg mb:Str->Option Value) (fa:Addr) (o:Obj) (pm cd doc:Value) (a:Addr) (vs:List Value) (ns:List Int),
   Ground q loose [] XP w s₀ mg mb s₁.heap->YP w s₁.heap→
   s₁.heap.get? fa=some o->o.data=.func (docDef d.name d.params d.body d.scope pm cd doc)->s₁.heap.CodeRec cd d.name->mg d.name=some (.ref fa)→
   s₁.heap.get? a=some { cls:=.type "list",data:=.seq vs.toArray }->IntsAre vs ns->ns.length<=n->s₁.gens=#[]→
   codeAny (model l.prog w) callerA (.call (.ref fa) ⟨[.ref a],[]⟩) (fun r s'=>r=.ok (.ret (.bool true))/\OldK s₁.heap s'.heap/\s'.os=s₁.os/\AllBare s'.gens) s₁):
  WalkO q loose XP YP l.row.toRowW d [] (fun f vs=>PySem.call f vs):=by
 intro w s₀ s₁ mg mb G Y fa o pm cd doc dV kV ho hd hcd hD hmg hg args vals as hpre hlay hrd hwl hlo
 obtain rfl:dV=.none:=Dflts.none hD hdf
 obtain rfl:kV=.none:=Dflts.noKw hD
 obtain⟨a,vs,ns,rfl,rfl,hobj,hints,hlen⟩:=script_of hn hpre hwl
 refine enter_call (codeAny_mono (call w s₀ s₁ mg mb fa o pm cd doc a vs ns G Y ho (fd_plain hd) hcd hmg hobj hints hlen hg) fun r s' hq=>?_)
 obtain⟨rfl,h2,h3,h4⟩:=hq
 exact⟨.inl ⟨.bool true,.bool true,[],rfl,fun _=>rfl,.bool true,post_true l _,fun _=>⟨List.Pairwise.nil,fun _ hm=>(nomatch hm)⟩⟩,h2,h3,h4⟩
end Att
namespace L2
open PySem PySem.Spec PyProof.Rows
theorem vals_ints:∀{vs:List Value} {ns:List Int},IntsAre vs ns->Vals (ns.map V.int) vs
 |_,_,.nil=>.nil
 |_,_,.cons n t h=>.cons ⟨t,rfl⟩ (vals_ints h)
def Only (H:Hp):Prop:=∀b,H b=none\/∃o xs,H b=some (.frz o (.lst xs))
theorem law_call {P:Program}{w:World}{K:W.Frag}{mg mb:Str->Option Value}{CX:CXT}{k:Nat}{fa a:Addr}{fd:FuncData}{x:Str}{sp:Sp}{s₁:Shared}{vs:List Value}{ns:List Int}
  (KX:K.In s₁.heap) (hns:s₁.heap.Ns mainGlobals mg) (hb:s₁.heap.Ns builtinsNs mb) (hbb:∀x:Str,x≠"__name__"->mb x=bootBuiltins x) (hlim:s₁.heap.NoLimit) (hg:s₁.gens=#[])
  (ha:s₁.heap.get? a=some { cls:=.type "list",data:=.seq vs.toArray }) (hi:IntsAre vs ns) (hl:ns.length<=sizeLine) (hr:Room k callerA)
  (F:∀base:Heap,K.In base->base.Ns mainGlobals mg->FnOk P w K mg base CX k fa fd [x] sp) (hbind:∀(s:Shared) (u:Value),BindsTo s fd ⟨[u],[]⟩ [(x,u)])
  (hsp:∀H:Hp,Only H->SqL K H a (ns.map V.int)->sp [.ref a] H (fun v _=>v=.bl true) fun _ _ _=>False)
  (hCX:∀H e s',CX [] H s₁ (fun _ _ _=>False) e s'->False):
  codeAny (model P w) callerA (.call (.ref fa) ⟨[.ref a],[]⟩) (fun r s'=>r=.ok (.ret (.bool true))/\OldK s₁.heap s'.heap/\s'.os=s₁.os/\AllBare s'.gens) s₁:=by
 have rv:=vals_ints hi
 have lenV:=hi.length
 have core:∀H:Hp,Only H->SqL K H a (ns.map V.int)->HOk P w H s₁.heap->(∀b,H b≠none->b=a)->(H a≠none->K.lookup a=none)→
   codeAny (model P w) callerA (.call (.ref fa) ⟨[.ref a],[]⟩) (fun r s'=>r=.ok (.ret (.bool true))/\OldK s₁.heap s'.heap/\s'.os=s₁.os/\AllBare s'.gens) s₁:=by
  intro H hO hS hok hA hK
  have base_of:∀{b:Addr} {o:Obj},s₁.heap.get? b=some o->H b=none->(hidT s₁.heap H).get? b=some o:=fun e n=>hidT_get e n
  have noA:∀{b:Addr} {o:Obj} {es:Array DictEntry} {ep:Nat},s₁.heap.get? b=some o->o.data=.dict es ep->H b=none:=fun {b o es ep} e d=>by
   cases q:H b with
   |none=>rfl
   |some u=>
    have e':b=a:=hA b (by rw[q];simp)
    subst e'
    rw[ha] at e;cases e
    have d':Data.seq vs.toArray _=Data.dict es ep:=d
    cases d'
  have nsK:∀{b:Addr} {m:Str->Option Value},s₁.heap.Ns b m->(hidT s₁.heap H).Ns b m:=fun {b m} ⟨o,es,ep,e,d,r⟩=>⟨o,es,ep,base_of e (noA e d),d,r⟩
  have hKb:K.In (hidT s₁.heap H):=fun b o e=>base_of (KX b o e) (by
   cases q:H b with
   |none=>rfl
   |some u=>
    have e':b=a:=hA b (by rw[q];simp)
    subst e'
    rw[hK (by rw[q];simp)] at e;cases e)
  have hM:Mod K mg (hidT s₁.heap H):=⟨hKb,nsK hns,⟨mb,nsK hb,hbb⟩,let ⟨mc,h1,h2⟩:=hlim;⟨mc,nsK h1,h2⟩⟩
  have e0:Env0 P w K mg (hidT s₁.heap H) callerA [] s₁ H:=⟨rfl,hM,fun b o e=>of_hidT e,Nat.le_of_eq (hidT_size _ _),trivial,fun b hb=>absurd (show b∈([]:List Addr) from hb) (by simp),hok,.of_eq hg⟩
  refine codeAny_mono ((F _ hKb (nsK hns)).run callerA [] s₁ H ⟨[.ref a],[]⟩ [.ref a] [.ref a] _ _ hr e0 (hbind s₁ (.ref a)) (.cons rfl .nil) (hsp H hO hS)) fun r s' h=>?_
  cases r with
  |error e=>exact(hCX H e s' h).elim
  |ok fl=>
   cases fl with
   |next=>exact False.elim h
   |brk=>exact False.elim h
   |cont=>exact False.elim h
   |ret u=>
    obtain⟨v,H',os,bare,un,hok',r',q⟩:=h
    have q':v=.bl true:=q
    subst q'
    obtain rfl:u=Value.bool true:=r'
    refine⟨rfl,OldK.of_keep fun b o e=>?_,os,bare⟩
    cases q:H b with
    |none=>exact un.keep b o e q (by intro z;exact absurd (show b∈([]:List Addr) from z) (by simp)) (by simp)
    |some u=>
     rcases hO b with z|⟨ob,xs,z⟩
     ·rw[q] at z;cases z
     ·have z2:=un.frzs b ob _ z
      obtain⟨e1,_⟩:=hok b _ z
      obtain⟨e2,_⟩:=hok' b _ z2
      rw[e] at e1;cases e1
      exact e2
 cases hk:K.lookup a with
 |some o=>
  have e:=KX a o hk
  rw[ha] at e
  cases e
  refine core (fun _=>none) (fun _=>.inl rfl) (.inr ⟨_,vs.toArray,_,hk,rfl,rfl,rfl,by rw[List.size_toArray,lenV];exact hl,by simpa using rv⟩) (fun b u z=>by have z':(none:Option HO)=some u:=z;cases z') (fun b z=>absurd rfl z) fun z=>absurd rfl z
 |none=>
  refine core (fun b=>if b=a then some (.frz { cls:=.type "list",data:=.seq vs.toArray } (.lst (ns.map V.int))) else none) (fun b=>?_) (.inl (.inr ⟨{ cls:=.type "list",data:=.seq vs.toArray },if_pos rfl⟩)) (fun b u z=>?_) (fun b z=>?_) fun _=>hk
  ·by_cases hb:b=a
   ·exact .inr ⟨_,_,if_pos hb⟩
   ·exact .inl (if_neg hb)
  ·by_cases hb:b=a
   ·have z':=(if_pos hb).symm.trans z
    cases z'
    subst hb
    exact⟨ha,by rw[List.length_map];exact hl,vs,_,rv,ha⟩
   ·have z':=(if_neg hb).symm.trans z
    cases z'
  ·by_cases hb:b=a
   ·exact hb
   ·exact absurd (if_neg hb) z
end L2
namespace L2
open PySem PySem.Spec PyProof.Rows
theorem walk_of {l:W.OpenLaw}{n k:Nat}{q:Program}{loose:List Str}{XP:(Str->Option Value)->Heap->Prop}{YP:World->Heap->Prop}{d:DefRec}{K:Params->W.Frag}{CX:World->CXT}{sp:World->Sp}{x:Str}
  (hn:l.most=some n) (hn2:n<=sizeLine) (hdf:d.params.defaults=[]) (hr:Room k callerA)
  (hY:∀(w:World) (h:Heap),YP w h->(K w.params).In h)
  (F:∀(w:World) (mg:Str->Option Value) (fa:Addr) (h:Heap),(K w.params).In h->h.Ns mainGlobals mg->mg d.name=some (.ref fa)→
   ∃fd:FuncData,(∀(s:Shared) (u:Value),BindsTo s fd ⟨[u],[]⟩ [(x,u)])∧
    ∀base:Heap,(K w.params).In base->base.Ns mainGlobals mg->FnOk l.prog w (K w.params) mg base (CX w) k fa fd [x] (sp w))
  (hsp:∀(w:World) (H:Hp) (a:Addr) (ns:List Int),ns.length<=n->Only H->SqL (K w.params) H a (ns.map V.int)->sp w [.ref a] H (fun v _=>v=.bl true) fun _ _ _=>False)
  (hCX:∀(w:World) (H:Hp) (s:Shared) (e:Value) (s':Shared),CX w [] H s (fun _ _ _=>False) e s'->False):
  W.WalkO q loose XP YP l.row.toRowW d [] (fun f vs=>PySem.call f vs):=by
 refine Att.attach_call hn hdf fun w s₀ s₁ mg mb fa o pm cd doc a vs ns G Y ho hd hcd hmg hobj hints hlen hg=>?_
 have KX:=hY w _ Y
 obtain⟨fd,hb,hF⟩:=F w mg fa _ KX G.T.g hmg
 exact law_call KX G.T.g G.T.b G.T.builtins G.T.nolimit hg hobj hints (Nat.le_trans hlen hn2) hr hF hb (fun H hO hS=>hsp w H a ns hlen hO hS) fun H e s'=>hCX w H s₁ e s'
end L2
namespace L2
open PySem PySem.Spec PyProof.Rows
abbrev CX0:CXT:=fun _ _ _ _ _ _=>False
abbrev E0:XK:=fun _ _ _=>False
theorem pass0 {X:Cx}:Passes CX0 X E0:=fun _ _ _ _ _ _ _ h=>h.elim
structure Fun (K:W.Frag)(x qual:Str)(st:Stmt)(f:Addr)(fd:FuncData):Prop where
 ex:∃(oc:Value) (od:Option Addr) (kV doc pm:Value) (an:Option Addr) (cdv ct:Value) (osl:Array (Option Value)),
  fd=W.fnOf x qual (defArgs st) (defBody st) (defScope st) .none kV doc pm an cdv ct/\K.lookup f=some ⟨oc,od,.func fd,osl⟩/\W.codeIn K cdv qual=true
 kp:W.keepIn K (.ref f)=true
section
variable {P:Program} {w:World} {K:W.Frag} {mg:Str->Option Value} {base:Heap}
theorem Fun.ok {x qual:Str}{st:Stmt}{f:Addr}{fd:FuncData}{N ps:List Str}{k:Nat}{sp:Sp}(F:Fun K x qual st f fd)(S:FnScope N ps (defScope st))(len:∀vs H Q E,sp vs H Q E->vs.length=ps.length)
  (hbody:∀(cdv:Value) (A:Around) (outer:List Env) (s:Shared) (H:Hp) (vs:List V) (Q:VK) (E:XK),Room k (A.deeper (envOfC qual (defScope st) s.heap.objs.size f cdv))->sp vs H Q E→
   ∃t,PSs (cxOf CX0 P w K mg base N qual (defScope st) f cdv A outer s H E).nox (defBody st) t/\t { nx:=fun _ H'=>Q .non H',rt:=Q } (start N vs) H):FnOk P w K mg base CX0 (k+1) f fd ps sp:=by
 obtain⟨oc,od,kV,doc,pm,an,cdv,ct,osl,rfl,lk,hcd⟩:=F.ex
 refine fn_of lk hcd S len fun A outer s H vs Q E hr hsp=>?_
 obtain⟨t,h,q⟩:=hbody cdv A outer s H vs Q E hr hsp
 exact⟨t,h.nox,q⟩
theorem Fun.binds {x qual:Str}{st:Stmt}{f:Addr}{fd:FuncData}{ps:List Str}(F:Fun K x qual st f fd)
  (h:∀(kV doc pm:Value) (an:Option Addr) (cdv ct:Value) (us:List Value),us.length=ps.length->bindArgs (W.fnOf x qual (defArgs st) (defBody st) (defScope st) .none kV doc pm an cdv ct) ⟨us,[]⟩=pure (ps.zip us)):Binds K fd ps []:=by
 obtain⟨oc,od,kV,doc,pm,an,cdv,ct,osl,rfl,lk,hcd⟩:=F.ex
 exact .all (h kV doc pm an cdv ct)
theorem fun_mk {x qual:Str}{st:Stmt}{f:Addr}{oc:Value}{od an:Option Addr}{osl:Array (Option Value)}{kV doc pm cdv ct:Value}(l:K.lookup f=some ⟨oc,od,.func (W.fnOf x qual (defArgs st) (defBody st) (defScope st) .none kV doc pm an cdv ct),osl⟩)
  (c:W.codeIn K cdv qual=true) (k:W.keepIn K (.ref f)=true):Fun K x qual st f (W.fnOf x qual (defArgs st) (defBody st) (defScope st) .none kV doc pm an cdv ct):=⟨⟨oc,od,kV,doc,pm,an,cdv,ct,osl,rfl,l,c⟩,k⟩
end
theorem small1000 {n:Nat}(h:n<=1000):n<sizeLine:=Nat.lt_of_le_of_lt h (by decide)
section
variable {X:Cx}
theorem pv (i:Nat){x:Str}{pos:Pos}(hN:X.N[i]?=some x:=by rfl)(hv:Vis X.env.scope x:=by first|exact Or.inl rfl|exact Or.inr (Or.inl rfl)|exact Or.inr (Or.inr rfl))(hd:(x==("__debug__":Str))=false:=by decide)
  (hcd:(x==("__classdict__":Str))=false:=by decide):PE X (.Name x pos) (tVar i):=pe_var hN hv hd hcd
end
theorem iteF {A B:Prop}(h:B):if false=true then A else B:=by
 rw[if_neg Bool.false_ne_true]
 exact h
theorem iteT {A B:Prop}(h:A):if true=true then A else B:=by
 rw[if_pos rfl]
 exact h
theorem ite2 {c A B:Prop}[Decidable c](h1:c->A)(h2:¬c->B):if c then A else B:=by
 by_cases h:c
 ·rw[if_pos h]
  exact h1 h
 ·rw[if_neg h]
  exact h2 h
theorem iteNS {c A B:Prop}[Decidable c](hc:c)(h:B):if (!decide c)=true then A else B:=by
 rw[decide_eq_true hc]
 exact iteF h
def Same (H H':Hp):Prop:=∀b o,H b=some o->H' b=some o
theorem Same.refl (H:Hp):Same H H:=fun _ _ h=>h
theorem Same.trans {H H1 H2:Hp}(a:Same H H1)(b:Same H1 H2):Same H H2:=fun c o h=>b c o (a c o h)
theorem Same.free {H H':Hp}(e:Same H H'){l:Addr}(h:H' l=Option.none):H l=Option.none:=by
 cases q:H l with
 |none=>rfl
 |some o=>
  rw[e l o q] at h
  cases h
theorem Same.seq {K:W.Frag}{H H':Hp}{a:Addr}{xs:List V}(e:Same H H')(h:SqL K H a xs):SqL K H' a xs:=by
 rcases h with(h|⟨o,h⟩)|h
 ·exact .inl (.inl (e _ _ h))
 ·exact .inl (.inr ⟨o,e _ _ h⟩)
 ·exact .inr h
end L2
set_option maxHeartbeats 4000000
namespace L2
open PySem PySem.Spec PyProof.Rows
section
variable {κ:Type} [DecidableEq κ]
def valV (kvs:List (κ×V))(k:κ):Option V:=(kvs.find? fun kv=>decide (kv.1=k)).map (·.2)
theorem valV_pos {p:κ×V}{r:List (κ×V)}{k:κ}(e:p.1=k):valV (p::r) k=some p.2:=by simp[valV,List.find?_cons,e]
theorem valV_neg {p:κ×V}{r:List (κ×V)}{k:κ}(e:¬p.1=k):valV (p::r) k=valV r k:=by simp[valV,List.find?_cons,e]
theorem RelO.isSome_eq {o:Option V}{u:Option Value}(r:RelO o u):o.isSome=u.isSome:=by
 cases o with
 |none=>cases u with
  |none=>rfl
  |some _=>exact(show False from r).elim
 |some _=>cases u with
  |none=>exact(show False from r).elim
  |some _=>rfl
theorem KV.val {kvs:List (κ×V)}{vs:List (κ×Value)}(r:KV kvs vs)(k:κ):RelO (valV kvs k) (valueAt vs k):=by
 unfold KV at r
 induction r with
 |nil=>exact True.intro
 |@cons p q ps qs h t ih=>
  obtain⟨h1,h2⟩:=h
  by_cases e:p.1=k
  ·have e':q.1=k:=h1.symm.trans e
   have b:valueAt (q::qs) k=some q.2:=by simp[valueAt,List.find?_cons,e']
   rw[valV_pos e,b];exact h2
  ·have e':¬q.1=k:=fun z=>e (h1.trans z)
   have b:valueAt (q::qs) k=valueAt qs k:=by simp[valueAt,List.find?_cons,e']
   rw[valV_neg e,b];exact ih
end
def NoSl (i:Expr):Prop:=∀ov iv,subscripted i false ov iv=operate [ov,iv] (getItem ov iv)
theorem subD_of {prog:Program}{w:World}{A:Around}{E:Value->Shared->Prop}{s:Shared}{env:Env}{value slice:Expr}{pos:Pos}{T id:String}{Q:Value->Shared->Prop}
  (hl:typeLookup (.type T) "__getitem__"=pure (some (.builtin id))) (hs:NoSl slice)
  (h:wpAny (model prog w) A (eval value env) (fun o s₁=>wpAny (model prog w) A (eval slice env) (fun i s₂=>s₂.TypeIs o T/\wpAny (model prog w) A (getItem o i) Q E s₂) E s₁) E s):
  wpAny (model prog w) A (eval (.Subscript value slice pos) env) Q E s:=by
 refine Subscript_ (wpAny_mono h (fun o s₁ h₁=>wpAny_mono h₁ (fun i s₂ h₂=>?_) fun _ _ x=>x) fun _ _ x=>x)
 obtain⟨hT,h₂⟩:=h₂
 unfold subscriptTail
 refine wpAny_bind ?_
 rw[getitemInPython_of_ne hT.not_modules]
 refine wpAny_bind (wpAny_specialOf hT hl ?_)
 have fin:wpAny (model prog w) A (subscripted slice false o i) (fun r s₃=>wpAny (model prog w) A (letTemporaryGo value o r >>= fun _=>pure r) Q E s₃) E s₂:=by
  rw[hs o i]
  exact wpAny_operating (wpAny_mono h₂ (fun r s₃ h₃=>wpAny_bind (wpAny_letTemporaryGo (wpAny_pure h₃))) fun _ _ x=>x)
 first
  |exact wpAny_pure (wpAny_bind fin)
  |exact wpAny_bind (wpAny_pure (wpAny_bind fin))
  |exact wpAny_bind fin
structure M1 (X:Cx)(o:Expr)(m:Str)(apos:Pos)(e:Expr)(cpos:Pos):Prop where
 base:attributeBase o m X.env (eval o X.env)=eval o X.env
 few:((backTo cpos (starEach [e] X.env)).all (fun x=>!x.1)&&(backToKw cpos (keywordEach [] X.env)).all (fun x=>x.1.isSome)
  &&decide (([e]:List Expr).length+([]:List Keyword).length+(if ([]:List Keyword).isEmpty then 0 else 1)<30))=true
 line:(apos.endLine==cpos.line)=true
 trees:backTo cpos (starEach [e] X.env)=[(false,eval e X.env)]
structure M2 (X:Cx)(o:Expr)(m:Str)(apos:Pos)(e f:Expr)(cpos:Pos):Prop where
 base:attributeBase o m X.env (eval o X.env)=eval o X.env
 few:((backTo cpos (starEach [e,f] X.env)).all (fun x=>!x.1)&&(backToKw cpos (keywordEach [] X.env)).all (fun x=>x.1.isSome)
  &&decide (([e,f]:List Expr).length+([]:List Keyword).length+(if ([]:List Keyword).isEmpty then 0 else 1)<30))=true
 line:(apos.endLine==cpos.line)=true
 trees:backTo cpos (starEach [e,f] X.env)=[(false,eval e X.env),(false,eval f X.env)]
end L2
namespace L2
open PySem PySem.Spec PyProof.Rows
def KEnt (P:Params):List DictEntry->List (Str×V)->Prop
 | [],[]=>True
 |e::es,kv::kvs=>(e.hash=PyData.keyHash P kv.1/\(∃t,e.key=.str kv.1 t)/\RelV kv.2 e.val)/\KEnt P es kvs
 |_,_=>False
def KD (w:World)(K:W.Frag)(a:Addr)(kvs:List (Str×V)):Prop:=
 ∃es ep,K.lookup a=some { cls:=.type "dict",data:=.dict es ep }/\(a==sysModules)=false/\KEnt w.params es.toList kvs/\(kvs.map (·.1)).Nodup
theorem KEnt.pairs {P:Program}{w:World}:∀{es:List DictEntry} {kvs:List (Str×V)},KEnt w.params es kvs->∃vs:List (Str×Value),KV kvs vs/\Pairs (strKind P w) es vs/\vs.map (·.1)=kvs.map (·.1)/\∀e∈es,∃k,(strKind P w).is k e.key=true/\e.hash=(strKind P w).hash k
 | [],[],_=>⟨[],.nil,.nil,rfl,fun e he=>by simp at he⟩
 |e::es,kv::kvs,⟨⟨h1,⟨t,h2⟩,h3⟩,h4⟩=>by
  obtain⟨vs,a,b,c,d⟩:=KEnt.pairs (P:=P) (w:=w) h4
  have hk:(strKind P w).is kv.1 e.key=true:=by rw[h2];exact strKind_is P w kv.1 t
  refine⟨(kv.1,e.val)::vs,.cons ⟨rfl,h3⟩ a,.cons hk rfl b,by rw[List.map_cons,List.map_cons,c],fun x hx=>?_⟩
  rcases List.mem_cons.mp hx with rfl|hx
  ·exact⟨kv.1,hk,h1⟩
  ·exact d x hx
 | [],_::_,h=>h.elim
 |_::_,[],h=>h.elim
section
variable {X:Cx} {pins:List (Addr×Obj)} {σ:St} {H:Hp} {s:Shared} {a:Addr} {kvs:List (Str×V)}
theorem KD.dict (I:Inv X pins σ H s)(h:KD X.w X.K a kvs):(a==sysModules)=false/\∃vs:List (Str×Value),KV kvs vs/\s.heap.DictOf (strKind X.prog X.w) a vs:=by
 obtain⟨es,ep,hk,hs,he,hn⟩:=h
 obtain⟨vs,a1,a2,a3,a4⟩:=he.pairs (P:=X.prog)
 exact⟨hs,vs,a1,_,es,ep,I.kIn _ _ hk,⟨rfl,rfl,rfl⟩,rfl,fun e he=>a4 e (Array.mem_toList_iff.mpr he),a2,by rw[a3];exact hn⟩
end
def tKGet (w:World)(K:W.Frag)(td ty:TE):TE:=fun σ H Q=>td σ H fun x H1=>ty σ H1 fun y H2=>∃a kvs k v,x=.ref a/\y=.str k/\KD w K a kvs/\valV kvs k=some v/\Q v H2
def tKNotIn (w:World)(K:W.Frag)(ty td:TE):TE:=fun σ H Q=>ty σ H fun y H1=>td σ H1 fun x H2=>∃a kvs k,x=.ref a/\y=.str k/\KD w K a kvs/\Q (.bl (!(valV kvs k).isSome)) H2
section
variable {X:Cx} {o i:Expr} {pos:Pos} {td ty:TE}
theorem pe_kget (ho:PE X o td)(hi:PE X i ty)(hs:NoSl i):PE X (.Subscript o i pos) (tKGet X.w X.K td ty):=by
 intro pins s σ H Q I h
 refine subD_of PySem.F.slot_dict_getitem.lookup hs (thn (ho pins s σ H _ I h) fun u s1 ⟨x,H1,I1,rx,q1⟩=>thn (hi pins s1 σ H1 _ I1 q1) fun iv s2 ⟨y,H2,I2,ry,a,kvs,k,v,ex,ey,d,l,q2⟩=>?_)
 subst ex ey
 obtain rfl:u=Value.ref a:=rx
 obtain⟨t,rfl⟩:=ry
 obtain⟨_,vs,rel,dd⟩:=d.dict I2
 obtain⟨w',hw,rw'⟩:=RelO.some_of (v:=v) (o:=valueAt vs k) (by rw[<- l];exact rel.val k)
 exact⟨dd.typeIs,wpAny_getItem_of (strKind_is X.prog X.w k t) dd.mapOf hw ⟨v,H2,I2.tok _,rw',q2⟩⟩
theorem pc_knotin (hi:PE X i ty)(ho:PE X o td):PC X .NotIn i o (tKNotIn X.w X.K ty td):=by
 intro pins s σ H Q I h
 refine thn (hi pins s σ H _ I h) fun iv s1 ⟨y,H1,I1,ry,q1⟩=>thn (ho pins s1 σ H1 _ I1 q1) fun u s2 hq9=>?_
 obtain⟨x,H2,I2,rx,a,kvs,k,ex,ey,d,q2⟩:=hq9
 subst ex ey
 obtain rfl:u=Value.ref a:=rx
 obtain⟨t,rfl⟩:=ry
 obtain⟨hd,vs,rel,dd⟩:=d.dict I2
 refine wpAny_notIn_of (strKind_is X.prog X.w k t) hd dd.mapOf ?_
 rw[<- (rel.val k).isSome_eq]
 exact⟨.bl (!(valV kvs k).isSome),H2,I2.tok _,rfl,q2⟩
end
end L2
namespace L2
open PySem PySem.Spec PyProof.Rows
section
variable {prog:Program} {w:World} {A:Around} {R:Result->Shared->Prop} {s:Shared}
theorem comp_loop {elt target iter:Expr}{ifs:List Expr}{scope:Scope}{pos:Pos}{it acc:Value}{env:Env}(I:Nat->Shared->Prop)
  (turn:∀n s,I n s->wpAny (model prog w) A (pyNext it) (fun r s1=>match r with
   |none=>R (.ok .next) s1
   |some v=>wpAny (model prog w) A (letOwnedTupleGo target it v) (fun _ s1'=>wpAny (model prog w) A (assign target env v) (fun _ s2=>
     wpAny (model prog w) A (forIn ifs true fun c r=>if r=true then do let ok ← isTrue c env (eval c env);pure (ForInStep.yield ok) else pure (ForInStep.yield r)) (fun ok s3=>
      if ok=true then wpAny (model prog w) A (eval elt env) (fun x s4=>
       wpAny (model prog w) A (call (.builtin "list.append") [acc,x]) (fun _ s5=>∃m,m<n/\I m s5) (fun _ _=>False) s4) (fun _ _=>False) s3
      else ∃m,m<n/\I m s3) (fun _ _=>False) s2) (fun _ _=>False) s1') (fun _ _=>False) s1) (fun _ _=>False) s)
  (n:Nat) (h:I n s):
  codeAny (model prog w) A (.compLoop (.ListComp elt [⟨target,iter,ifs,0⟩] scope pos) 0 it acc env) R s:=by
 refine codeAny_loop rfl I (fun n s hI=>?_) n h
 show wpAny _ A ((compTurn (.ListComp elt [⟨target,iter,ifs,0⟩] scope pos) 0 it acc env).onRaise (fun x=>do noteFrame x env;theTreesLotGoes x)) _ _ s
 refine wpAny_noted ?_
 rw[compTurn_list]
 refine wpAny_bind (wpAny_standAt (wpAny_bind (wpAny_mono (turn n s hI) (fun r s1 h1=>?_) fun _ _ f=>f.elim)))
 cases r with
 |none=>exact wpAny_pure h1
 |some v=>
  refine wpAny_bind (wpAny_mono h1 (fun _ s1' h1'=>?_) fun _ _ f=>f.elim)
  refine wpAny_bind (wpAny_mono h1' (fun _ s2 h2=>wpAny_bind (wpAny_mono h2 (fun ok s3 h3=>?_) fun _ _ f=>f.elim)) fun _ _ f=>f.elim)
  cases ok with
  |false=>exact wpAny_pure ⟨rfl,h3⟩
  |true=>
   exact wpAny_bind (wpAny_bind (wpAny_mono h3 (fun x s4 h4=>wpAny_bind (wpAny_mono h4 (fun _ s5 h5=>wpAny_pure (wpAny_pure ⟨rfl,h5⟩)) fun _ _ f=>f.elim)) fun _ _ f=>f.elim))
end
def clOf (env:Env):List (Str×NameKind)->List (Str×Addr)->List (Str×Addr)
 | [],cs=>cs
 | (n,k)::r,cs=>clOf env r (if (k==NameKind.free)=true then(match env.cells.lookup n with|some a=>(n,a)::cs|none=>cs) else cs)
theorem closure_loop {env:Env}{f:Str×NameKind->List (Str×Addr)->Sem (ForInStep (List (Str×Addr)))}
  (hf:∀n k cs,f (n,k) cs=if (k==NameKind.free)=true then(do let a ← cellOf env n;pure (.yield ((n,a)::cs))) else pure (.yield cs)):
  ∀(l:List (Str×NameKind)) (cs:List (Str×Addr)),(∀y∈l,y.2=.free->∃c,env.cells.lookup y.1=some c)->forIn l cs f=pure (clOf env l cs)
 | [],cs,_=>by rw[List.forIn_nil];rfl
 | (n,k)::r,cs,h=>by
  have hr:∀y∈r,y.2=.free->∃c,env.cells.lookup y.1=some c:=fun y hy=>h y (List.mem_cons_of_mem _ hy)
  rw[List.forIn_cons,hf]
  unfold clOf
  by_cases hk:(k==NameKind.free)=true
  ·obtain⟨c,hc⟩:=h (n,k) List.mem_cons_self (by simpa using hk)
   have hc':env.cells.lookup n=some c:=hc
   rw[if_pos hk,if_pos hk]
   simp only[cellOf,hc',pure_bind]
   exact closure_loop hf r _ hr
  ·rw[if_neg hk,if_neg hk,pure_bind]
   exact closure_loop hf r _ hr
theorem closure_eq {env:Env}{scope:Scope}(h:∀y∈scope.names,y.2=.free->∃c,env.cells.lookup y.1=some c):closureFor scope env=pure (clOf env scope.names []):=by
 simp only[closureFor]
 rw[closure_loop (env:=env) (fun n k cs=>by cases hk:k==NameKind.free<;>simp[hk]) scope.names [] h]
 rfl
theorem clOf_mem {env:Env}{x:Str}{c:Addr}:∀{l:List (Str×NameKind)} {cs:List (Str×Addr)},(∀z d,cs.lookup z=some d->env.cells.lookup z=some d)->(clOf env l cs).lookup x=some c->env.cells.lookup x=some c
 | [],_,hc,h=>hc _ _ h
 | (n,k)::r,cs,hc,h=>by
  unfold clOf at h
  refine clOf_mem (l:=r) ?_ h
  intro z d hz
  split at hz
  ·split at hz
   ·rename_i a ha
    rw[List.lookup_cons] at hz
    split at hz
    ·rename_i e
     have e':z=n:=by simpa using e
     subst e'
     rw[ha]
     exact hz
    ·exact hc z d hz
   ·exact hc z d hz
  ·exact hc z d hz
theorem clOf_get {env:Env}{x:Str}{c:Addr}(e:env.cells.lookup x=some c):∀{l:List (Str×NameKind)} {cs:List (Str×Addr)},(∀z d,cs.lookup z=some d->env.cells.lookup z=some d)→
  ((x,NameKind.free)∈l\/∃d,cs.lookup x=some d)->(clOf env l cs).lookup x=some c
 | [],cs,hc,h=>by
  rcases h with h|⟨d,h⟩
  ·simp at h
  ·have:=hc x d h
   rw[e] at this
   cases this
   exact h
 | (n,k)::r,cs,hc,h=>by
  unfold clOf
  have hc2:∀z d,(if (k==NameKind.free)=true then(match env.cells.lookup n with|some a=>(n,a)::cs|none=>cs) else cs).lookup z=some d->env.cells.lookup z=some d:=by
   intro z d hz
   split at hz
   ·split at hz
    ·rename_i a ha
     rw[List.lookup_cons] at hz
     split at hz
     ·rename_i e
      have e':z=n:=by simpa using e
      subst e'
      rw[ha]
      exact hz
     ·exact hc z d hz
    ·exact hc z d hz
   ·exact hc z d hz
  refine clOf_get e (l:=r) hc2 ?_
  have keep:∀d,cs.lookup x=some d->∃d,(if (k==NameKind.free)=true then(match env.cells.lookup n with|some a=>(n,a)::cs|none=>cs) else cs).lookup x=some d:=by
   intro d hd
   split
   ·split
    ·rename_i a ha
     rw[List.lookup_cons]
     split
     ·exact⟨_,rfl⟩
     ·exact⟨d,hd⟩
    ·exact⟨d,hd⟩
   ·exact⟨d,hd⟩
  rcases h with h|⟨d,h⟩
  ·rcases List.mem_cons.mp h with h|h
   ·have e1:x=n:=congrArg Prod.fst h
    have e2:k=NameKind.free:=(congrArg Prod.snd h).symm
    subst e1 e2
    refine .inr ⟨c,?_⟩
    rw[if_pos (by decide),e]
    simp[List.lookup_cons]
   ·exact .inl h
  ·exact .inr (keep d h)
theorem relabel_free {env:Env}:∀{names:List (Str×NameKind)} {x:Str} {k:NameKind},
  (names.map fun(n,k)=>if (k==NameKind.free&&env.scope.kind==.function&&env.kindOf n==some .cell) then(n,NameKind.cell) else(n,k)).lookup x=some k->(k=.cell\/k=.free)->(∀y∈names,y.2≠.cell)->names.lookup x=some .free
 | [],_,_,h,_,_=>by simp at h
 | (n,k0)::r,x,k,h,hk,hn=>by
  have ih:=@relabel_free env r x k
  have h':List.lookup x ((if (k0==NameKind.free&&env.scope.kind==.function&&env.kindOf n==some .cell)=true then(n,NameKind.cell) else(n,k0))::(r.map fun(n,k)=>if (k==NameKind.free&&env.scope.kind==.function&&env.kindOf n==some .cell) then(n,NameKind.cell) else(n,k)))=some k:=h
  cases hx:x==n with
  |true=>
   have go:List.lookup x ((n,k0)::r)=some k0:=by simp[List.lookup_cons,hx]
   rw[go]
   by_cases hc:(k0==NameKind.free&&env.scope.kind==.function&&env.kindOf n==some .cell)=true
   ·have:k0=NameKind.free:=by
     simp only[Bool.and_eq_true] at hc
     simpa using hc.1.1
    rw[this]
   ·rw[if_neg hc] at h'
    simp only[List.lookup_cons,hx] at h'
    cases h'
    rcases hk with hk|hk
    ·exact absurd hk (hn _ List.mem_cons_self)
    ·rw[hk]
  |false=>
   have go:List.lookup x ((n,k0)::r)=List.lookup x r:=by simp[List.lookup_cons,hx]
   rw[go]
   refine ih ?_ hk (fun y hy=>hn y (List.mem_cons_of_mem _ hy))
   by_cases hc:(k0==NameKind.free&&env.scope.kind==.function&&env.kindOf n==some .cell)=true
   ·rw[if_pos hc] at h'
    simp only[List.lookup_cons,hx] at h'
    exact h'
   ·rw[if_neg hc] at h'
    simp only[List.lookup_cons,hx] at h'
    exact h'
theorem relabel_of_free {env:Env}:∀{names:List (Str×NameKind)} {x:Str},names.lookup x=some .free→
  (names.map fun(n,k)=>if (k==NameKind.free&&env.scope.kind==.function&&env.kindOf n==some .cell) then(n,NameKind.cell) else(n,k)).lookup x=some .cell∨
  (names.map fun(n,k)=>if (k==NameKind.free&&env.scope.kind==.function&&env.kindOf n==some .cell) then(n,NameKind.cell) else(n,k)).lookup x=some .free
 | [],_,h=>by simp at h
 | (n,k0)::r,x,h=>by
  have ih:=@relabel_of_free env r x
  show List.lookup x ((if (k0==NameKind.free&&env.scope.kind==.function&&env.kindOf n==some .cell)=true then(n,NameKind.cell) else(n,k0))::_)=_\/List.lookup x ((if (k0==NameKind.free&&env.scope.kind==.function&&env.kindOf n==some .cell)=true then(n,NameKind.cell) else(n,k0))::_)=_
  cases hx:x==n with
  |true=>
   simp only[List.lookup_cons,hx] at h
   by_cases hc:(k0==NameKind.free&&env.scope.kind==.function&&env.kindOf n==some .cell)=true
   ·rw[if_pos hc]
    left
    simp only[List.lookup_cons,hx]
   ·rw[if_neg hc]
    right
    simp only[List.lookup_cons,hx]
    exact h
  |false=>
   simp only[List.lookup_cons,hx] at h
   by_cases hc:(k0==NameKind.free&&env.scope.kind==.function&&env.kindOf n==some .cell)=true
   ·rw[if_pos hc]
    simp only[List.lookup_cons,hx]
    exact ih h
   ·rw[if_neg hc]
    simp only[List.lookup_cons,hx]
    exact ih h
def blk (X:Cx)(N:List Str)(scope:Scope)(C:Addr)(s:Shared)(H:Hp)(ex:List Addr):Cx where
 prog:=X.prog
 w:=X.w
 K:=X.K
 mg:=X.mg
 base:=X.base
 A:=X.A
 N:=N
 s₀:=s
 H₀:=H
 env:=compEnvC scope (clOf X.env scope.names []) C X.env
 outer:=X.stack
 stack:=X.stack
 ex:=ex
 fn:=fun _=>false
 calm:=X.calm
 pn:=[]
 xe:=fun _ _=>False
structure BlkScope (sc:Scope)(N own cn:List Str)(ci:List Nat)(scope:Scope):Prop where
 kind:scope.kind=.function
 nocell:∀y∈scope.names,y.2≠.cell
 names:∀y∈scope.names,y.2=.local->scope.names.lookup y.1=some .local
 free:∀y∈scope.names,y.2=.free->sc.names.lookup y.1=some .cell\/sc.names.lookup y.1=some .free
 cap:(cn.map fun x=>(some x:Option Str))=ci.map fun i=>N[i]?
 capk:∀x∈cn,scope.names.lookup x=some .free
 nd:(own++cn).Nodup
theorem BlkScope.of {sc:Scope}{N own cn:List Str}{ci:List Nat}{scope:Scope}(h:scope.kind=.function/\(∀y∈scope.names,y.2≠.cell)/\(∀y∈scope.names,y.2=.local->scope.names.lookup y.1=some .local)/\(∀y∈scope.names,y.2=.free->sc.names.lookup y.1=some .cell\/sc.names.lookup y.1=some .free)/\(cn.map fun x=>(some x:Option Str))=(ci.map fun i=>N[i]?)/\(∀x∈cn,scope.names.lookup x=some .free)/\(own++cn).Nodup):BlkScope sc N own cn ci scope:=⟨h.1,h.2.1,h.2.2.1,h.2.2.2.1,h.2.2.2.2.1,h.2.2.2.2.2.1,h.2.2.2.2.2.2⟩
def blkS (own:List Str)(ci:List Nat)(σ:St):St:=own.map (fun _=>none)++ci.map fun i=>(σ[i]?).join
section
variable {X:Cx} {pins:List (Addr×Obj)} {σ:St} {H H2:Hp} {s s2:Shared} {sc:Scope} {N own cn:List Str} {ci:List Nat} {scope:Scope} {fp:List Addr}
theorem blk_cells (S:BlkScope sc N own cn ci scope)(hsc:X.env.scope=sc)(I:Inv X pins σ H s):∀y∈scope.names,y.2=.free->∃c,X.env.cells.lookup y.1=some c:=fun y hy hf=>by
 refine I.ok.has y.1 ?_
 have:=S.free y hy hf
 rw[<- hsc] at this
 exact this
theorem blk_inv (S:BlkScope sc N own cn ci scope)(hsc:X.env.scope=sc)(hN:X.N=N)(I:Inv X pins σ H s)(hfp:∀b∈fp,FpOk X pins H b)(hlt:∀b∈fp,b<s.heap.objs.size){h1:Heap}{tk:Nat}{m:Str->Option Value}
  (hns:h1.Ns s.heap.objs.size m) (keep:∀b o,s.heap.get? b=some o->h1.get? b=some o):
  Inv (blk X (own++cn) scope s.heap.objs.size s H fp) [] (blkS own ci σ) H { s with heap:=h1,toks:=tk }:=by
 have ccl:∀x c,(clOf X.env scope.names []).lookup x=some c->X.env.cells.lookup x=some c:=fun x c e=>clOf_mem (fun z d h=>by simp at h) e
 have cnl:cn.length=ci.length:=by have:=congrArg List.length S.cap;simpa using this
 refine⟨⟨I.ok.mod,?_,I.ok.glob,I.ok.blt,Nat.le_refl _,fun x y c e1 e2=>I.ok.inj x y c (ccl x c e1) (ccl y c e2),fun x hx=>?_,fun x c hf _=>?_,I.ok.hd,I.ok.frames,.inl rfl,fun b hb=>⟨Nat.ne_of_lt (hlt b hb),fun x c e=>(hfp b hb).2.2.2.2.1 x c (ccl x c e)⟩,I.bs,Nat.le_trans I.ok.bsz I.sz,fun b o e hb=>?_,fun b hb hb2=>?_,I.stack,I.stkFree⟩,
  rfl,I.bare,Un.kept keep,⟨m,hns,fun i x v e1 e2 e3=>?_⟩,fun x c e=>?_,I.hok.fresh (Nat.le_refl _),fun x c e=>I.freeC x c (ccl x c e),fun p hp=>absurd (show p∈([]:List (Addr×Obj)) from hp) (by simp),I.hok.kept keep,?_⟩
 ·exact S.kind
 ·have hx':(relabel scope X.env).names.lookup x=some .cell\/(relabel scope X.env).names.lookup x=some .free:=hx
  have hfree:scope.names.lookup x=some .free:=by
   rcases hx' with q|q
   ·exact relabel_free q (.inl rfl) S.nocell
   ·exact relabel_free q (.inr rfl) S.nocell
  have hm:=PySem.mem_of_lookup hfree
  obtain⟨c,hc⟩:=blk_cells S hsc I _ hm rfl
  exact⟨c,clOf_get hc (fun z d h=>by simp at h) (.inl hm)⟩
 ·exact absurd hf (by show ¬(false=true);decide)
 ·rcases(hfp b hb).2.2.2.1 with z|z
  ·exact I.ok.noex b o e z
  ·exact absurd (Nat.lt_of_lt_of_le (Heap.lt_size (I.ok.bs b o e).1) z) (Nat.lt_irrefl _)
 ·rcases List.mem_cons.mp (I.stkSub b hb2) with z|z
  ·exact(hfp b hb).2.1 z
  ·exact(hfp b hb).2.2.1 z
 ·have e1':(own++cn)[i]?=some x:=e1
  unfold blkS at e2
  by_cases hi:i<own.length
  ·rw[List.getElem?_append_left (by simpa using hi),List.getElem?_map] at e2
   cases q:own[i]? with
   |none=>rw[q] at e2;cases e2
   |some z=>rw[q] at e2;cases e2
  ·rw[List.getElem?_append_right (by simpa using hi)] at e2
   rw[List.getElem?_append_right (by omega)] at e1'
   rw[List.length_map,List.getElem?_map] at e2
   cases q:ci[i-own.length]? with
   |none=>rw[q] at e2;cases e2
   |some j=>
    rw[q] at e2
    have e2':(σ[j]?).join=some v:=Option.some.inj e2
    have e3':σ[j]?=some (some v):=by
     cases z:σ[j]? with
     |none=>rw[z] at e2';cases e2'
     |some o=>rw[z] at e2';exact congrArg some e2'
    have hNj:X.N[j]?=some x:=by
     have c1:=congrArg (fun l=>l[i-own.length]?) S.cap
     simp only[List.getElem?_map,e1',q,Option.map_some] at c1
     rw[hN]
     exact(Option.some.inj c1).symm
    have hfree:=S.capk x (List.mem_of_getElem? e1')
    have hm:=PySem.mem_of_lookup hfree
    have hk:=S.free _ hm rfl
    rw[<- hsc] at hk
    have hvis:Vis X.env.scope x:=.inr hk
    obtain⟨m0,_,hl⟩:=I.loc
    obtain⟨u,r,l⟩:=hl j x v hNj e3' hvis
    refine⟨u,r,.inr ⟨relabel_of_free hfree,?_⟩⟩
    rcases l with⟨l,_⟩|⟨_,c,ec,z⟩
    ·have l':X.env.scope.names.lookup x=some .local:=l
     rcases hk with hk|hk<;>(rw[hk] at l';cases l')
    ·refine⟨c,clOf_get ec (fun z d h=>by simp at h) (.inl hm),?_⟩
     obtain⟨o,ho,hd⟩:=z
     exact⟨o,keep c o ho,hd⟩
 ·obtain⟨v,o,ho,hd⟩:=I.cell x c (ccl x c e)
  exact⟨v,o,keep c o ho,hd⟩
 ·show(blkS own ci σ).length=(own++cn).length
  unfold blkS
  rw[List.length_append,List.length_append,List.length_map,List.length_map,cnl]
end
def PTs (X:Cx)(ifs:List Expr)(t:TT):Prop:=
 ∀(pins:List (Addr×Obj)) (s:Shared) (σ:St) (H:Hp) (Q:Bool->Hp->Prop),Inv X pins σ H s->t σ H Q→
  wpAny (model X.prog X.w) X.A (forIn ifs true fun c r=>if r=true then do let ok ← isTrue c X.env (eval c X.env);pure (ForInStep.yield ok) else pure (ForInStep.yield r)) (TP X pins σ Q) X.xe s
def tTrue:TT:=fun _ H Q=>Q true H
theorem pts_nil {X:Cx}:PTs X [] tTrue:=fun _ _ _ H _ I h=>wpAny_tests_nil ⟨H,I,h⟩
theorem pts_one {X:Cx}{c:Expr}{t:TT}(h:PT X c t):PTs X [c] t:=fun pins s σ H Q I q=>wpAny_tests_one (h pins s σ H Q I q)
def LcW (J:It)(g:TG)(tt:TT)(te:TE)(D:Addr)(Q:Hp->Prop)(W:Nat->Nat->St->Hp->Prop):Prop:=∀i m σ H,W i m σ H→
 (J.stop i H/\Q H)\/(J.go i H/\∀x H1,J.yld i H x H1->g x σ H1 fun σ2 H2=>tt σ2 H2 fun ok H3=>if ok=true then te σ2 H3 fun y H4=>∃ys,H4 D=some (.lst ys)/\ys.length<sizeLine∧
  ∃m',m'<m/\W (i+1) m' σ2 (upd H4 D (.lst (ys++[y]))) else ∃m',m'<m/\W (i+1) m' σ2 H3)
def tLC (own:List Str)(ci:List Nat)(wi:TI)(g:TG)(tt:TT)(te:TE):TE:=fun σ H Q=>wi σ H fun J H1=>∀D,H1 D=none→
 ∃W:Nat->Nat->St->Hp->Prop,(∃m,W 0 m (blkS own ci σ) (upd H1 D (.lst [])))/\LcW J g tt te D (Q (.ref D)) W
section
variable {X:Cx} {pins:List (Addr×Obj)} {σ:St} {H H2:Hp} {s s2:Shared} {sc:Scope} {N own cn:List Str} {ci:List Nat} {scope:Scope} {fp:List Addr}
 {elt tg iter:Expr} {ifs:List Expr} {pos:Pos} {g:TG} {tt:TT} {te:TE} {wi:TI}
theorem lc_block {it:Addr}{tn:Nat->Heap->Prop}{J:It}{Q:VK}{E:Value->Shared->Prop}{RR:Value->Addr->Result->Shared->Prop}(S:BlkScope sc N own cn ci scope)(hsc:X.env.scope=sc)(hN:X.N=N)(hc:X.calm=true)
  (I2:Inv X pins σ H2 s2) (T:Turn X.prog X.w X.K tg J fp it tn) (st2:tn 0 s2.heap) (f2:∀b∈fp,FpOk X pins H2 b)
  (hg:∀C s H,PG (blk X (own++cn) scope C s H fp) tg g) (ht:∀C s H,PTs (blk X (own++cn) scope C s H fp) ifs tt) (he:∀C s H,PE (blk X (own++cn) scope C s H fp) elt te)
  (q:∀D,H2 D=none->∃W:Nat->Nat->St->Hp->Prop,(∃m,W 0 m (blkS own ci σ) (upd H2 D (.lst [])))/\LcW J g tt te D (Q (.ref D)) W)
  (hRR:∀D C H' s',Inv X pins σ H' s'->Q (.ref D) H'->(∃m,s'.heap.Ns C m)->FpOk X pins H' C->RR (.ref D) C (.ok .next) s'):
  wpAny (model X.prog X.w) X.A (newList []) (fun acc s3=>wpAny (model X.prog X.w) X.A (newFunctionEnv scope X.env.globals (clOf X.env scope.names []) [] X.env.qual none .none (some X.env)) (fun cenv s4=>
   codeAny (model X.prog X.w) X.A (.compStart (.ListComp elt [⟨tg,iter,ifs,0⟩] scope pos) 0 (.ref it) acc { cenv with scope:=relabel scope X.env }) (RR acc cenv.locals) s4) E s3) E s2:=by
 refine wpAny_newObj_type (wpAny_newFunctionEnv S.nocell (by intro y hy;simp at hy) (fun h1 hns1 hsb1=>?_) S.kind)
 dsimp only at hns1 hsb1 ⊢
 have I3:Inv X pins σ (upd H2 s2.heap.objs.size (.lst [])) { s2 with heap:=s2.heap.push { cls:=.type "list",data:=.seq ([]:List Value).toArray },toks:=s2.toks }:=I2.lnew (its:=[]) (t':=s2.toks) .nil (Nat.zero_le _)
 have hD:H2 s2.heap.objs.size=none:=I2.hok.fresh (Nat.le_refl _)
 have fpe:∀b∈fp,b<s2.heap.objs.size:=fun b hb=>by
  obtain⟨o,e,_⟩:=T.obj _ _ st2 b hb
  exact Heap.lt_size e
 have f3:∀b∈fp,FpOk X pins (upd H2 s2.heap.objs.size (.lst [])) b:=fun b hb=>⟨by rw[upd_ne (Nat.ne_of_lt (fpe b hb))];exact(f2 b hb).1,(f2 b hb).2⟩
 obtain⟨W,⟨m0,w0⟩,turn⟩:=q s2.heap.objs.size hD
 generalize hs3:({ s2 with heap:=s2.heap.push { cls:=.type "list",data:=.seq ([]:List Value).toArray },toks:=s2.toks }:Shared)=s3 at I3
 have e3:s3.heap=s2.heap.push { cls:=.type "list",data:=.seq ([]:List Value).toArray }:=by rw[<- hs3]
 have hsz3:s3.heap.objs.size=s2.heap.objs.size+1:=by rw[e3,Heap.size_push]
 have keep3:∀b o,s2.heap.get? b=some o->s3.heap.get? b=some o:=fun b o e=>by rw[e3];exact Heap.get?_push_of_some _ e
 have keep:∀b o,s3.heap.get? b=some o->h1.get? b=some o:=fun b o e=>by
  refine hsb1.extBut b o ?_ (Heap.get?_push_of_some _ (by rw[<- e3];exact e))
  have:=Heap.lt_size e
  rw[e3] at this
  exact Nat.ne_of_lt this
 have hns:h1.Ns s3.heap.objs.size (fun x=>([]:List (Str×Value)).reverse.lookup x):=by rw[e3];exact hns1
 have I4:=blk_inv (fp:=fp) (tk:=s2.toks+([]:List (Str×Value)).length) S hsc hN I3 f3 (fun b hb=>by rw[hsz3];exact Nat.lt_succ_of_lt (fpe b hb)) hns keep
 have st4:tn 0 h1:=T.keep _ _ _ st2 fun b hb o e=>keep b o (keep3 b o e)
 have hC:(s2.heap.push { cls:=.type "list",data:=.seq ([]:List Value).toArray }).objs.size=s3.heap.objs.size:=by rw[e3]
 have stat:∀{H':Hp},(∀b∈fp,H' b=none)->∀b∈fp,FpOk (blk X (own++cn) scope s3.heap.objs.size s3 (upd H2 s2.heap.objs.size (.lst [])) fp) [] H' b:=fun hn b hb=>
  ⟨hn b hb,Nat.ne_of_lt (by rw[hsz3];exact Nat.lt_succ_of_lt (fpe b hb)),fun z=>I4.ok.exfs b hb z,.inl hb,(I4.ok.exf b hb).2,fun p hp=>absurd (show p∈([]:List (Addr×Obj)) from hp) (by simp)⟩
 have loop:∀s4:Shared,s4={ s3 with heap:=h1,toks:=s2.toks+([]:List (Str×Value)).length }→
   codeAny (model X.prog X.w) X.A (.compLoop (.ListComp elt [⟨tg,iter,ifs,0⟩] scope pos) 0 (.ref it) (.ref s2.heap.objs.size) (compEnvC scope (clOf X.env scope.names []) s3.heap.objs.size X.env)) (RR (.ref s2.heap.objs.size) s3.heap.objs.size) s4:=by
  rintro s4 rfl
  refine comp_loop (fun n s'=>∃i σ' H',Inv (blk X (own++cn) scope s3.heap.objs.size s3 (upd H2 s2.heap.objs.size (.lst [])) fp) [] σ' H' s'/\tn i s'.heap/\(∀b∈fp,H' b=none)/\W i n σ' H') ?_ m0
   ⟨0,_,_,I4,st4,fun b hb=>(f3 b hb).1,w0⟩
  rintro n s5 ⟨i,σ5,H5,I5,st5,fr5,w5⟩
  rcases turn i n σ5 H5 w5 with⟨stop,qn⟩|⟨go,step⟩
  ·refine thn (T.done (blk X (own++cn) scope s3.heap.objs.size s3 (upd H2 s2.heap.objs.size (.lst [])) fp) rfl rfl rfl hc i [] s5 σ5 H5 (fun _ _=>False) I5 (stat fr5) st5 stop) fun r s6 hq9=>?_
   obtain⟨hr,I6⟩:=hq9
   subst hr
   refine hRR _ _ H5 s6 (I3.call' I6.os I6.base I6.hok I6.bare fun b hb=>⟨(f3 b hb).2.2.2.1,(f3 b hb).2.1,(f3 b hb).2.2.2.2.1,(f3 b hb).2.2.2.2.2⟩) qn (let ⟨m,hn,_⟩:=I6.loc;⟨m,hn⟩) (I3.fpOk (Nat.le_refl _) I6.free)
  ·refine thn (T.item (blk X (own++cn) scope s3.heap.objs.size s3 (upd H2 s2.heap.objs.size (.lst [])) fp) rfl rfl rfl hc i [] s5 σ5 H5 (fun _ _=>False) I5 (stat fr5) st5 go) fun r s6 hq9=>?_
   obtain⟨u,hr,h6⟩:=hq9
   subst hr
   refine thn h6 fun _ s7 hq9=>?_
   obtain⟨x,H7,I7,r7,y7,st7,fr7⟩:=hq9
   have I7':=I7.pinned (stat fr7) (T.obj _ _ st7)
   refine thn (hg _ _ _ _ s7 σ5 H7 x u _ I7' r7 (step x H7 y7)) fun _ s8 hq9=>?_
   obtain⟨σ8,H8,I8,q8⟩:=hq9
   refine thn (ht _ _ _ _ s8 σ8 H8 _ I8 q8) fun ok s9 hq9=>?_
   obtain⟨H9,I9,q9⟩:=hq9
   have again:∀{H':Hp} {s':Shared} {m':Nat},Inv (blk X (own++cn) scope s3.heap.objs.size s3 (upd H2 s2.heap.objs.size (.lst [])) fp) ([]++pinsAt fp s7.heap) σ8 H' s'->W (i+1) m' σ8 H'→
     ∃i σ' H',Inv (blk X (own++cn) scope s3.heap.objs.size s3 (upd H2 s2.heap.objs.size (.lst [])) fp) [] σ' H' s'/\tn i s'.heap/\(∀b∈fp,H' b=none)/\W i m' σ' H':=fun {H' s' m'} I' w'=>by
    refine⟨i+1,σ8,H',I'.unpinned,T.keep _ _ _ st7 fun b hb o e=>(I'.pin (b,o) (List.mem_append_right _ (List.mem_append_right _ (mem_pinsAt hb e)))).1,fun b hb=>?_,w'⟩
    obtain⟨o,e,_⟩:=T.obj _ _ st7 b hb
    exact(I'.pin (b,o) (List.mem_append_right _ (List.mem_append_right _ (mem_pinsAt hb e)))).2.1
   cases ok with
   |false=>
    obtain⟨m',hm,w'⟩:=q9
    exact⟨m',hm,again I9 w'⟩
   |true=>
    refine thn (he _ _ _ _ s9 σ8 H9 _ I9 q9) fun v s10 hq9=>?_
    obtain⟨y,H10,I10,r10,ys,hDl,hz,m',hm,w'⟩:=hq9
    refine thn (mt_append _ s10 σ8 H10 (.ref s2.heap.objs.size) [y] (.ref s2.heap.objs.size) [v] (fun _ H11=>H11=upd H10 s2.heap.objs.size (.lst (ys++[y]))) I10 rfl (.cons r10 .nil) ⟨_,ys,y,rfl,rfl,hDl,hz,rfl⟩) fun _ s11 hq9=>?_
    obtain⟨_,H11,I11,_,e11⟩:=hq9
    subst e11
    exact⟨m',hm,again I11 w'⟩
 have es:({ s2 with heap:=h1,toks:=s2.toks+([]:List (Str×Value)).length }:Shared)={ s3 with heap:=h1,toks:=s2.toks+([]:List (Str×Value)).length }:=by rw[<- hs3]
 rw[hC]
 exact codeAny_compStart_list (loop _ es) (T.self _ 0 _ _ _ st4 (loop _ es))
theorem pe_lc (S:BlkScope sc N own cn ci scope)(hsc:X.env.scope=sc)(hN:X.N=N)(hc:X.calm=true)(hi:PI X tg iter wi)
  (hg:∀fp C s H,PG (blk X (own++cn) scope C s H fp) tg g) (ht:∀fp C s H,PTs (blk X (own++cn) scope C s H fp) ifs tt) (he:∀fp C s H,PE (blk X (own++cn) scope C s H fp) elt te)
  (hs:∀x,foldedSetIterable iter X.env x=pure x:=by intro _;rfl):PE X (.ListComp elt [⟨tg,iter,ifs,0⟩] scope pos) (tLC own ci wi g tt te):=by
 intro pins s σ H Q I h
 rw[eval_ListComp]
 refine wpAny_comprehension_free (use:=none) rfl hs (closure_eq (blk_cells S hsc I)) S.kind S.names (thn (hi pins s σ H _ I h) fun xv s1 h1=>thn h1 fun itv s2 h2=>?_)
 obtain⟨it,fp,tn,J,H2,e,I2,T,st2,f2,q⟩:=h2
 subst e
 refine lc_block (RR:=fun acc C=>compPost (model X.prog X.w) X.A X.xe none (EP X pins σ Q) acc C) S hsc hN hc I2 T st2 f2 (hg fp) (ht fp) (he fp) q ?_
 intro D C H' s' I' q' ⟨m,hn⟩ fC
 exact⟨m,hn,fun h' hs'=>⟨.ref D,H',I'.turned (t':=s'.toks) (fun b o hb e=>(hs'.2 b hb).trans e) fC.1 (Ne.symm (Ne.symm fC.2.1)) fC.2.2.2.1 fC.2.2.2.2.1 fC.2.2.2.2.2,rfl,q'⟩⟩
def tSetLC (i:Nat)(t:TE):TS:=fun D σ H=>t σ H fun v H1=>D.nx (σ.set i (some v)) H1
theorem ps_setlc {i:Nat}{y:Str}{py spos:Pos}(S:BlkScope sc N own cn ci scope)(hsc:X.env.scope=sc)(hN:X.N=N)(hc:X.calm=true)(hi:PI X tg iter wi)
  (hg:∀fp C s H,PG (blk X (own++cn) scope C s H fp) tg g) (ht:∀fp C s H,PTs (blk X (own++cn) scope C s H fp) ifs tt) (he:∀fp C s H,PE (blk X (own++cn) scope C s H fp) elt te)
  (hnd:X.N.Nodup) (hiy:X.N[i]?=some y) (hy:X.env.scope.names.lookup y=some .local)
  (hsw:swapsWith (.ListComp elt [⟨tg,iter,ifs,0⟩] scope pos) (some (.Name y py)) spos.line X.env=pure true)
  (hs:∀x,foldedSetIterable iter X.env x=pure x:=by intro _;rfl):PS X (.Assign [.Name y py] (.ListComp elt [⟨tg,iter,ifs,0⟩] scope pos) spos) (tSetLC i (tLC own ci wi g tt te)):=by
 intro pins s σ H D I h
 rw[exec_Assign_Name_used _ _ _ _ hsw]
 refine wpAny_bind (wpAny_standAt (wpAny_bind ?_))
 show wpAny _ X.A (do let _ ← comprehension (.ListComp elt [⟨tg,iter,ifs,0⟩] scope pos) scope X.env _ (newList []) false (eval iter X.env) (some (assign (.Name y py) X.env))) _ _ s
 refine wpAny_bind (wpAny_mono (wpAny_comprehension_free (use:=some (assign (.Name y py) X.env)) (Q:=fun _ s'=>SP X pins D .next s') rfl hs (closure_eq (blk_cells S hsc I)) S.kind S.names
  (thn (hi pins s σ H _ I h) fun xv s1 h1=>thn h1 fun itv s2 h2=>?_)) (fun _ s' hq=>wpAny_pure (wpAny_pure hq)) fun _ _ e=>e)
 obtain⟨it,fp,tn,J,H2,e,I2,T,st2,f2,q⟩:=h2
 subst e
 refine lc_block (RR:=fun acc C=>compPost (model X.prog X.w) X.A X.xe (some (assign (.Name y py) X.env)) (fun _ s'=>SP X pins D .next s') acc C) (Q:=fun v H1=>D.nx (σ.set i (some v)) H1) S hsc hN hc I2 T st2 f2 (hg fp) (ht fp) (he fp) q ?_
 intro D' C H' s' I' q' ⟨m,hn⟩ fC
 refine wpAny_assign_Name (store_ok2 (v:=.ref D') I' hnd hiy (.inl hy) rfl (fun s'' I'' ⟨a,hsb,ha⟩=>?_) (.inr hy))
 have hCa:C≠a:=by
  rcases ha with ha|ha
  ·rw[ha];exact fC.2.1
  ·exact Ne.symm (fC.2.2.2.2.1 _ _ ha)
 exact⟨m,hn.sameBut hsb hCa,fun h' hs'=>⟨_,H',I''.turned (t':=s''.toks) (fun b o hb e=>(hs'.2 b hb).trans e) fC.1 fC.2.1 fC.2.2.2.1 fC.2.2.2.2.1 fC.2.2.2.2.2,q'⟩⟩
end
theorem lc_range {lo:Int}{n:Nat}{caps:St}{tt:TT}{te:TE}{D:Addr}{Q:Hp->Prop}{H1:Hp}(Pv:Nat->List V->Hp->Prop)(hz:n<=sizeLine)(h0:Pv 0 [] (upd H1 D (.lst [])))(hl:∀i ys H,Pv i ys H->ys.length<=i)
  (hs:∀i ys H (N:VK) (M:Hp->Prop),i<n->Pv i ys H->(∀y H4,H4 D=some (.lst ys)->Pv (i+1) (ys++[y]) (upd H4 D (.lst (ys++[y])))->N y H4)->(∀H3,Pv (i+1) ys H3->M H3)→
   tt (some (.int (lo+i))::caps) H fun ok H3=>if ok=true then te (some (.int (lo+i))::caps) H3 N else M H3)
  (hd:∀ys H,Pv n ys H->Q H):∃W:Nat->Nat->St->Hp->Prop,(∃m,W 0 m (none::caps) (upd H1 D (.lst [])))/\LcW (Itr lo n) (gName 0) tt te D Q W:=by
 refine⟨fun i m σ H=>m=n-i/\i<=n/\(∃v,σ=v::caps)/\∃ys,Pv i ys H,⟨n,by simp,Nat.zero_le _,⟨none,rfl⟩,[],h0⟩,?_⟩
 rintro i m σ H ⟨rfl,hi,⟨v,rfl⟩,ys,p⟩
 have hy:=hl i ys H p
 by_cases hlt:i<n
 ·refine .inr ⟨hlt,fun x H1 y=>?_⟩
  obtain⟨e,y⟩:=y
  subst e y
  refine hs i ys _ _ _ hlt p (fun y H4 a c=>⟨ys,a,by omega,n-(i+1),by omega,rfl,hlt,⟨_,rfl⟩,_,c⟩) (fun H3 c=>⟨n-(i+1),by omega,rfl,hlt,⟨_,rfl⟩,ys,c⟩)
 ·have e:i=n:=by omega
  subst e
  exact .inl ⟨Nat.le_refl _,hd ys H p⟩
theorem lc_list {K:W.Frag}{a:Addr}{xs:List V}{caps:St}{tt:TT}{te:TE}{D:Addr}{Q:Hp->Prop}{H1:Hp}(Pv:Nat->List V->Hp->Prop)(hz:xs.length<=sizeLine)(h0:Pv 0 [] (upd H1 D (.lst [])))(hl:∀i ys H,Pv i ys H->ys.length<=i)(hq:∀i ys H,Pv i ys H->SqL K H a xs)
  (hs:∀i ys H (x:V) (N:VK) (M:Hp->Prop),xs[i]?=some x->Pv i ys H->(∀y H4,H4 D=some (.lst ys)->Pv (i+1) (ys++[y]) (upd H4 D (.lst (ys++[y])))->N y H4)->(∀H3,Pv (i+1) ys H3->M H3)→
   tt (some x::caps) H fun ok H3=>if ok=true then te (some x::caps) H3 N else M H3)
  (hd:∀ys H,Pv xs.length ys H->Q H):∃W:Nat->Nat->St->Hp->Prop,(∃m,W 0 m (none::caps) (upd H1 D (.lst [])))/\LcW (Itl K a) (gName 0) tt te D Q W:=by
 refine⟨fun i m σ H=>m=xs.length-i/\i<=xs.length/\(∃v,σ=v::caps)/\∃ys,Pv i ys H,⟨xs.length,by simp,Nat.zero_le _,⟨none,rfl⟩,[],h0⟩,?_⟩
 rintro i m σ H ⟨rfl,hi,⟨v,rfl⟩,ys,p⟩
 have hy:=hl i ys H p
 by_cases hlt:i<xs.length
 ·refine .inr ⟨⟨xs,xs[i],hq i ys H p,by simp[hlt]⟩,fun x H1 y=>?_⟩
  obtain⟨e,y⟩:=y
  subst e
  have hx:=y xs (hq i ys _ p)
  refine hs i ys _ x _ _ hx p (fun y H4 a c=>⟨ys,a,by omega,xs.length-(i+1),by omega,rfl,hlt,⟨_,rfl⟩,_,c⟩) (fun H3 c=>⟨xs.length-(i+1),by omega,rfl,hlt,⟨_,rfl⟩,ys,c⟩)
 ·have e:i=xs.length:=by omega
  subst e
  exact .inl ⟨⟨xs,hq _ ys H p,Nat.le_refl _⟩,hd ys H p⟩
theorem lc_tup {K:W.Frag}{a:Addr}{xs:List V}{caps:St}{tt:TT}{te:TE}{D:Addr}{Q:Hp->Prop}{H1:Hp}(Pv:Nat->List V->Hp->Prop)(hz:xs.length<=sizeLine)(h0:Pv 0 [] (upd H1 D (.lst [])))(hl:∀i ys H,Pv i ys H->ys.length<=i)(hq:∀i ys H,Pv i ys H->SqT K H a xs)
  (hs:∀i ys H (x:V) (N:VK) (M:Hp->Prop),xs[i]?=some x->Pv i ys H->(∀y H4,H4 D=some (.lst ys)->Pv (i+1) (ys++[y]) (upd H4 D (.lst (ys++[y])))->N y H4)->(∀H3,Pv (i+1) ys H3->M H3)→
   tt (some x::caps) H fun ok H3=>if ok=true then te (some x::caps) H3 N else M H3)
  (hd:∀ys H,Pv xs.length ys H->Q H):∃W:Nat->Nat->St->Hp->Prop,(∃m,W 0 m (none::caps) (upd H1 D (.lst [])))/\LcW (Itt K a) (gName 0) tt te D Q W:=by
 refine⟨fun i m σ H=>m=xs.length-i/\i<=xs.length/\(∃v,σ=v::caps)/\∃ys,Pv i ys H,⟨xs.length,by simp,Nat.zero_le _,⟨none,rfl⟩,[],h0⟩,?_⟩
 rintro i m σ H ⟨rfl,hi,⟨v,rfl⟩,ys,p⟩
 have hy:=hl i ys H p
 by_cases hlt:i<xs.length
 ·refine .inr ⟨⟨xs,xs[i],hq i ys H p,by simp[hlt]⟩,fun x H1 y=>?_⟩
  obtain⟨e,y⟩:=y
  subst e
  have hx:=y xs (hq i ys _ p)
  refine hs i ys _ x _ _ hx p (fun y H4 a c=>⟨ys,a,by omega,xs.length-(i+1),by omega,rfl,hlt,⟨_,rfl⟩,_,c⟩) (fun H3 c=>⟨xs.length-(i+1),by omega,rfl,hlt,⟨_,rfl⟩,ys,c⟩)
 ·have e:i=xs.length:=by omega
  subst e
  exact .inl ⟨⟨xs,hq _ ys H p,Nat.le_refl _⟩,hd ys H p⟩
end L2
namespace L2
open PySem PySem.Spec PyProof.Rows
section
variable {X:Cx}
theorem call_isinst:CallR X (.builtin "isinstance") (fun xs H Q=>∃x n t b,xs=[x,.ty n]/\TyOf X.K H x t/\W.kitOne X.K t (.type n)=some b/\Q (.bl b) H):=by
 intro pins s σ H xs us Q I r h
 obtain⟨x,n,t,b,rfl,ty,e,q⟩:=h
 obtain⟨u,v,rfl,rx,ry⟩:=r.two
 cases(show v=Value.type n from ry)
 exact isinst_ok I rx ty e fun tk=>⟨.bl b,H,I.tok tk,rfl,q⟩
theorem atI_int {xs:List V}{i:Int}{v:V}(h0:0<=i)(h:xs[i.toNat]?=some v):atI xs i=some v:=by
 have e:i=((i.toNat:Nat):Int):=by omega
 rw[e]
 exact atI_nat h
theorem Same.upd_free {H H':Hp}{a:Addr}{o:HO}(s:Same H H')(n:H a=none):Same H (upd H' a o):=fun b u e=>by
 rw[upd_ne (ne_of_none e n)]
 exact s b u e
def tCut (t:TS):TS:=fun D σ H=>∃M:St->Hp->Prop,t { D with nx:=M } σ H/\∀σ' H',M σ' H'->D.nx σ' H'
theorem ps_cut {st:Stmt}{t:TS}(h:PS X st t):PS X st (tCut t):=by
 intro pins s σ H D I ⟨M,h1,h2⟩
 refine thn (h pins s σ H _ I h1) fun f s' q=>?_
 cases f with
 |next=>
  obtain⟨σ',H',I',m⟩:=q
  exact⟨σ',H',I',h2 _ _ m⟩
 |brk=>exact q
 |cont=>exact q
 |ret u=>exact q
theorem small9 {n:Nat}(h:n<=100000):n<sizeLine:=Nat.lt_of_le_of_lt h (by decide)
end
end L2
namespace L2
open PySem PySem.Spec PyProof.Rows
mutual
inductive DAt (K:W.Frag) (H:Hp):V->PyData->Prop
 |non:DAt K H .non .none
 |bl (b:Bool):DAt K H (.bl b) (.bool b)
 |int (i:Int):DAt K H (.int i) (.int i)
 |str (x:Str):DAt K H (.str x) (.str x)
 |lst {a:Addr} {xs:List V} {ds:List PyData}:SqL K H a xs->DsAt K H xs ds->DAt K H (.ref a) (.list ds)
 |tup {a:Addr} {xs:List V} {ds:List PyData}:SqT K H a xs->DsAt K H xs ds->DAt K H (.ref a) (.tuple ds)
inductive DsAt (K:W.Frag) (H:Hp):List V->List PyData->Prop
 |nil:DsAt K H [] []
 |cons {x:V} {d:PyData} {xs:List V} {ds:List PyData}:DAt K H x d->DsAt K H xs ds->DsAt K H (x::xs) (d::ds)
end
section
variable {X:Cx} {pins:List (Addr×Obj)} {σ:St} {H:Hp} {s:Shared}
mutual
theorem DAt.reads (I:Inv X pins σ H s):∀{x:V} {d:PyData} {u:Value},DAt X.K H x d->RelV x u->∃as,Reads s.heap u d as
 |_,_,_,.non,r=>by
  cases r
  exact⟨_,.none⟩
 |_,_,_,.bl b,r=>by
  cases r
  exact⟨_,.bool b⟩
 |_,_,_,.int i,r=>by
  obtain⟨t,rfl⟩:=r
  exact⟨_,.int i t⟩
 |_,_,_,.str x,r=>by
  obtain⟨t,rfl⟩:=r
  exact⟨_,.str x t⟩
 |_,_,_,.lst hq ds,r=>by
  cases r
  obtain⟨its,rv,p,_⟩:=I.list hq
  obtain⟨as,ra⟩:=DsAt.reads I ds rv
  obtain⟨o,h1,h2,n,h3⟩:=p.isList
  exact⟨_,.list h1 h2 h3 (by simpa using ra)⟩
 |_,_,_,.tup hq ds,r=>by
  cases r
  obtain⟨its,rv,p,_⟩:=I.tuple hq
  obtain⟨as,ra⟩:=DsAt.reads I ds rv
  obtain⟨o,h1,h2,n,h3⟩:=p
  exact⟨_,.tuple h1 h2 h3 (by simpa using ra)⟩
theorem DsAt.reads (I:Inv X pins σ H s):∀{xs:List V} {ds:List PyData} {us:List Value},DsAt X.K H xs ds->Vals xs us->∃as,ReadsAll s.heap us ds as
 |_,_,_,.nil,r=>by
  cases r
  exact⟨_,.nil⟩
 |_,_,_,.cons d ds,r=>by
  cases r with
  |cons r rs=>
   obtain⟨as,ra⟩:=DAt.reads I d r
   obtain⟨bs,rb⟩:=DsAt.reads I ds rs
   exact⟨_,.cons ra rb⟩
end
def DOk (d:PyData):Prop:=d.canLay0=true/\d.depth<=40
def rEqD (K:PySem.W.Frag)(neg:Bool):R2:=fun x y H Q=>∃dx dy,DAt K H x dx/\DAt K H y dy/\DOk dx/\DOk dy/\Q (.bl (if neg then !PyData.eqv dx dy else PyData.eqv dx dy)) H
theorem op_eqD (hu:X.A.units+64<cLine):OpR X (compareOp .Eq) (rEqD X.K false):=by
 intro pins s σ H x y v u Q I rx ry h
 obtain⟨dx,dy,ax,ay,okx,oky,q⟩:=h
 obtain⟨as,r1⟩:=ax.reads I rx
 obtain⟨bs,r2⟩:=ay.reads I ry
 refine SeqAt.compareEq_reads r1 r2 okx.1 oky.1 ?_ (fin_bl I q rfl)
 have h1:=okx.2
 have h2:min dx.depth dy.depth<=dx.depth:=Nat.min_le_left _ _
 omega
theorem op_neD (hu:X.A.units+64<cLine):OpR X (compareOp .NotEq) (rEqD X.K true):=by
 intro pins s σ H x y v u Q I rx ry h
 obtain⟨dx,dy,ax,ay,okx,oky,q⟩:=h
 obtain⟨as,r1⟩:=ax.reads I rx
 obtain⟨bs,r2⟩:=ay.reads I ry
 refine SeqAt.compareNe_reads r1 r2 okx.1 oky.1 ?_ (fin_bl I q rfl)
 have h1:=okx.2
 have h2:min dx.depth dy.depth<=dx.depth:=Nat.min_le_left _ _
 omega
def rInD (K:PySem.W.Frag)(neg:Bool):R2:=fun x y H Q=>∃p xs dx ds,y=.ref p/\(SqL K H p xs\/SqT K H p xs)/\DsAt K H xs ds/\DAt K H x dx/\DOk dx/\PyData.canLayAll0 ds=true∧
 Q (.bl (if neg then !(ds.any fun d=>PyData.eqv d dx) else ds.any fun d=>PyData.eqv d dx)) H
theorem in_room {a b c:Nat}(hu:a+64<c)(h:b<=40)(k:Nat):a+1+min k b<c:=by
 have h2:min k b<=b:=Nat.min_le_right _ _
 omega
theorem op_inD (hu:X.A.units+64<cLine):OpR X (compareOp .In) (rInD X.K false):=by
 intro pins s σ H x y v u Q I rx ry h
 obtain⟨p,xs,dx,ds,rfl,hp,ad,ax,okx,okd,q⟩:=h
 obtain⟨bs,r2⟩:=ax.reads I rx
 rcases hp with hp|hp
 ·obtain⟨as,r1⟩:=(DAt.lst hp ad).reads I ry
  exact SeqAt.in_list_reads r1 r2 okd okx.1 (in_room hu okx.2 _) (fin_bl I q rfl)
 ·obtain⟨as,r1⟩:=(DAt.tup hp ad).reads I ry
  exact SeqAt.in_tuple_reads r1 r2 okd okx.1 (in_room hu okx.2 _) (fin_bl I q rfl)
def rCat0 (K:PySem.W.Frag):R2:=fun x y H Q=>∃a b ys,x=.ref a/\y=.ref b/\SqT K H a []/\SqT K H b ys/\Q (.ref b) H
theorem op_cat0:OpR X (binaryOp .Add) (rCat0 X.K):=by
 intro pins s σ H x y v u Q I rx ry h
 obtain⟨a,b,ys,rfl,rfl,ha,hb,q⟩:=h
 cases rx
 cases ry
 obtain⟨us,ru,pu,_⟩:=I.tuple ha
 obtain⟨ws,rw',pw,_⟩:=I.tuple hb
 cases ru
 obtain⟨⟨cls,dd,data,sl⟩,ho,hc,n,hd⟩:=id pu
 obtain⟨⟨cls2,dd2,data2,sl2⟩,ho2,hc2,n2,hd2⟩:=id pw
 simp only at hc hd hc2 hd2
 subst hc hd hc2 hd2
 have st:=tuple_addW0 a b ([]:List Value).toArray ws.toArray n n2 dd dd2 sl sl2 (by simp)
 exact concat_meets ⟨_,ho,rfl⟩ ⟨_,ho2,rfl⟩ noFill_tuple_add seq_tuple_add PySem.F.slot_tuple_add PySem.F.entry_tuple_add (PySem.F.args_tuple_add_2 _ _) st ⟨ho,ho2,⟨.ref b,H,I,rfl,q⟩⟩
def rCatN (K:PySem.W.Frag):R2:=fun x y H Q=>∃a b xs ys,x=.ref a/\y=.ref b/\SqT K H a xs/\H b=some (.tup ys)/\ys≠[]/\xs.length+ys.length<=sizeLine/\∀p H',Same H H'->H' p=some (.tup (xs++ys))->Q (.ref p) H'
theorem op_catN:OpR X (binaryOp .Add) (rCatN X.K):=by
 intro pins s σ H x y v u Q I rx ry h
 obtain⟨a,b,xs,ys,rfl,rfl,ha,hb,hy,hz,q⟩:=h
 by_cases hx:xs=[]
 ·subst hx
  exact op_cat0 pins s σ H _ _ v u Q I rx ry ⟨a,b,ys,rfl,rfl,ha,SqT.of hb,q b H (Same.refl H) hb⟩
 ·exact op_catT pins s σ H _ _ v u Q I rx ry ⟨a,b,xs,ys,rfl,rfl,ha,SqT.of hb,hx,hz,fun z=>absurd z hy,fun _ p hp=>q p _ ((Same.refl H).upd_free hp) upd_same⟩
def TSame (H H':Hp):Prop:=∀b xs,H b=some (.tup xs)->H' b=some (.tup xs)
theorem Same.tups {H H':Hp}(s:Same H H'):TSame H H':=fun b xs e=>s b _ e
theorem TSame.upd_lst {H H':Hp}{a:Addr}{ys:List V}{o:HO}(s:TSame H H')(h:H' a=some (.lst ys)):TSame H (upd H' a o):=fun b xs e=>by
 have q:=s b xs e
 rw[upd_ne (ne_of q h (by intro z;cases z))]
 exact q
end
end L2
namespace L2
open PySem PySem.Spec PyProof.Rows
section
variable {X:Cx}
def rCat1 (K:W.Frag):R2:=fun x y H Q=>∃a b xs ys,x=.ref a/\y=.ref b/\H a=some (.tup xs)/\SqT K H b ys/\xs≠[]/\xs.length+ys.length<=sizeLine/\∀p H',Same H H'->H' p=some (.tup (xs++ys))->Q (.ref p) H'
theorem op_cat1:OpR X (binaryOp .Add) (rCat1 X.K):=by
 intro pins s σ H x y v u Q I rx ry h
 obtain⟨a,b,xs,ys,rfl,rfl,ha,hb,hx,hz,q⟩:=h
 exact op_catT pins s σ H _ _ v u Q I rx ry ⟨a,b,xs,ys,rfl,rfl,SqT.of ha,hb,hx,hz,fun z=>q a H (Same.refl H) (by subst z;rw[List.append_nil];exact ha),fun _ p hp=>q p _ ((Same.refl H).upd_free hp) upd_same⟩
theorem vals_of_ints:∀{us:List Value} {ns:List Int},IntsAre us ns->Vals (ns.map V.int) us
 |_,_,.nil=>.nil
 |_,_,.cons i t r=>.cons ⟨t,rfl⟩ (vals_of_ints r)
end
end L2
namespace L2
open PySem PySem.Spec PyProof.Rows
theorem below_go (xs:Array Nat)(j:Nat)(hr:xs.toList.Pairwise (· < ·)):∀(fuel lo hi:Nat),lo<=hi->hi<=xs.size->hi-lo<=fuel->(∀i x,i<lo->xs[i]?=some x->x<j)->(∀i x,hi<=i->xs[i]?=some x->j<=x)→
  SetTable.below.go xs j fuel lo hi<=xs.size/\(∀i x,i<SetTable.below.go xs j fuel lo hi->xs[i]?=some x->x<j)/\∀i x,SetTable.below.go xs j fuel lo hi<=i->xs[i]?=some x->j<=x:=by
 have up:∀{i k x y:Nat},i<=k->xs[i]?=some x->xs[k]?=some y->x<=y:=fun {i k x y} h hx hy=>by
  by_cases e:i=k
  ·subst e
   rw[hx] at hy
   cases hy
   exact Nat.le_refl _
  ·obtain⟨h1,g1⟩:=Array.getElem?_eq_some_iff.mp hx
   obtain⟨h2,g2⟩:=Array.getElem?_eq_some_iff.mp hy
   have:=List.pairwise_iff_getElem.mp hr i k (by simpa using h1) (by simpa using h2) (by omega)
   rw[Array.getElem_toList,Array.getElem_toList,g1,g2] at this
   exact Nat.le_of_lt this
 intro fuel
 induction fuel with
 |zero=>
  intro lo hi h1 h2 h3 ha hb
  have:hi=lo:=by omega
  subst this
  unfold SetTable.below.go
  exact⟨h2,ha,hb⟩
 |succ fuel ih=>
  intro lo hi h1 h2 h3 ha hb
  unfold SetTable.below.go
  by_cases hl:lo<hi
  ·rw[if_pos hl]
   dsimp only
   have hm:(lo+hi) / 2<xs.size:=by omega
   obtain⟨x,hx⟩:∃x,xs[(lo+hi) / 2]?=some x:=⟨xs[(lo+hi) / 2],by simp[hm]⟩
   have eg:xs.getD ((lo+hi) / 2) j=x:=by simp[Array.getD_eq_getD_getElem?,hx]
   rw[eg]
   by_cases hc:x<j
   ·rw[if_pos hc]
    refine ih _ _ (by omega) h2 (by omega) (fun i y hi' hy=>?_) hb
    exact Nat.lt_of_le_of_lt (up (by omega) hy hx) hc
   ·rw[if_neg hc]
    refine ih _ _ (by omega) (by omega) (by omega) ha fun i y hi' hy=>?_
    exact Nat.le_trans (Nat.le_of_not_lt hc) (up hi' hx hy)
  ·rw[if_neg hl]
   have:hi=lo:=by omega
   subst this
   exact⟨h2,ha,hb⟩
theorem below_ok (xs:Array Nat)(j:Nat)(hr:xs.toList.Pairwise (· < ·)):SetTable.below xs j<=xs.size/\(∀i x,i<SetTable.below xs j->xs[i]?=some x->x<j)/\∀i x,SetTable.below xs j<=i->xs[i]?=some x->j<=x:=
 below_go xs j hr xs.size 0 xs.size (Nat.zero_le _) (Nat.le_refl _) (by omega) (fun i x h=>by omega) (fun i x h e=>by
  have:=(Array.getElem?_eq_some_iff.mp e).1
  omega)
theorem put_rise {xs:Array Nat}{j:Nat}(hr:xs.toList.Pairwise (· < ·))(hn:xs[SetTable.below xs j]?≠some j):(SetTable.insertAt xs (SetTable.below xs j) j).toList.Pairwise (· < ·):=by
 obtain⟨h1,h2,h3⟩:=below_ok xs j hr
 rw[SetTable.toList_insertAt]
 generalize hp:SetTable.below xs j=p at *
 rw[List.pairwise_append,List.pairwise_cons]
 refine⟨hr.sublist (List.take_sublist _ _),⟨fun y hy=>?_,hr.sublist (List.drop_sublist _ _)⟩,fun x hx y hy=>?_⟩
 ·obtain⟨i,hi⟩:=List.getElem?_of_mem hy
  rw[List.getElem?_drop,Array.getElem?_toList] at hi
  have hle:=h3 _ _ (Nat.le_add_right p i) hi
  by_cases e:j=y
  ·subst e
   exfalso
   have hps:p<xs.size:=by
    have:=(Array.getElem?_eq_some_iff.mp hi).1
    omega
   obtain⟨z,hz⟩:∃z,xs[p]?=some z:=⟨xs[p],by simp[hps]⟩
   have hz1:=h3 p z (Nat.le_refl _) hz
   by_cases e0:i=0
   ·subst e0
    exact hn hi
   ·obtain⟨g1,k1⟩:=Array.getElem?_eq_some_iff.mp hz
    obtain⟨g2,k2⟩:=Array.getElem?_eq_some_iff.mp hi
    have:=List.pairwise_iff_getElem.mp hr p (p+i) (by simpa using g1) (by simpa using g2) (by omega)
    rw[Array.getElem_toList,Array.getElem_toList,k1,k2] at this
    omega
  ·omega
 ·obtain⟨i,hi⟩:=List.getElem?_of_mem hx
  have hil:=(List.getElem?_eq_some_iff.mp hi).1
  rw[List.length_take] at hil
  rw[List.getElem?_take_of_lt (by omega),Array.getElem?_toList] at hi
  have hlt:=h2 i x (by omega) hi
  rcases List.mem_cons.mp hy with e|hy
  ·subst e
   exact hlt
  ·obtain⟨k,hk⟩:=List.getElem?_of_mem hy
   rw[List.getElem?_drop,Array.getElem?_toList] at hk
   have:=h3 _ _ (Nat.le_add_right p k) hk
   omega
structure Rise (t:SetTable):Prop where
 pl:t.place.toList.Pairwise (· < ·)
 du:t.dummies=#[]
theorem has_nil (j:Nat):SetTable.has #[] j=false:=by
 unfold SetTable.has
 simp
theorem slot_free {t:SetTable}(h:t.dummies=#[])(j:Nat):(t.slot j=.empty/\t.place[SetTable.below t.place j]?≠some j)\/∃i,t.slot j=.live i:=by
 unfold SetTable.slot
 dsimp only
 by_cases e:t.place[SetTable.below t.place j]?=some j
 ·rw[if_pos (by rw[e];simp)]
  exact .inr ⟨_,rfl⟩
 ·rw[if_neg (by simpa using e),h,has_nil]
  exact .inl ⟨rfl,e⟩
theorem probe_free {t:SetTable}(h:t.dummies=#[]){f:Nat->Int}{x:Int}(hf:∀i,(f i==x)=false):∀(fuel:Nat) (p:SetTable.Probe) (j:Nat) (d:Option Nat),p.dummy=none->SetTable.probe.go t f x fuel p=some (.empty j d)->d=none/\t.place[SetTable.below t.place j]?≠some j
 |0,p,j,d,_,e=>by simp[SetTable.probe.go] at e
 |fuel+1,p,j,d,hd,e=>by
  rw[SetTable.probe.go] at e
  rcases slot_free h p.j with⟨e1,e2⟩|⟨i,e1⟩
  ·rw[e1] at e
   dsimp only at e
   cases e
   exact⟨hd,e2⟩
  ·rw[e1] at e
   dsimp only at e
   rw[hf i] at e
   simp only[Bool.false_eq_true,if_false] at e
   refine probe_free h hf fuel _ j d ?_ e
   unfold SetTable.advance
   split
   ·exact hd
   ·exact hd
theorem freeSlot_ok {t:SetTable}(h:t.dummies=#[]){x:Int}{j:Nat}{d:Bool}(e:t.freeSlot x=some (j,d)):t.place[SetTable.below t.place j]?≠some j:=by
 unfold SetTable.freeSlot at e
 split at e
 ·rename_i j' dm hp
  obtain⟨e1,e2⟩:=probe_free h (f:=fun _=>x+1) (x:=x) (fun i=>by rw[beq_eq_false_iff_ne];omega) _ _ _ _ rfl hp
  subst e1
  cases e
  exact e2
 ·cases e
theorem standIn_rise (t:SetTable)(n:Nat):Rise (t.standIn n):=by
 refine⟨?_,rfl⟩
 show(Array.range n).toList.Pairwise (· < ·)
 rw[Array.toList_range]
 exact List.pairwise_lt_range
theorem layNew_rise {t:SetTable}{es:Array (Int×Value)}{h:Int}{x:Value}(R:Rise t):Rise (layNew t es h x).2.1/\(layNew t es h x).2.1.led=t.led:=by
 unfold layNew
 split
 ·rename_i slot wd hf
  have hn:=freeSlot_ok R.du hf
  dsimp only
  unfold SetTable.orStandIn
  split
  ·refine⟨⟨put_rise R.pl hn,?_⟩,rfl⟩
   show(if SetTable.has t.dummies slot=true then _ else t.dummies)=#[]
   rw[R.du,has_nil]
   rfl
  ·exact⟨standIn_rise _ _,rfl⟩
 ·exact⟨standIn_rise _ _,rfl⟩
theorem laid_rise {mask fi mo:Nat}{led plain:Bool}{hs:Array Int}{t:SetTable}{o:Array Nat}(e:SetTable.laid mask fi mo led plain hs=some (t,o)):Rise t/\t.led=led:=by
 unfold SetTable.laid at e
 cases ho:SetTable.layClean mask hs with
 |none=>rw[ho] at e;cases e
 |some owner=>
  rw[ho] at e
  cases e
  refine⟨⟨?_,rfl⟩,rfl⟩
  show((((List.range (mask+1)).filterMap fun j=>(owner.getD j none).map (j,·)).map (·.1)).toArray).toList.Pairwise (· < ·)
  rw[List.map_filterMap]
  have q:∀l:List Nat,List.Sublist (l.filterMap fun j=>((owner.getD j none).map (j,·)).map (·.1)) l:=fun l=>by
   induction l with
   |nil=>exact .slnil
   |cons a l ih=>
    rw[List.filterMap_cons]
    cases hz:owner.getD a none with
    |none=>exact ih.cons a
    |some v=>exact ih.cons_cons a
  exact List.pairwise_lt_range.sublist (q _)
theorem relayAll_rise {t:SetTable}{es:Array (Int×Value)}{n:Nat}:Rise (relayAll t es n).2.1/\(relayAll t es n).2.1.led=t.led:=by
 unfold relayAll
 split
 ·rename_i t' o hr
  obtain⟨r1,r2⟩:=laid_rise hr
  dsimp only
  split
  ·exact⟨r1,r2⟩
  ·exact⟨standIn_rise _ _,rfl⟩
 ·exact⟨standIn_rise _ _,rfl⟩
end L2
namespace L2
open PySem PySem.Spec PyProof.Rows
def kvI (e:Int×Value):Int:=match e.2 with | .int k _=>k|_=>0
section
variable {prog:Program} {w:World}
theorem intIs {k:Int}{v:Value}(h:(intKind prog w).is k v=true):∃t,v=.int k t:=by
 cases v with
 |int i t=>
  refine⟨t,?_⟩
  have:i=k:=by simpa [intKind,Value.isInt] using h
  rw[this]
 |_=>simp[intKind,Value.isInt] at h
def SR (prog:Program)(w:World)(h:Heap)(a:Addr)(σ:List Int)(led:Bool):Prop:=
 ∃o es ep t,h.get? a=some o/\o.ExactSet/\o.data=.set es ep t/\ElemsOf (intKind prog w) es.toList/\(es.toList.map kvI).Perm σ/\es.size<scanBound/\t.fits es.size=true/\Rise t/\t.led=led
theorem elem_kv {es:List (Int×Value)}(h:ElemsOf (intKind prog w) es)(k:Int):k∈es.map kvI↔∃e∈es,(intKind prog w).is k e.2=true:=by
 rw[List.mem_map]
 constructor
 ·rintro⟨e,he,rfl⟩
  obtain⟨⟨k',hk,_⟩,_⟩:=h e he
  obtain⟨t,ht⟩:=intIs hk
  refine⟨e,he,?_⟩
  have:kvI e=k':=by unfold kvI;rw[ht]
  rw[this]
  exact hk
 ·rintro⟨e,he,hk⟩
  obtain⟨t,ht⟩:=intIs hk
  exact⟨e,he,by unfold kvI;rw[ht]⟩
theorem SR.keep {h h':Heap}{a:Addr}{σ:List Int}{led:Bool}(S:SR prog w h a σ led)(k:∀o,h.get? a=some o->h'.get? a=some o):SR prog w h' a σ led:=by
 obtain⟨o,es,ep,t,ho,r⟩:=S
 exact⟨o,es,ep,t,k o ho,r⟩
theorem SR.len {h:Heap}{a:Addr}{σ:List Int}{led:Bool}(S:SR prog w h a σ led):σ.length<scanBound:=by
 obtain⟨o,es,ep,t,ho,hex,hd,hel,hp,hb,_⟩:=S
 rw[<- hp.length_eq,List.length_map,Array.length_toList]
 exact hb
variable {A:Around} {E:Value->Shared->Prop} {s:Shared}
theorem SR_store {h:Heap}{a:Addr}{o:Obj}{es:Array (Int×Value)}{ep:Nat}{t:SetTable}(ho:h.get? a=some o)(hex:o.ExactSet)(hd:o.data=.set es ep t)
  {es':Array (Int×Value)} {t':SetTable} {σ:List Int} {led:Bool} (hel:ElemsOf (intKind prog w) es'.toList) (hp:(es'.toList.map kvI).Perm σ) (hb:es'.size<scanBound) (hf:t'.fits es'.size=true) (R:Rise t') (hl:t'.led=led):
  (h.update a (Obj.putSet es' t')).get? a=some { o with data:=.set es' (ep+1) t' }/\SR prog w (h.update a (Obj.putSet es' t')) a σ led:=by
 have hg:(h.update a (Obj.putSet es' t')).get? a=some { o with data:=.set es' (ep+1) t' }:=by
  have:=Heap.get?_update_self (Obj.putSet es' t') ho (by rw[putSet_of es' t' hd];rfl)
  rw[putSet_of es' t' hd] at this
  exact this
 exact⟨hg,_,es',ep+1,t',hg,hex,rfl,hel,hp,hb,hf,R,hl⟩
theorem sr_tail {g:Bool->Sem Unit}(hg:∀(b:Bool) (s₁:Shared) (Q':Unit->Shared->Prop),Q' () s₁->wpAny (model prog w) A (g b) Q' E s₁)
  {a:Addr} {o:Obj} {es:Array (Int×Value)} {ep:Nat} {t:SetTable} (ho:s.heap.get? a=some o) (hex:o.ExactSet) (hd:o.data=.set es ep t)
  {es1:Array (Int×Value)} {t2:SetTable} {σ:List Int} {led:Bool} (hel1:ElemsOf (intKind prog w) es1.toList) (hp1:(es1.toList.map kvI).Perm σ)
  (hb1:es1.size<scanBound) (hf2:t2.fits es1.size=true) (R2:Rise t2) (hl2:t2.led=led) {wasDummy:Bool} {R:Option Bool->Shared->Prop}
  (h:∀h',Heap.SameBut a s.heap h'->SR prog w h' a σ led->R (some true) { s with heap:=h' }):
  wpAny (model prog w) A (do
    storeSet a es1 t2
    if (!wasDummy&&t2.tooFull)=true then do
      g (relayAll t2 es1 (SetTable.grown es1.size)).2.2
      storeSet a (relayAll t2 es1 (SetTable.grown es1.size)).1 (relayAll t2 es1 (SetTable.grown es1.size)).2.1
      pure (some true)
     else pure (some true)) R E s:=by
 refine wpAny_bind (wpAny_storeSet_of ho hd ?_ (fits_of_scanBound hb1))
 obtain⟨ho1,hS1⟩:=SR_store (prog:=prog) (w:=w) ho hex hd hel1 hp1 hb1 hf2 R2 hl2
 have hsb1:=Heap.SameBut.update s.heap a (Obj.putSet es1 t2)
 split
 ·have hp:=relayAll_perm t2 es1 (SetTable.grown es1.size)
  have hfr:=relayAll_fits t2 es1 (SetTable.grown es1.size)
  have hri:=relayAll_rise (t:=t2) (es:=es1) (n:=SetTable.grown es1.size)
  generalize hRl:relayAll t2 es1 (SetTable.grown es1.size)=Rl at hp hfr hri ⊢
  obtain⟨es2,t3,gave2⟩:=Rl
  dsimp only at hp hfr hri ⊢
  have hsz:es2.size=es1.size:=by rw[<- Array.length_toList,hp.length_eq,Array.length_toList]
  have hb2:es2.size<scanBound:=by rw[hsz];exact hb1
  refine wpAny_bind (hg _ _ _ ?_)
  refine wpAny_bind (wpAny_storeSet_of ho1 rfl ?_ (fits_of_scanBound hb2))
  obtain⟨_,hS2⟩:=SR_store (prog:=prog) (w:=w) ho1 hex rfl (hel1.perm hp) ((hp.map kvI).trans hp1) hb2 hfr hri.1 (hri.2.trans hl2)
  exact wpAny_pure (h _ (hsb1.trans (Heap.SameBut.update _ a _)) hS2)
 ·exact wpAny_pure (h _ hsb1 hS1)
theorem sr_add {a:Addr}{σ:List Int}{led:Bool}{k:Int}{tk:Tok}{Q:Bool->Shared->Prop}(hS:SR prog w s.heap a σ led)(hroom:σ.length+1<scanBound)
  (h:∀h' b,Heap.SameBut a s.heap h'->SR prog w h' a (step_dedup σ k) led->Q b { s with heap:=h' }):
  wpAny (model prog w) A (setAddHashed a (.int k tk) ((intKind prog w).hash k)) Q E s:=by
 obtain⟨o,es,ep,t,ho,hex,hd,hel,hp,hb,hf,R,hl⟩:=hS
 have hkey:(intKind prog w).is k (.int k tk)=true:=intKind_is _ _ _ _
 have hsc:(Value.int k tk).scannable=true:=rfl
 have hn:es.size=σ.length:=by rw[<- hp.length_eq,List.length_map,Array.length_toList]
 have hb1:es.size+1<scanBound:=by rw[hn];exact hroom
 have hmem:∀k',σ.any (·==k')=true↔∃e∈es.toList,(intKind prog w).is k' e.2=true:=fun k'=>by
  rw[<- elem_kv hel,hp.mem_iff,List.any_eq_true]
  exact⟨fun⟨x,hx,e⟩=>by rw[beq_iff_eq] at e;rw[<- e];exact hx,fun hx=>⟨k',hx,by simp⟩⟩
 unfold setAddHashed setAddHashedIn
 refine wpAny_holding (wpAny_bind (wpAny_setState_of ho hd hf ?_))
 dsimp only
 rw[byScan_of hsc hb hel]
 simp only[↓reduceIte]
 unfold setAddByScan
 refine wpAny_bind ?_
 refine wpAny_bind (wpAny_rule ?_)
 refine wpAny_bind (wpAny_setScan_of hkey ho hd hf hel ?_)
 cases hr:List.findIdx? (fun e=>(intKind prog w).is k e.2) es.toList with
 |some j=>
  dsimp only
  obtain⟨hj,hpj,_⟩:=List.findIdx?_eq_some_iff_getElem.mp hr
  have hSk:σ.any (·==k)=true:=(hmem k).mpr ⟨es.toList[j],List.getElem_mem hj,hpj⟩
  refine wpAny_pure (wpAny_pure ?_)
  have e:s={ s with heap:=s.heap }:=by cases s;rfl
  have:=h s.heap false (Heap.SameBut.refl a s.heap) ⟨o,es,ep,t,ho,hex,hd,hel,by unfold step_dedup;rw[if_pos hSk];exact hp,hb,hf,R,hl⟩
  rw[e]
  exact this
 |none=>
  dsimp only
  have hSk:¬σ.any (·==k)=true:=fun hk=>by
   obtain⟨e,he,hpe⟩:=(hmem k).mp hk
   have:=List.findIdx?_eq_none_iff.mp hr e he
   rw[hpe] at this
   exact Bool.noConfusion this
  have hgw:∀(b:Bool) {s₁:Shared} {Q':Unit->Shared->Prop},Q' () s₁->wpAny (model prog w) A (match b with|true=>rule "set.scan.the-table-gave-way" | false=>pure ()) Q' E s₁:=
   fun b s₁ Q' hq=>by cases b<;>first|exact wpAny_pure hq|exact wpAny_rule hq
  have hperm:=layNew_perm t es ((intKind prog w).hash k) (.int k tk)
  have hfits:=layNew_fits t es ((intKind prog w).hash k) (.int k tk)
  have hrise:=layNew_rise (es:=es) (h:=(intKind prog w).hash k) (x:=.int k tk) R
  generalize hL:layNew t es ((intKind prog w).hash k) (.int k tk)=L at hperm hfits hrise ⊢
  obtain⟨es1,t1,wasDummy,gave⟩:=L
  dsimp only at hperm hfits hrise ⊢
  rw[Array.toList_push] at hperm
  have hel1:ElemsOf (intKind prog w) es1.toList:=(hel.push hkey hsc).perm hperm
  have hp1:(es1.toList.map kvI).Perm (step_dedup σ k):=by
   unfold step_dedup
   rw[if_neg hSk]
   refine(hperm.map kvI).trans ?_
   rw[List.map_append]
   exact hp.append_right _
  have hb1':es1.size<scanBound:=by rw[<- Array.length_toList,hperm.length_eq,List.length_append,Array.length_toList];simpa using hb1
  refine wpAny_bind (hgw _ ?_)
  split
  ·refine wpAny_bind ?_
   rw[hashByValue_scannable 8 hsc]
   refine wpAny_pure ?_
   refine sr_tail ?_ ho hex hd hel1 hp1 hb1' ?_ ?_ ?_ ?_ (led:=led)
   ·intro b s₁ Q' hq;cases b<;>first|exact wpAny_pure hq|exact wpAny_rule hq
   ·split
    ·exact hfits
    ·exact SetTable.fits_plain_off hfits
   ·split
    ·exact hrise.1
    ·exact⟨hrise.1.pl,hrise.1.du⟩
   ·split
    ·exact hrise.2.trans hl
    ·exact hrise.2.trans hl
   ·intro h' hsb hS';dsimp only;exact wpAny_pure (h h' true hsb hS')
  ·refine wpAny_bind (wpAny_pure ?_)
   simp only[↓reduceIte]
   refine sr_tail ?_ ho hex hd hel1 hp1 hb1' hfits hrise.1 (hrise.2.trans hl) ?_
   ·intro b s₁ Q' hq;cases b<;>first|exact wpAny_pure hq|exact wpAny_rule hq
   ·intro h' hsb hS';dsimp only;exact wpAny_pure (h h' true hsb hS')
end
end L2
namespace L2
open PySem PySem.Spec PyProof.Rows
section
variable {prog:Program} {w:World} {A:Around} {E:Value->Shared->Prop} {s:Shared}
abbrev newSet (led:Bool):Obj:={ cls:=.type "set",dict:=none,data:=.set #[] 0 (.fresh 0 0 led) }
end
end L2
namespace L2
open PySem PySem.Spec PyProof.Rows
structure Src (prog:Program)(w:World)(it l:Addr)(J:Nat->Heap->Prop)(C:Array Value->Heap->Prop):Prop where
 item:∀(A:Around) (E:Value->Shared->Prop) (s:Shared) (k:Nat) (xs:Array Value) (x:Value) (Q:Value->Shared->Prop),J k s.heap->C xs s.heap->xs[k]?=some x->(∀h',J (k+1) h'->Heap.SameBut it s.heap h'->Q x { s with heap:=h' })->wpAny (model prog w) A (Builtin.SmallTypes.nextOf (.ref it)) Q E s
 stop:∀(A:Around) (E:Value->Shared->Prop) (s:Shared) (k:Nat) (xs:Array Value) (Q:Value->Shared->Prop),A.handled=none->J k s.heap->C xs s.heap->xs[k]?=none->(∀h' e,Heap.ExtBut it s.heap h'->(∃o,h'.get? e=some o/\o.cls=.type "StopIteration")->E (.ref e) { s with heap:=h' })->wpAny (model prog w) A (Builtin.SmallTypes.nextOf (.ref it)) Q E s
 keep:∀k h h',J k h->(∀o,h.get? it=some o->h'.get? it=some o)->J k h'
 seq:∀xs h h',C xs h->(∀o,h.get? l=some o->h'.get? l=some o)->C xs h'
 obj:∀k h,J k h->∃o vs,h.get? it=some o/\o.data=.fields vs
end L2
namespace L2
open PySem PySem.Spec PyProof.Rows
def cX (t:Bool)(l:Addr)(xs:Array Value)(h:Heap):Prop:=if t=true then h.IsTuple l xs else h.IsList l xs
def tX (t:Bool):String:=if t=true then "tuple_iterator" else "list_iterator"
theorem cX_lt {t:Bool}{l:Addr}{h:Heap}{xs:Array Value}(g:cX t l xs h):l<h.objs.size:=by
 cases t
 ·obtain⟨o,g,_⟩:=(show h.IsList l xs from g);exact Heap.lt_size g
 ·obtain⟨o,g,_⟩:=(show h.IsTuple l xs from g);exact Heap.lt_size g
end L2
namespace L2
open PySem PySem.Spec PyProof.Rows
section
variable {prog:Program} {w:World} {A:Around} {R:Result->Shared->Prop} {I:Addr} {fp wr:List Addr} {G:Array GenState->Array GenState->Prop} {n:Nat} {P:Nat->Value->Prop} {Sx:Nat->Shared->Prop}
theorem sr_loop (W:WalksS prog w A.in1 I fp wr G n P Sx)(S:Addr)(nf:S∉fp){led:Bool}(val:Nat->Int)(hv:∀i v,P i v->∃t,v=.int (val i) t)(hb:n+1<scanBound):
  ∀(k i:Nat) (s:Shared),n-i=k->i<=n->Sx i s->SR prog w s.heap S (firstMet val i) led→
   (∀s',Moved (S::wr) G s s'->SR prog w s'.heap S (firstMet val n) led->R (.ok (.ret .none)) s')→
   codeAny (model prog w) A (.builtin "set.update.loop" ⟨[.ref S,.ref I],[]⟩) R s:=by
 have nw:S∉wr:=fun h=>nf (W.sub _ h)
 have sub:∀b∈wr,b∈S::wr:=fun b hb=>List.mem_cons_of_mem _ hb
 intro k
 induction k with
 |zero=>
  intro i s hk hi hst hS hR
  have ein:i=n:=by omega
  subst ein
  refine codeAny_builtin PyProof.Rows.F.entry_set_update_loop ?_
  rw[Around.under_plainId PyProof.Rows.F.plain_set_update_loop _]
  show wpAny _ A.in1 (pyNext (.ref I) >>= _) _ _ _
  refine wpAny_bind (W.done s _ _ hst fun s' hm=>?_)
  show wpAny _ A.in1 (ret Value.none) _ _ _
  exact wpAny_pure (hR s' (hm.mono sub) (hS.keep fun o e=>hm.heap S _ nw e))
 |succ k ih=>
  intro i s hk hi hst hS hR
  have hlt:i<n:=by omega
  refine codeAny_builtin PyProof.Rows.F.entry_set_update_loop ?_
  rw[Around.under_plainId PyProof.Rows.F.plain_set_update_loop _]
  show wpAny _ A.in1 (pyNext (.ref I) >>= _) _ _ _
  refine wpAny_bind (W.item i s _ _ hlt hst fun v s' hP hst' hm=>?_)
  obtain⟨t,rfl⟩:=hv i v hP
  have hS':SR prog w s'.heap S (firstMet val i) led:=hS.keep fun o e=>hm.heap S _ nw e
  show wpAny _ A.in1 (holding [Value.int (val i) t] (setAdd S (.int (val i) t)) >>= _) _ _ _
  refine wpAny_bind (wpAny_holding ?_)
  unfold setAdd
  refine wpAny_holding (wpAny_bind ((intKind prog w).pyHash (k:=val i) (intKind_is _ _ _ _) ?_))
  have room:(firstMet val i).length+1<scanBound:=by have:=firstMet_length_le val i;omega
  refine sr_add (s:={ s' with toks:=s'.toks+1 }) hS' room fun h' b hsb hS2=>?_
  rw[<- firstMet_succ] at hS2
  refine wpAny_pure ⟨plainId_quiet PyProof.Rows.F.plain_set_update_loop _,ih (i+1) _ (by omega) hlt (W.frame _ s' _ _ hst' (Nat.le_succ _) fun b hb o e=>?_) hS2 fun s'' hm'' hS''=>?_⟩
  ·rw[hsb.2 b (fun h:b=S=>nf (by rw[<- h];exact hb))]
   exact e
  ·refine hR s'' (Moved.trans W.gtrans ((hm.mono sub).then_heap (Nat.le_succ _) fun b o hb e=>?_) hm'') hS''
   rw[hsb.2 b (fun h:b=S=>hb (by rw[h];exact List.mem_cons_self))]
   exact e
end
section
variable {prog:Program} {w:World} {A:Around} {E:Value->Shared->Prop} {s:Shared}
abbrev ledOf (w:World):Bool:=!w.params.followText "set-order"
theorem code_set_led (a:Value){Q₁:Value->Shared->Prop}(h:Q₁ (.ref s.heap.objs.size) { s with heap:=s.heap.push (newSet (ledOf w)) }):
  codeAny (model prog w) A (.call (.builtin "set.__new__") ⟨[.type "set",a],[]⟩) (wants Q₁ E) s:=by
 refine codeAny_of_tree ?_
 show wpAny _ A.in1 (do checkBuiltinCall "set.__new__" ⟨[.type "set",a],[]⟩;again (.builtin "set.__new__" ⟨[.type "set",a],[]⟩)) _ _ s
 refine wpAny_bind (wpAny_of_eq (PySem.F.newCall_set_1 a) (wpAny_pure ⟨plainId_quiet PySem.F.plain_set_new _,codeAny_builtin PySem.F.entry_set_new ?_⟩))
 rw[Around.under_plainId PySem.F.plain_set_new _]
 unfold Builtin.«set.__new__» Builtin.Frozenset.newClass
 have hsub:=sub_set_self
 obtain⟨hp,g,d,tk,os⟩:=s
 dsimp only
 wp_walk
 refine wpAny_askSetting (wpAny_pure ?_)
 dsimp only
 simp only[newObj]
 refine wpAny_bind (wpAny_alloc (wpAny_pure ?_))
 exact wpAny_pure h
set_option maxRecDepth 100000 in
set_option maxHeartbeats 3200000 in
theorem set_seqI (t:Bool){l:Addr}{its:Array Value}{ns:List Int}{Q:Value->Shared->Prop}(hh:A.handled=none)(hl:cX t l its s.heap)(hi:∀(i:Nat) (v:Value),its[i]?=some v->∃tk,v=.int (ns.getD i 0) tk)(hb:its.size+1<scanBound)
  (h:∀(h':Heap) (tk:Nat),SR prog w h' s.heap.objs.size (firstMet (fun i=>ns.getD i 0) its.size) (ledOf w)→
   (∀b o,b<s.heap.objs.size->s.heap.get? b=some o->h'.get? b=some o)->Q (.ref s.heap.objs.size) { s with heap:=h',toks:=tk }):
  wpAny (model prog w) A (call (.type "set") [.ref l]) Q E s:=by
 obtain⟨c,tl,hmro⟩:=PySem.F.called_set.mro
 have hmade:=PySem.F.called_set.made
 have hsub:=PySem.F.called_set.sub
 refine wpAny_call (codeAny_of_tree ?_)
 show wpAny _ _ (callAny (.type "set") _) _ _ s
 refine wpAny_pure ⟨Code.quiet_builtin _ (by decide +kernel),codeAny_builtin PySem.F.entry_type_call ?_⟩
 rw[Around.under_plain (weight_type_call_type "set" [.ref l] []) rfl]
 have h1:=PySem.F.called_set.notType
 have h2:=PySem.F.called_set.canCreate
 have hct:=PySem.F.typeCall_set_1 (.ref l)
 repeat (any_goals (first|assumption|wp_step))
 refine codeAny_mono (code_set_led (.ref l) (E:=E) (Q₁:=fun obj s₁=>obj=.ref s.heap.objs.size/\s₁={ s with heap:=s.heap.push (newSet (ledOf w)) }) ⟨rfl,rfl⟩) fun r s₁ hr=>?_
 cases r with
 |error e=>exact hr
 |ok fl=>
  cases fl with
  |ret obj=>
   obtain⟨rfl,rfl⟩:=hr
   generalize hled:ledOf w=led at *
   have gS:(s.heap.push (newSet led)).get? s.heap.objs.size=some (newSet led):=Heap.get?_push_size _ rfl
   have tS:Shared.TypeIs { s with heap:=s.heap.push (newSet led) } (.ref s.heap.objs.size) "set":=⟨_,gS,rfl⟩
   have hli:=PySem.F.called_set.init.lookup
   have hbi:=PySem.F.called_set.init.bind (.ref s.heap.objs.size)
   repeat (any_goals (first|assumption|wp_step))
   refine codeAny_mono (codeAny_call_builtin (R:=wants (fun r s₂=>r=.none/\∃h' tk,s₂={ s with heap:=h',toks:=tk }∧
     SR prog w h' s.heap.objs.size (firstMet (fun i=>ns.getD i 0) its.size) led∧
     (∀b o,b<s.heap.objs.size->s.heap.get? b=some o->h'.get? b=some o)) E) PySem.F.called_set.init.plain PySem.F.entry_set_init (check_set_init_1 tS ?_)) fun r₂ s₂ hr₂=>?_
   ·have ll:l<s.heap.objs.size:=cX_lt hl
    have nI:l≠(s.heap.push (newSet led)).objs.size:=by rw[Heap.size_push];exact Nat.ne_of_lt (Nat.lt_succ_of_lt ll)
    have nS:s.heap.objs.size∉[(s.heap.push (newSet led)).objs.size,l]:=by
     rw[Heap.size_push]
     simp only[List.mem_cons,List.mem_singleton,List.not_mem_nil,or_false,not_or]
     exact⟨Nat.ne_of_lt (Nat.lt_succ_self _),Nat.ne_of_gt ll⟩
    have r0:SR prog w (s.heap.push (newSet led)) s.heap.objs.size [] led:=⟨_,#[],0,_,gS,⟨rfl,rfl,rfl⟩,rfl,fun e he=>by simp at he,.nil,by decide,rfl,⟨.nil,rfl⟩,rfl⟩
    have h3:A.in1.in1.in1.handled=none:=by simp[hh]
    have last:∀(s':Shared) (wr:List Addr),(∀b∈wr,b=(s.heap.push (newSet led)).objs.size)->Moved (s.heap.objs.size::wr) (fun a b=>b=a) { s with heap:=(s.heap.push (newSet led)).push { cls:=.type (tX t),data:=.fields #[.ref l,.int 0 0] } } s'->SR prog w s'.heap s.heap.objs.size (firstMet (fun i=>ns.getD i 0) its.size) led→
      ∃h' tk,s'={ s with heap:=h',toks:=tk }/\SR prog w h' s.heap.objs.size (firstMet (fun i=>ns.getD i 0) its.size) led/\(∀b o,b<s.heap.objs.size->s.heap.get? b=some o->h'.get? b=some o):=fun s' wr hwr hm hS'=>by
     obtain⟨h',g',d',tk',os'⟩:=s'
     have eg:g'=s.gens:=hm.gens
     have ed:d'=s.drawn:=hm.drawn
     have eo:os'=s.os:=hm.os
     subst eg;subst ed;subst eo
     refine⟨h',tk',rfl,hS',fun b o hb e=>?_⟩
     have n1:b≠s.heap.objs.size:=Nat.ne_of_lt hb
     have n2:b≠(s.heap.push (newSet led)).objs.size:=by rw[Heap.size_push];exact Nat.ne_of_lt (Nat.lt_succ_of_lt hb)
     refine hm.heap b o (fun hmem=>?_) (Heap.get?_push_of_some _ (Heap.get?_push_of_some _ e))
     rcases List.mem_cons.mp hmem with z|z
     ·exact n1 z
     ·exact n2 (hwr b z)
    cases t with
    |false=>
     obtain⟨ol,hol,hcl,nl,hdl⟩:=(show s.heap.IsList l its from hl)
     obtain⟨ocls,odict,odata,oslots⟩:=ol
     simp only at hcl hdl
     subst hcl;subst hdl
     have gl:(s.heap.push (newSet led)).get? l=some { cls:=.type "list",dict:=odict,data:=.seq its nl,slots:=oslots }:=Heap.get?_push_of_some _ hol
     have hsls:=PySem.F.sub_list_set
     have hslf:=PySem.F.sub_list_frozenset
     have hne:(Value.type "list"==Value.type "dict")=false:=by decide
     have il:(s.heap.push (newSet led)).IsList l its:=⟨_,gl,rfl,nl,rfl⟩
     unfold Builtin.«set.__init__» noKeywords Builtin.Frozenset.updateFrom
     generalize hPI:pyIter=PI
     wp_walk
     subst hPI
     refine wpAny_pyIter_list il (wpAny_bind (wpAny_runValue ?_))
     refine sr_loop ((Walks.list h3 _ l nI its).toS) s.heap.objs.size nS (fun i=>ns.getD i 0) hi hb (its.size-0) 0 _ (by omega) (Nat.zero_le _) ⟨⟨_,Heap.get?_push_size _ rfl,rfl,rfl⟩,(il.push _)⟩ (r0.keep fun o e=>Heap.get?_push_of_some _ e) ?_
     intro s' hm hS'
     obtain⟨h',tk',e1,e2,e3⟩:=last s' _ (fun b hb=>List.mem_singleton.mp hb) hm hS'
     subst e1
     refine wpAny_pure ?_
     show wpAny _ _ (ret Value.none) _ _ _
     exact wpAny_pure ⟨rfl,h',tk',rfl,e2,e3⟩
    |true=>
     obtain⟨ol,hol,hcl,nl,hdl⟩:=(show s.heap.IsTuple l its from hl)
     obtain⟨ocls,odict,odata,oslots⟩:=ol
     simp only at hcl hdl
     subst hcl;subst hdl
     have gl:(s.heap.push (newSet led)).get? l=some { cls:=.type "tuple",dict:=odict,data:=.seq its nl,slots:=oslots }:=Heap.get?_push_of_some _ hol
     have hsls:=PySem.F.sub_tuple_set
     have hslf:=PySem.F.sub_tuple_frozenset
     have hne:(Value.type "tuple"==Value.type "dict")=false:=by decide
     have il:(s.heap.push (newSet led)).IsTuple l its:=⟨_,gl,rfl,nl,rfl⟩
     unfold Builtin.«set.__init__» noKeywords Builtin.Frozenset.updateFrom
     generalize hPI:pyIter=PI
     wp_walk
     subst hPI
     refine wpAny_pyIter_tuple il (wpAny_bind (wpAny_runValue ?_))
     refine sr_loop ((Walks.tuple h3 _ l nI its).toS) s.heap.objs.size nS (fun i=>ns.getD i 0) hi hb (its.size-0) 0 _ (by omega) (Nat.zero_le _) ⟨⟨_,Heap.get?_push_size _ rfl,rfl,rfl⟩,(il.push _)⟩ (r0.keep fun o e=>Heap.get?_push_of_some _ e) ?_
     intro s' hm hS'
     obtain⟨h',tk',e1,e2,e3⟩:=last s' _ (fun b hb=>List.mem_singleton.mp hb) hm hS'
     subst e1
     refine wpAny_pure ?_
     show wpAny _ _ (ret Value.none) _ _ _
     exact wpAny_pure ⟨rfl,h',tk',rfl,e2,e3⟩
   ·cases r₂ with
    |error e=>exact hr₂
    |ok fl₂=>
     cases fl₂ with
     |ret r=>
      obtain⟨rfl,h',tk,rfl,hS',hk'⟩:=hr₂
      repeat (any_goals (first|assumption|wp_step))
      exact h _ _ hS' hk'
     |_=>exact hr₂.elim
  |_=>exact hr.elim
end
end L2
namespace L2
open PySem PySem.Spec PyProof.Rows
theorem erase_perm {α:Type}:∀(l:List α) (i:Nat) (h:i<l.length),(l[i]::l.eraseIdx i).Perm l
 | [],i,h=>by simp at h
 |a::l,0,h=>.refl _
 |a::l,i+1,h=>by
  show((a::l)[i+1]::a::l.eraseIdx i).Perm (a::l)
  exact(List.Perm.swap _ _ _).trans ((erase_perm l i (by simpa using h)).cons a)
theorem pick_go {α:Type}(next:Nat->Nat):∀(fuel k:Nat) (left:List α) (out:Array α),left.length<=fuel->(pickOrder.go next fuel k left out).toList.Perm (out.toList++left)
 |0,k,left,out,h=>by
  have:left=[]:=List.length_eq_zero_iff.mp (by omega)
  subst this
  unfold pickOrder.go
  rw[List.append_nil]
 |fuel+1,k,left,out,h=>by
  unfold pickOrder.go
  cases hx:left[next k%left.length]? with
  |none=>
   dsimp only
   have h0:left=[]:=by
    cases left with
    |nil=>rfl
    |cons a l=>
     have:=List.getElem?_eq_none_iff.mp hx
     have:=Nat.mod_lt (next k) (show 0<(a::l).length by simp)
     omega
   subst h0
   rw[List.append_nil]
  |some x=>
   dsimp only
   have hl:=(List.getElem?_eq_some_iff.mp hx).1
   refine(pick_go next fuel (k+1) _ _ (by rw[List.length_eraseIdx_of_lt hl];omega)).trans ?_
   rw[Array.toList_push,List.append_assoc]
   refine List.Perm.append_left _ ?_
   have e:=(List.getElem?_eq_some_iff.mp hx).2
   rw[<- e]
   exact erase_perm left _ hl
theorem pick_perm {α:Type}(next:Nat->Nat)(xs:Array α):(pickOrder next xs).toList.Perm xs.toList:=by
 unfold pickOrder
 have:=pick_go next xs.size 0 xs.toList #[] (by simp)
 simpa using this
section
variable {prog:Program} {w:World} {A:Around} {E:Value->Shared->Prop}
theorem wp_choose1 {src:Source}{n:Nat}{s:Shared}{Q:Nat->Shared->Prop}(hn:n≠0)(h:∀i d,i<n->Q i { s with drawn:=d }):wpAny (model prog w) A (choose src n) Q E s:=fun Γ p hΓ=>by
 show Sem.wp _ Γ (.choose src n _) _ _ _ _
 rw[Sem.wp_choose]
 exact⟨hn,h _ _ (Nat.mod_lt _ (Nat.pos_of_ne_zero hn))⟩
theorem wp_draw {α:Type}:∀(n:Nat) (xs:List α) (s:Shared) (Q:List α->Shared->Prop),xs.length<=n->(∀ys d,ys.Perm xs->Q ys { s with drawn:=d })->wpAny (model prog w) A (drawOrder n xs) Q E s
 |0,xs,s,Q,h,q=>by
  have:xs=[]:=List.length_eq_zero_iff.mp (by omega)
  subst this
  unfold drawOrder
  exact wpAny_pure (q [] s.drawn (.refl _))
 |n+1,[],s,Q,h,q=>by
  unfold drawOrder
  exact wpAny_pure (q [] s.drawn (.refl _))
 |n+1,x::xs,s,Q,h,q=>by
  unfold drawOrder
  refine wpAny_bind (wp_choose1 (by simp) fun i d hlt=>?_)
  have ei:(x::xs)[i]?=some (x::xs)[i]:=by simp[hlt]
  rw[ei]
  dsimp only
  refine wpAny_bind (wp_draw n ((x::xs).eraseIdx i) _ _ (by rw[List.length_eraseIdx_of_lt hlt];simp at h ⊢;omega) fun ys d hy=>wpAny_pure ?_)
  exact q _ d ((hy.cons _).trans (erase_perm _ i hlt))
end
end L2
namespace L2
open PySem PySem.Spec PyProof.Rows
namespace SF
theorem slot_next:Slot "set_iterator" "__next__" "set_iterator.__next__":=
 .of (owner:="set_iterator") (n:="__next__") (by rw[typeLookup_type,builtinLookup_eq_fast];kernel_rfl) (by decide +kernel) (by decide +kernel) (by decide +kernel)
  (by first|exact .inl (by decide +kernel)|exact .inr (by decide +kernel)) (by rw[isSubtype_type];kernel_rfl)
theorem entry_next:entryFor table "set_iterator.__next__"=some Builtin.«set_iterator.__next__»:=entryFor_of_tree (by kernel_rfl)
theorem owner_si:Manifest.owners.lookup (String.ofList ['r','o','t','a','r','e','t','i','_','t','e','s'].reverse)=some Manifest.sig_set_iterator:=by kernel_rfl
theorem args_next (a:Value):argsOk "set_iterator.__next__" ⟨[a],[]⟩:=by
 unfold argsOk;rw[PySem.signature?_of (id:="set_iterator.__next__") (n:=['_','_','t','x','e','n','_','_']) (o:=['r','o','t','a','r','e','t','i','_','t','e','s']) (by kernel_rfl) owner_si];kernel_rfl
theorem entry_iter:entryFor table "set.__iter__"=some Builtin.«frozenset.__iter__»:=
 entryFor_alias (id':="frozenset.__iter__") (by kernel_rfl) (by first|rfl|decide +kernel|(unfold String.splitOn;simp +decide [String.splitOnAux])) (by decide +kernel) (by kernel_rfl)
end SF
section
variable {prog:Program} {w:World} {A:Around} {E:Value->Shared->Prop} {s:Shared}
variable {a:Addr} {o:Obj} {es:Array (Int×Value)} {ep:Nat} {t:SetTable}
abbrev byT (w:World):Bool:=w.params.followText "set-order"
theorem wp_byText {Q:Bool->Shared->Prop}(h:Q (byT w) s):wpAny (model prog w) A setsByText Q E s:=by
 unfold setsByText
 exact wpAny_bind (wpAny_askSetting (wpAny_pure h))
theorem wp_entries (ho:s.heap.get? a=some o)(hd:o.data=.set es ep t)(hf:t.fits es.size=true){Q:Array (Int×Value)->Shared->Prop}(h:Q es s):wpAny (model prog w) A (setEntries a) Q E s:=by
 unfold setEntries
 exact wpAny_bind (wpAny_setState_of ho hd hf (wpAny_pure h))
theorem next_text {slot given:Nat}{Q:Option (Value×Nat)->Shared->Prop}(ho:s.heap.get? a=some o)(hd:o.data=.set es ep t)(hf:t.fits es.size=true)(hb:byT w=true)
  (h:Q (((pickOrder (w.params.setOrder a ep) es)[given]?).map fun e=>(e.2,slot)) s):wpAny (model prog w) A (setNext a slot given ep) Q E s:=by
 unfold setNext
 refine wpAny_bind (wpAny_setState_of ho hd hf ?_)
 dsimp only
 refine wpAny_bind (wp_byText ?_)
 rw[hb]
 simp only[bne_self_eq_false,Bool.false_eq_true,if_false,if_true]
 unfold setWalk
 refine wpAny_bind (wpAny_bind (wpAny_setState_of ho hd hf ?_))
 dsimp only
 refine wpAny_bind (wp_byText ?_)
 rw[hb]
 simp only[if_true]
 exact wpAny_bind (wpAny_askSetting (wpAny_pure (wpAny_pure h)))
theorem next_plain {slot given:Nat}{Q:Option (Value×Nat)->Shared->Prop}(ho:s.heap.get? a=some o)(hd:o.data=.set es ep t)(hf:t.fits es.size=true)(hb:byT w=false)(hn:¬(!t.plain&&decide (es.size > 1))=true)(hl:t.led=true)
  (h:Q (match es[SetTable.below t.place slot]?,t.place[SetTable.below t.place slot]? with|some (_,x),some j=>some (x,j+1)|_,_=>none) s):wpAny (model prog w) A (setNext a slot given ep) Q E s:=by
 unfold setNext
 refine wpAny_bind (wpAny_setState_of ho hd hf ?_)
 dsimp only
 refine wpAny_bind (wp_byText ?_)
 rw[hb]
 simp only[Bool.false_eq_true,if_false]
 refine wpAny_ite_split (fun z=>absurd z hn) (fun _=>?_)
 refine wpAny_bind ?_
 refine wpAny_ite_split (fun z=>?_) (fun _=>wpAny_pure (wpAny_pure h))
 rw[hl] at z
 exact absurd z (by simp)
theorem next_drawn {place:Nat}{x:Int×Value}{Q:Value->Shared->Prop}(ho:s.heap.get? a=some o)(hd:o.data=.set es ep t)(hf:t.fits es.size=true)(hx:es[place]?=some x)(h:Q x.2 s):wpAny (model prog w) A (setNextDrawn a place ep) Q E s:=by
 unfold setNextDrawn
 refine wpAny_bind (wpAny_setState_of ho hd hf ?_)
 dsimp only
 simp only[bne_self_eq_false,Bool.false_eq_true,if_false]
 rw[hx]
 exact wpAny_pure h
end
def slotAt (xs:Array Nat)(i:Nat):Nat:=if i=0 then 0 else xs.getD (i-1) 0+1
theorem below_slot {xs:Array Nat}(hr:xs.toList.Pairwise (· < ·)){i:Nat}(hi:i<=xs.size):SetTable.below xs (slotAt xs i)=i:=by
 obtain⟨h1,h2,h3⟩:=below_ok xs (slotAt xs i) hr
 generalize hp:SetTable.below xs (slotAt xs i)=p at *
 have lt:∀{k l x y:Nat},k<l->xs[k]?=some x->xs[l]?=some y->x<y:=fun {k l x y} h hx hy=>by
  obtain⟨g1,k1⟩:=Array.getElem?_eq_some_iff.mp hx
  obtain⟨g2,k2⟩:=Array.getElem?_eq_some_iff.mp hy
  have:=List.pairwise_iff_getElem.mp hr k l (by simpa using g1) (by simpa using g2) h
  rwa [Array.getElem_toList,Array.getElem_toList,k1,k2] at this
 by_cases e0:i=0
 ·subst e0
  by_cases hp0:p=0
  ·exact hp0
  ·obtain⟨x,hx⟩:∃x,xs[0]?=some x:=⟨xs[0]'(by omega),by simp⟩
   have:=h2 0 x (by omega) hx
   simp[slotAt] at this
 ·obtain⟨y,hy⟩:∃y,xs[i-1]?=some y:=⟨xs[i-1]'(by omega),by simp⟩
  have es:slotAt xs i=y+1:=by
   unfold slotAt
   rw[if_neg e0]
   simp[Array.getD_eq_getD_getElem?,hy]
  rw[es] at h2 h3
  by_cases hlt:p<i
  ·exfalso
   obtain⟨x,hx⟩:∃x,xs[p]?=some x:=⟨xs[p]'(by omega),by simp⟩
   have q:=h3 p x (Nat.le_refl _) hx
   by_cases e:p=i-1
   ·rw[e,hy] at hx
    cases hx
    omega
   ·have:=lt (show p<i-1 by omega) hx hy
    omega
  ·by_cases hgt:i<p
   ·exfalso
    obtain⟨x,hx⟩:∃x,xs[i]?=some x:=⟨xs[i]'(by omega),by simp⟩
    have q:=h2 i x hgt hx
    have:=lt (show i-1<i by omega) hy hx
    omega
   ·omega
end L2
namespace L2
open PySem PySem.Spec PyProof.Rows
abbrev siO (first:Value)(i:Nat)(a:Addr)(n ep:Nat):Obj:={ cls:=.type "set_iterator",dict:=none,data:=.fields #[first,rawInt i,.ref a,rawInt n,rawInt ep],slots:=#[] }
section
variable {prog:Program} {w:World} {A:Around} {E:Value->Shared->Prop} {s:Shared}
variable {a it:Addr} {o:Obj} {es:Array (Int×Value)} {ep i:Nat} {t:SetTable}
theorem stop_new {s:Shared}{Q:Fin->Shared->Prop}(hh:A.handled=none)(q:∀h' e,(∀c o,s.heap.get? c=some o->h'.get? c=some o)->(∃o,h'.get? e=some o/\o.cls=.type "StopIteration")->E (.ref e) { s with heap:=h' }):
  wpAny (model prog w) A (newExc (.type "StopIteration") [] >>= fun e=>raiseNew e) Q E s:=by
 refine wpAny_bind ?_
 simp only[newExc,newTuple]
 refine wpAny_bind (wpAny_newObj_type (by skip;refine wpAny_bind (m:=firstArgMember _ _) (wpAny_of_eq (a:=Value.none) (by first|rfl|(simp only[firstArgMember];rfl)) ?_);refine wpAny_newObj_type ?_ (by size_fits);simp only[raiseNew];refine wpAny_bind (wpAny_handled ?_);rw[hh];first|exact wpAny_throw (q _ _ (fun c o e=>Heap.get?_push_of_some _ (Heap.get?_push_of_some _ e)) ⟨_,Heap.get?_push_size _ rfl,rfl⟩)|exact wpAny_bind (wpAny_pure (wpAny_throw (q _ _ (fun c o e=>Heap.get?_push_of_some _ (Heap.get?_push_of_some _ e)) ⟨_,Heap.get?_push_size _ rfl,rfl⟩)))) (by size_fits))
theorem si_int {sl:Nat}{r:Option (Value×Nat)}{Q:Fin->Shared->Prop}(gi:s.heap.get? it=some (siO (rawInt sl) i a es.size ep))(ho:s.heap.get? a=some o)(hd:o.data=.set es ep t)(hf:t.fits es.size=true)
  (hr:∀Q',Q' r s->wpAny (model prog w) A (setNext a sl i ep) Q' E s)
  (h1:∀x nx,r=some (x,nx)->∀h',h'.get? it=some (siO (rawInt nx) (i+1) a es.size ep)->Heap.SameBut it s.heap h'->Q (.done (.ret x)) { s with heap:=h' })
  (h2:r=none->∀h',Heap.SameBut it s.heap h'->wpAny (model prog w) A (newExc (.type "StopIteration") [] >>= fun e=>raiseNew e) Q E { s with heap:=h' }):
  wpAny (model prog w) A (Builtin.«set_iterator.__next__» ⟨[.ref it],[]⟩) Q E s:=by
 show wpAny _ _ (fieldsOf (.ref it) >>= _) _ _ s
 refine wpAny_bind (wpAny_fieldsOf gi rfl ?_)
 show wpAny _ _ (setEntries a >>= _) _ _ s
 refine wpAny_bind (wp_entries ho hd hf ?_)
 show wpAny _ _ (if (((es.size:Nat):Int) !=((es.size:Nat):Int))=true then _ else _) _ _ s
 rw[if_neg (by simp)]
 show wpAny _ _ (setNext a (((sl:Nat):Int).toNat) (((i:Nat):Int).toNat) (((ep:Nat):Int).toNat) >>= _) _ _ s
 rw[Int.toNat_natCast,Int.toNat_natCast,Int.toNat_natCast]
 refine wpAny_bind (hr _ ?_)
 cases r with
 |some p=>
  obtain⟨x,nx⟩:=p
  show wpAny _ _ (setField (.ref it) 0 (rawInt nx) >>= _) _ _ s
  refine wpAny_bind (wpAny_setField_rec gi (by simp) fun hA zA sA=>?_)
  replace zA:hA.get? it=some (siO (rawInt nx) i a es.size ep):=zA
  show wpAny _ _ (setField (.ref it) 1 (rawInt (((i:Nat):Int)+1)) >>= _) _ _ _
  refine wpAny_bind (wpAny_setField_rec zA (by simp) fun hB zB sB=>?_)
  replace zB:hB.get? it=some (siO (rawInt nx) (i+1) a es.size ep):=zB
  exact wpAny_pure (h1 x nx rfl hB zB (sA.trans sB))
 |none=>
  show wpAny _ _ (setField (.ref it) 2 .none >>= _) _ _ s
  exact wpAny_bind (wpAny_setField_rec gi (by simp) fun hA zA sA=>h2 rfl hA sA)
theorem si_ref {T:Addr}{ps:Array Value}{Q:Fin->Shared->Prop}(gi:s.heap.get? it=some (siO (.ref T) i a es.size ep))(hT:s.heap.IsTuple T ps)(ho:s.heap.get? a=some o)(hd:o.data=.set es ep t)(hf:t.fits es.size=true)
  (h1:∀v,ps[i]?=some v->∃(pl:Nat) (x:Int×Value),v=rawInt pl/\es[pl]?=some x/\∀h',h'.get? it=some (siO (.ref T) (i+1) a es.size ep)->Heap.SameBut it s.heap h'->Q (.done (.ret x.2)) { s with heap:=h' })
  (h2:ps[i]?=none->∀h',Heap.SameBut it s.heap h'->wpAny (model prog w) A (newExc (.type "StopIteration") [] >>= fun e=>raiseNew e) Q E { s with heap:=h' }):
  wpAny (model prog w) A (Builtin.«set_iterator.__next__» ⟨[.ref it],[]⟩) Q E s:=by
 obtain⟨oT,gT,_,nT,dT⟩:=hT
 show wpAny _ _ (fieldsOf (.ref it) >>= _) _ _ s
 refine wpAny_bind (wpAny_fieldsOf gi rfl ?_)
 show wpAny _ _ (setEntries a >>= _) _ _ s
 refine wpAny_bind (wp_entries ho hd hf ?_)
 show wpAny _ _ (if (((es.size:Nat):Int) !=((es.size:Nat):Int))=true then _ else _) _ _ s
 rw[if_neg (by simp)]
 show wpAny _ _ (seqItems? (.ref T) >>= _) _ _ s
 refine wpAny_bind (wpAny_seqItems gT dT ?_)
 dsimp only
 rw[Int.toNat_natCast]
 cases hp:ps[i]? with
 |some v=>
  obtain⟨pl,x,rfl,hx,h⟩:=h1 v hp
  show wpAny _ _ (setNextDrawn a (((pl:Nat):Int).toNat) (((ep:Nat):Int).toNat) >>= _) _ _ s
  rw[Int.toNat_natCast,Int.toNat_natCast]
  refine wpAny_bind (next_drawn ho hd hf hx ?_)
  show wpAny _ _ (setField (.ref it) 1 (rawInt (((i:Nat):Int)+1)) >>= _) _ _ _
  refine wpAny_bind (wpAny_setField_rec gi (by simp) fun hB zB sB=>?_)
  replace zB:hB.get? it=some (siO (.ref T) (i+1) a es.size ep):=zB
  exact wpAny_pure (h hB zB sB)
 |none=>
  show wpAny _ _ (setField (.ref it) 0 (rawInt 0) >>= _) _ _ s
  refine wpAny_bind (wpAny_setField_rec gi (by simp) fun hA zA sA=>?_)
  show wpAny _ _ (setField (.ref it) 2 .none >>= _) _ _ _
  exact wpAny_bind (wpAny_setField_rec zA (by simp) fun hB zB sB=>h2 hp hB (sA.trans sB))
end
inductive SWay (w:World) (a T:Addr) (es:Array (Int×Value)) (ep:Nat) (t:SetTable):(Nat->Value)->(Heap->Prop)->List (Int×Value)->Prop
 |text:byT w=true->SWay w a T es ep t (fun _=>rawInt 0) (fun _=>True) (pickOrder (w.params.setOrder a ep) es).toList
 |plain:byT w=false->¬(!t.plain&&decide (es.size > 1))=true->t.led=true->t.place.toList.Pairwise (· < ·)->SWay w a T es ep t (fun i=>rawInt (slotAt t.place i)) (fun _=>True) es.toList
 |drawn (ps:List Nat):ps.Perm (List.range es.size)->SWay w a T es ep t (fun _=>.ref T) (fun h=>h.IsTuple T (ps.map fun(p:Nat)=>rawInt p).toArray) (ps.filterMap fun p=>es[p]?)
theorem SWay.perm {w:World}{a T:Addr}{es:Array (Int×Value)}{ep:Nat}{t:SetTable}{f:Nat->Value}{tc:Heap->Prop}{ord:List (Int×Value)}(W:SWay w a T es ep t f tc ord):ord.Perm es.toList:=by
 cases W with
 |text _=>exact pick_perm _ _
 |plain _ _ _ _=>exact .refl _
 |drawn ps hp=>exact(hp.filterMap _).trans (by rw[filterMap_getElem?_range])
theorem fm_map {es:Array (Int×Value)}:∀ps:List Nat,(∀p∈ps,p<es.size)->ps.filterMap (fun p=>es[p]?)=ps.map fun p=>es.getD p default
 | [],_=>rfl
 |p::ps,h=>by
  have hp:=h p List.mem_cons_self
  rw[List.filterMap_cons,List.map_cons,fm_map ps fun q hq=>h q (List.mem_cons_of_mem _ hq)]
  simp[Array.getD_eq_getD_getElem?,hp]
namespace SF
theorem slot_iter:Slot "set_iterator" "__iter__" "set_iterator.__iter__":=
 .of (owner:="set_iterator") (n:="__iter__") (by rw[typeLookup_type,builtinLookup_eq_fast];kernel_rfl) (by decide +kernel) (by decide +kernel) (by decide +kernel)
  (by first|exact .inl (by decide +kernel)|exact .inr (by decide +kernel)) (by rw[isSubtype_type];kernel_rfl)
theorem entry_self:entryFor table "set_iterator.__iter__"=some Builtin.«dict_keyiterator.__iter__»:=
 entryFor_alias (id':="dict_keyiterator.__iter__") (by kernel_rfl) (by first|rfl|decide +kernel|(unfold String.splitOn;simp +decide [String.splitOnAux])) (by decide +kernel) (by kernel_rfl)
theorem args_iter (a:Value):argsOk "set_iterator.__iter__" ⟨[a],[]⟩:=by
 unfold argsOk;rw[PySem.signature?_of (id:="set_iterator.__iter__") (n:=['_','_','r','e','t','i','_','_']) (o:=['r','o','t','a','r','e','t','i','_','t','e','s']) (by kernel_rfl) owner_si];kernel_rfl
end SF
section
variable {prog:Program} {w:World} {A:Around} {a it T:Addr} {es:Array (Int×Value)} {ep:Nat} {t:SetTable} {f:Nat->Value} {tc:Heap->Prop} {ord:List (Int×Value)}
theorem si_walk (hh:A.handled=none)(hit:it≠a)(hiT:it≠T)(hf:t.fits es.size=true)(W:SWay w a T es ep t f tc ord):
  WalksS prog w A it [it,a,T] [it] (fun x y=>y=x) ord.length (fun i v=>∃e,ord[i]?=some e/\v=e.2) (fun i s=>s.heap.get? it=some (siO (f i) i a es.size ep)/\(∃o,s.heap.get? a=some o/\o.data=.set es ep t)/\tc s.heap) where
 sub:=fun b hb=>by simp at hb;simp[hb]
 grefl:=fun _=>rfl
 gtrans:=fun _ _ _ h1 h2=>h2.trans h1
 frame:=fun i s h' tk st _ hk=>by
  obtain⟨g1,⟨o,g2,g3⟩,g4⟩:=st
  refine⟨hk it (by simp) _ g1,⟨o,hk a (by simp) _ g2,g3⟩,?_⟩
  cases W with
  |text _=>trivial
  |plain _ _ _ _=>trivial
  |drawn ps hp=>
   obtain⟨o',k1,k2⟩:=g4
   exact⟨o',hk T (by simp) _ k1,k2⟩
 item:=fun i s Q E hi st hQ=>by
  obtain⟨g1,⟨o,g2,g3⟩,g4⟩:=st
  have tI:s.TypeIs (.ref it) "set_iterator":=⟨_,g1,rfl⟩
  obtain⟨e,he⟩:∃e,ord[i]?=some e:=⟨ord[i],by simp[hi]⟩
  unfold pyNext
  refine wpAny_bind (wpAny_attempt (wpAny_callSpecial?_slot (name:=Str.ofString "__next__") tI SF.slot_next (wpAny_call_entry SF.slot_next tI SF.entry_next ?_ (SF.args_next _))))
  have fin:∀h',h'.get? it=some (siO (f (i+1)) (i+1) a es.size ep)->Heap.SameBut it s.heap h'->Q (some e.2) { s with heap:=h' }:=fun h' z sb=>by
   refine hQ e.2 _ ⟨e,he,rfl⟩ ⟨z,⟨o,sb.extBut _ _ (Ne.symm hit) g2,g3⟩,?_⟩ ⟨fun b o hb q=>sb.extBut _ _ (by simpa using hb) q,rfl,rfl,rfl,Nat.le_refl _⟩
   cases W with
   |text _=>trivial
   |plain _ _ _ _=>trivial
   |drawn ps hp=>
    obtain⟨o',k1,k2⟩:=g4
    exact⟨o',sb.extBut _ _ (Ne.symm hiT) k1,k2⟩
  cases W with
  |text hb=>
   rw[Array.getElem?_toList] at he
   refine si_int g1 g2 g3 hf (fun Q' q=>next_text g2 g3 hf hb q) (fun x nx er h' z sb=>?_) (fun er=>?_)
   ·rw[he] at er
    cases er
    exact⟨_,rfl,wpAny_pure (fin h' z sb)⟩
   ·rw[he] at er
    cases er
  |plain hb hn hl hr=>
   have hsz:t.place.size=es.size:=by
    simp only[SetTable.fits,Bool.and_eq_true,beq_iff_eq] at hf
    exact hf.1
   have hi':i<es.size:=by simpa using hi
   rw[Array.getElem?_toList] at he
   have hpl:t.place[i]?=some (t.place.getD i 0):=by simp[Array.getD_eq_getD_getElem?,hsz,hi']
   have hbs:=below_slot hr (show i<=t.place.size by omega)
   refine si_int g1 g2 g3 hf (fun Q' q=>next_plain g2 g3 hf hb hn hl q) (fun x nx er h' z sb=>?_) (fun er=>?_)
   rotate_left
   ·rw[hbs,he,hpl] at er
    cases er
   rw[hbs,he,hpl] at er
   cases er
   refine⟨_,rfl,wpAny_pure (fin h' ?_ sb)⟩
   have:slotAt t.place (i+1)=t.place.getD i 0+1:=by
    unfold slotAt
    rw[if_neg (by omega)]
    rfl
   show h'.get? it=some (siO (rawInt (slotAt t.place (i+1))) (i+1) a es.size ep)
   rw[this]
   exact z
  |drawn ps hp=>
   have hin:∀p∈ps,p<es.size:=fun p h=>by simpa using hp.mem_iff.mp h
   have hall:ps.filterMap (fun p=>es[p]?)=ps.map fun p=>es.getD p default:=fm_map ps hin
   rw[hall,List.getElem?_map] at he
   cases hpi:ps[i]? with
   |none=>rw[hpi] at he;cases he
   |some p=>
    rw[hpi] at he
    cases he
    have hpl:=hin p (List.mem_of_getElem? hpi)
    have e1:((ps.map fun(p:Nat)=>rawInt p).toArray)[i]?=some (rawInt p):=by simp[hpi]
    refine si_ref g1 g4 g2 g3 hf (fun v hv=>?_) (fun hv=>?_)
    ·rw[e1] at hv
     cases hv
     exact⟨p,es.getD p default,rfl,by simp[Array.getD_eq_getD_getElem?,hpl],fun h' z sb=>⟨_,rfl,wpAny_pure (fin h' z sb)⟩⟩
    ·rw[e1] at hv
     cases hv
 done:=fun s Q E st hQ=>by
  obtain⟨g1,⟨o,g2,g3⟩,g4⟩:=st
  have tI:s.TypeIs (.ref it) "set_iterator":=⟨_,g1,rfl⟩
  have hlen:ord.length=es.size:=by rw[W.perm.length_eq,Array.length_toList]
  unfold pyNext
  refine wpAny_bind (wpAny_attempt (wpAny_callSpecial?_slot (name:=Str.ofString "__next__") tI SF.slot_next (wpAny_call_entry SF.slot_next tI SF.entry_next ?_ (SF.args_next _))))
  have fin:∀(A':Around) (Q':Fin->Shared->Prop) (E':Value->Shared->Prop) (h':Heap),A'.handled=none->Heap.SameBut it s.heap h'->(∀h'' e,(∀c o,c≠it->s.heap.get? c=some o->h''.get? c=some o)->(∃o,h''.get? e=some o/\o.cls=.type "StopIteration")->E' (.ref e) { s with heap:=h'' })→
    wpAny (model prog w) A' (newExc (.type "StopIteration") [] >>= fun e=>raiseNew e) Q' E' { s with heap:=h' }:=fun A' Q' E' h' ha sb q=>stop_new ha fun h'' e k he=>q h'' e (fun c o hc z=>k c o (sb.extBut _ _ hc z)) he
  have last:∀h'' e,(∀c o,c≠it->s.heap.get? c=some o->h''.get? c=some o)->(∃o,h''.get? e=some o/\o.cls=.type "StopIteration")→
    wpAny (model prog w) A (isInstance (.ref e) (.type "StopIteration") >>= fun b=>if b=true then pure none else throw (.ref e)) Q E { s with heap:=h'' }:=fun h'' e k he=>by
   obtain⟨o,ho,hc⟩:=he
   exact wpAny_bind (wpAny_isInstance (T:="StopIteration") (b:=true) ⟨o,ho,hc⟩ isSubtype_stop (wpAny_pure (hQ _ ⟨fun b o hb q=>k b o (by simpa using hb) q,rfl,rfl,rfl,Nat.le_refl _⟩)))
  cases W with
  |text hb=>
   have e1:(pickOrder (w.params.setOrder a ep) es)[(pickOrder (w.params.setOrder a ep) es).toList.length]?=none:=by simp
   refine si_int g1 g2 g3 hf (fun Q' q=>next_text g2 g3 hf hb q) (fun x nx er=>?_) (fun _ h' sb=>fin _ _ _ h' hh sb last)
   rw[e1] at er
   cases er
  |plain hb hn hl hr=>
   have hsz:t.place.size=es.size:=by
    simp only[SetTable.fits,Bool.and_eq_true,beq_iff_eq] at hf
    exact hf.1
   have hbs:=below_slot hr (show es.toList.length<=t.place.size by rw[Array.length_toList];omega)
   have e1:es[es.toList.length]?=none:=by simp
   refine si_int g1 g2 g3 hf (fun Q' q=>next_plain g2 g3 hf hb hn hl q) (fun x nx er=>?_) (fun _ h' sb=>fin _ _ _ h' hh sb last)
   rw[hbs,e1] at er
   cases er
  |drawn ps hp=>
   have hpl:ps.length=es.size:=by rw[hp.length_eq,List.length_range]
   have e1:((ps.map fun(p:Nat)=>rawInt p).toArray)[(ps.filterMap fun p=>es[p]?).length]?=none:=by rw[hlen];simp[hpl]
   refine si_ref g1 g4 g2 g3 hf (fun v hv=>?_) (fun _ h' sb=>fin _ _ _ h' hh sb last)
   rw[e1] at hv
   cases hv
 self:=fun i s Q E st h=>by
  obtain⟨g1,_,_⟩:=st
  have tI:s.TypeIs (.ref it) "set_iterator":=⟨_,g1,rfl⟩
  refine wpAny_pyIter_slot tI SF.slot_iter (wpAny_call_entry SF.slot_iter tI SF.entry_self ?_ (SF.args_iter _))
  show wpAny _ _ (ret (.ref it)) _ _ s
  exact wpAny_pure ⟨_,rfl,"set_iterator",_,tI,SF.slot_next.lookup,h⟩
end
end L2
namespace L2
open PySem PySem.Spec PyProof.Rows
section
variable {prog:Program} {w:World} {A:Around} {E:Value->Shared->Prop} {s:Shared} {a:Addr} {σ:List Int}
theorem iter_set {Q:Value->Shared->Prop}(S:SR prog w s.heap a σ (ledOf w))
  (h:∀(h':Heap) (d:Drawn) (it T:Addr) (es:Array (Int×Value)) (ep:Nat) (t:SetTable) (f:Nat->Value) (tc:Heap->Prop) (ord:List (Int×Value)),s.heap.objs.size<=it->(T=a\/s.heap.objs.size<=T)->it≠T->(∀b o,s.heap.get? b=some o->h'.get? b=some o)→
   h'.get? it=some (siO (f 0) 0 a es.size ep)->(∃o,h'.get? a=some o/\o.data=.set es ep t)->tc h'->SWay w a T es ep t f tc ord->t.fits es.size=true->ElemsOf (intKind prog w) es.toList->(es.toList.map kvI).Perm σ->Q (.ref it) { s with heap:=h',drawn:=d }):
  wpAny (model prog w) A (pyIter (.ref a)) Q E s:=by
 obtain⟨o,es,ep,t,ho,hex,hd,hel,hp,hb,hf,R,hl⟩:=S
 have tS:s.TypeIs (.ref a) "set":=⟨o,ho,hex.1⟩
 have alt:a<s.heap.objs.size:=Heap.lt_size ho
 refine wpAny_pyIter_slot tS PySem.F.slot_set_iter (wpAny_call_entry PySem.F.slot_set_iter tS SF.entry_iter ?_ (PySem.F.args_set_iter_1 _))
 show wpAny _ _ (Builtin.Frozenset.sizeOf a >>= _) _ _ s
 unfold Builtin.Frozenset.sizeOf
 refine wpAny_bind (wpAny_bind (wp_entries ho hd hf (wpAny_pure ?_)))
 unfold setDrawn
 refine wpAny_bind (wpAny_bind (wpAny_setState_of ho hd hf ?_))
 dsimp only
 refine wpAny_bind (wp_byText (wpAny_pure ?_))
 have last:∀(s1:Shared) (first:Value) (Q':Fin->Shared->Prop),s1.heap.get? a=some o->Q' (.done (.ret (.ref s1.heap.objs.size))) { s1 with heap:=s1.heap.push (siO first 0 a es.size ep) }→
   wpAny (model prog w) A.in1 (setEpoch a >>= fun e=>newFields "set_iterator" [first,rawInt 0,.ref a,rawInt es.size,rawInt e] >>= fun v=>ret v) Q' (fun e s'=>E e s') s1:=fun s1 first Q' g q=>by
  refine wpAny_bind (wpAny_setEpoch_of g hd hf ?_)
  unfold newFields
  exact wpAny_bind (wpAny_newObj_type (wpAny_pure q) (by size_fits))
 by_cases hbt:byT w=true
 ·rw[hbt]
  simp only[Bool.not_true,Bool.false_and,Bool.false_eq_true,if_false]
  refine wpAny_bind (wpAny_pure ?_)
  refine last s (rawInt 0) _ ho ⟨_,rfl,"set_iterator",_,⟨_,Heap.get?_push_size _ rfl,rfl⟩,SF.slot_next.lookup,?_⟩
  exact h _ s.drawn _ a es ep t (fun _=>rawInt 0) (fun _=>True) _ (Nat.le_refl _) (.inl rfl) (Nat.ne_of_gt alt) (fun b o e=>Heap.get?_push_of_some _ e) (Heap.get?_push_size _ rfl) ⟨o,Heap.get?_push_of_some _ ho,hd⟩ trivial (.text hbt) hf hel hp
 ·have hbf:byT w=false:=by simpa using hbt
  have hld:t.led=true:=by rw[hl];show(!byT w)=true;rw[hbf];rfl
  rw[hbf]
  simp only[Bool.not_false,Bool.true_and]
  refine wpAny_ite_split (fun hdr=>?_) (fun hdr=>wpAny_bind (wpAny_pure ?_))
  ·refine wpAny_bind (wp_draw _ _ _ _ (by rw[List.length_range];exact Nat.le_refl _) fun ps d hps=>?_)
   have hpl:ps.length=es.size:=by rw[hps.length_eq,List.length_range]
   refine wpAny_bind (wpAny_newTuple ?_ (by rw[List.length_map,hpl];exact fits_of_scanBound hb))
   refine last _ (.ref s.heap.objs.size) _ (Heap.get?_push_of_some _ ho) ⟨_,rfl,"set_iterator",_,⟨_,Heap.get?_push_size _ rfl,rfl⟩,SF.slot_next.lookup,?_⟩
   refine h _ d _ s.heap.objs.size es ep t (fun _=>.ref s.heap.objs.size) _ _ ?_ (.inr (Nat.le_refl _)) ?_ (fun b o e=>Heap.get?_push_of_some _ (Heap.get?_push_of_some _ e)) (Heap.get?_push_size _ rfl) ⟨o,Heap.get?_push_of_some _ (Heap.get?_push_of_some _ ho),hd⟩ ?_ (.drawn ps hps) hf hel hp
   ·rw[Heap.size_push]
    exact Nat.le_succ _
   ·rw[Heap.size_push]
    exact Nat.succ_ne_self _
   ·exact⟨_,Heap.get?_push_of_some _ (Heap.get?_push_size _ rfl),rfl,0,rfl⟩
  ·refine last s (rawInt 0) _ ho ⟨_,rfl,"set_iterator",_,⟨_,Heap.get?_push_size _ rfl,rfl⟩,SF.slot_next.lookup,?_⟩
   exact h _ s.drawn _ a es ep t (fun i=>rawInt (slotAt t.place i)) (fun _=>True) _ (Nat.le_refl _) (.inl rfl) (Nat.ne_of_gt alt) (fun b o e=>Heap.get?_push_of_some _ e) (Heap.get?_push_size _ rfl) ⟨o,Heap.get?_push_of_some _ ho,hd⟩ trivial (.plain hbf hdr hld R.pl) hf hel hp
end
end L2
namespace L2
open PySem PySem.Spec PyProof.Rows
namespace SF
theorem set_len_look:typeLookup (.type "set") "__len__"=pure (some (.builtin "set.__len__")):=PySem.F.slot_set_len.lookup
theorem split_set_len:splitId "set.__len__"=some ("set","__len__"):=by decide +kernel
theorem sub_set_set:isSubtype (.type "set") (.type "set")=pure true:=by rw[isSubtype_type];kernel_rfl
end SF
section
variable {prog:Program} {w:World} {A:Around} {E:Value->Shared->Prop} {s:Shared} {a:Addr} {σ:List Int}
theorem hint_set {Q:Bool->Shared->Prop}(tS:s.TypeIs (.ref a) "set")(h:Q false s):wpAny (model prog w) A (Builtin.List.listLengthHint (.ref a)) Q E s:=by
 unfold Builtin.List.listLengthHint
 refine wpAny_bind (wpAny_specialOf tS SF.set_len_look ?_)
 simp only[SF.split_set_len]
 refine wpAny_bind (wpAny_isInstance tS SF.sub_set_set ?_)
 simp only[Bool.not_true,Bool.false_eq_true,if_false]
 rw[if_pos (by decide +kernel)]
 exact wpAny_bind (wpAny_typeOf tS (wpAny_pure h))
theorem ints_of {es:List (Int×Value)}:∀{ord:List (Int×Value)},ElemsOf (intKind prog w) es->(∀e∈ord,e∈es)->IntsAre (ord.map (·.2)) (ord.map kvI)
 | [],_,_=>.nil
 |e::ord,h,hs=>by
  obtain⟨⟨k,hk,_⟩,_⟩:=h e (hs e List.mem_cons_self)
  obtain⟨t,ht⟩:=intIs hk
  have:kvI e=k:=by unfold kvI;rw[ht]
  rw[List.map_cons,List.map_cons,ht,this]
  exact .cons k t (ints_of h fun x hx=>hs x (List.mem_cons_of_mem _ hx))
theorem collect_set {Q:List Value->Shared->Prop}(hh:A.handled=none)(S:SR prog w s.heap a σ (ledOf w))
  (hQ:∀(h':Heap) (d:Drawn) (tk:Nat) (vs:List Value) (ns:List Int),(∀b o,s.heap.get? b=some o->h'.get? b=some o)->s.heap.objs.size<=h'.objs.size->IntsAre vs ns->ns.Perm σ->Q vs { s with heap:=h',drawn:=d,toks:=tk }):
  wpAny (model prog w) A (collect (.ref a)) Q E s:=by
 have S0:=S
 obtain⟨o0,_,_,_,ho0,hex0,_⟩:=S0
 have alt:a<s.heap.objs.size:=Heap.lt_size ho0
 unfold collect
 refine wpAny_bind (wpAny_runValue (codeAny_builtin PySem.F.entry_proto_collect ?_))
 rw[Around.under_plainId PySem.F.plain_proto_collect _]
 show wpAny _ A.in1 (newList [] >>= fun l=>again (.builtin "list.__iadd__" ⟨[l,.ref a],[]⟩)) _ _ s
 refine wpAny_bind (wpAny_newObj_type ?_)
 refine wpAny_pure ⟨plainId_quiet PySem.F.plain_list_iadd _,codeAny_builtin PySem.F.entry_list_iadd ?_⟩
 rw[Around.under_plainId PySem.F.plain_list_iadd _]
 have keep1:∀b o,s.heap.get? b=some o->(s.heap.push { cls:=.type "list",data:=.seq ([]:List Value).toArray }).get? b=some o:=fun b o e=>Heap.get?_push_of_some _ e
 have S1:SR prog w (s.heap.push { cls:=.type "list",data:=.seq ([]:List Value).toArray }) a σ (ledOf w):=S.keep fun o e=>keep1 _ _ e
 have tS:Shared.TypeIs { s with heap:=s.heap.push { cls:=.type "list",data:=.seq ([]:List Value).toArray } } (.ref a) "set":=⟨o0,keep1 _ _ ho0,hex0.1⟩
 show wpAny _ A.in1 (Builtin.List.listExtendWith (.ref s.heap.objs.size) (.ref a) (.ref s.heap.objs.size)) _ _ _
 unfold Builtin.List.listExtendWith
 refine wpAny_bind (wpAny_typeOf tS ?_)
 have h1:Builtin.List.listSameRef (.ref s.heap.objs.size) (.ref a)=false:=by simp[Builtin.List.listSameRef,Nat.ne_of_gt alt]
 have h2:(Value.type "set"==Value.type "list")=false:=by decide
 have h3:(Value.type "set"==Value.type "tuple")=false:=by decide
 simp only[h1,h2,h3,Bool.or_false,Bool.false_eq_true,if_false]
 have hS₁:(s.heap.push { cls:=.type "list",data:=.seq ([]:List Value).toArray }).get? s.heap.objs.size=some { cls:=.type "list",data:=.seq ([]:List Value).toArray }:=Heap.get?_push_size _ rfl
 have sz1:(s.heap.push { cls:=.type "list",data:=.seq ([]:List Value).toArray }).objs.size=s.heap.objs.size+1:=Heap.size_push ..
 generalize s.heap.push { cls:=.type "list",data:=.seq ([]:List Value).toArray }=hp at *
 refine wpAny_bind (iter_set S1 fun h' d it T es ep t f tc ord hit hT hiT keep gi ga gt W hf hel hp'=>?_)
 have hit':s.heap.objs.size<it:=by have:hp.objs.size<=it:=hit;omega
 have hT':s.heap.objs.size≠T:=by
  rcases hT with e|e
  ·subst e
   exact Nat.ne_of_gt alt
  ·have:hp.objs.size<=T:=e
   omega
 have hSf:s.heap.objs.size∉[it,a,T]:=by
  simp only[List.mem_cons,List.mem_singleton,List.not_mem_nil,or_false,not_or]
  exact⟨Nat.ne_of_lt hit',Nat.ne_of_gt alt,hT'⟩
 have hlen:ord.length=es.size:=by rw[W.perm.length_eq,Array.length_toList]
 have hsz:es.size<scanBound:=by
  have:=S.len
  rw[<- hp'.length_eq,List.length_map,Array.length_toList] at this
  exact this
 refine wpAny_bind (wpAny_holding (hint_set ⟨o0,keep _ _ (keep1 _ _ ho0),hex0.1⟩ ?_))
 rw[if_pos (by decide +kernel)]
 refine wpAny_bind (wpAny_rule ?_)
 have hS₂':=keep _ _ hS₁
 refine wpAny_bind ?_
 show wpAny _ A.in1 (updateSeq s.heap.objs.size (·.push .none) >>= fun _=>updateSeq s.heap.objs.size (·.pop)) _ _ _
 refine wpAny_bind (wpAny_updateSeq hS₂' rfl ?_)
 have hS₂:=Heap.get?_update_self (Obj.mapSeq (·.push Value.none)) hS₂' rfl
 refine wpAny_updateSeq hS₂ rfl ?_
 have hS₃:=Heap.get?_update_self (Obj.mapSeq (·.pop)) hS₂ rfl
 have oth:∀b o,b≠s.heap.objs.size->h'.get? b=some o->((h'.update s.heap.objs.size (Obj.mapSeq (·.push Value.none))).update s.heap.objs.size (Obj.mapSeq (·.pop))).get? b=some o:=
  fun b o hb e=>(Heap.get?_update_other _ _ (Ne.symm hb)).trans ((Heap.get?_update_other _ _ (Ne.symm hb)).trans e)
 have W':=si_walk (prog:=prog) (A:=A.in1) (by simp[hh]) (Nat.ne_of_gt (Nat.lt_trans alt hit')) hiT hf W
 obtain⟨oa,ga1,ga2⟩:=ga
 have W0:=W'.frame 0 ({ s with heap:=h',drawn:=d }:Shared) _ s.toks ⟨gi,⟨oa,ga1,ga2⟩,gt⟩ (Nat.le_refl _) fun b hb o e=>oth b o (fun h=>hSf (h▸hb)) e
 refine wpAny_pure ⟨plainId_quiet PySem.F.plain_extend_loop _,codeAny_extend_loopS W' (by rw[hlen];exact fits_of_scanBound hsz) _ hSf _ ord.length 0 _ _ _ rfl (Nat.zero_le _) W0 hS₃ (ItemsOf.nil _) fun s' acc' c' hm hS' hacc=>?_⟩
 show wpAny _ A (load s.heap.objs.size >>= _) _ _ s'
 refine wpAny_bind (wpAny_load hS' (wpAny_pure ?_))
 obtain⟨hh',g',d',tk',os'⟩:=s'
 have eg:g'=s.gens:=hm.gens
 have ed:d'=d:=hm.drawn
 have eo:os'=s.os:=hm.os
 subst eg;subst ed;subst eo
 have items:acc'.toList=ord.map (·.2):=by
  apply List.ext_getElem?
  intro i
  rw[Array.getElem?_toList,List.getElem?_map]
  cases e:acc'[i]? with
  |none=>
   have:acc'.size<=i:=by simpa using e
   rw[hacc.1] at this
   rw[List.getElem?_eq_none this]
   rfl
  |some v=>
   obtain⟨x,hx,rfl⟩:=hacc.2 i v e
   rw[hx]
   rfl
 have old:∀b o,s.heap.get? b=some o->hh'.get? b=some o:=fun b o e=>by
  have lt:=Heap.lt_size e
  refine hm.heap b o ?_ (oth b o (Nat.ne_of_lt lt) (keep _ _ (keep1 _ _ e)))
  simp only[List.mem_cons,List.mem_singleton,List.not_mem_nil,or_false,not_or]
  exact⟨Nat.ne_of_lt lt,Nat.ne_of_lt (Nat.lt_trans lt hit')⟩
 show Q acc'.toList _
 rw[items]
 exact hQ hh' _ tk' _ _ old (Nat.le_of_lt (Heap.lt_size hS')) (ints_of hel fun e he=>W.perm.mem_iff.mp he) ((W.perm.map _).trans hp')
end
end L2
namespace L2
open PySem PySem.Spec PyProof.Rows
def IS (P:Program)(w:World)(a:Addr)(σ:List Int):HO:=.ext fun h=>SR P w h a σ (ledOf w)
theorem sortedHeap_at {h:Heap}{a:Addr}{vs:List Value}{n:Nat}(out:Array Value)(ho:h.get? a=some (seqObj "list" vs.toArray n)):∃e,(sortedHeap h a vs out).get? a=some (seqObj "list" out e):=by
 have ha:a<h.objs.size:=Heap.lt_size ho
 obtain⟨e1,ho1⟩:∃e1,(h.update a (Obj.mapSeq fun _=>#[])).get? a=some (seqObj "list" #[] e1):=⟨_,get?_update_seq ho (fun _=>#[])⟩
 have ho6:(((h.update a (Obj.mapSeq fun _=>#[])).push (seqObj "tuple" vs.toArray 0)).push (seqObj "list" #[] 0)).get? a=some (seqObj "list" #[] e1):=Heap.get?_push_of_some _ (Heap.get?_push_of_some _ ho1)
 exact⟨_,get?_update_seq ho6 _⟩
theorem sortedHeap_old {h:Heap}{a b:Addr}{vs:List Value}{out:Array Value}{o:Obj}(hb:b≠a)(e:h.get? b=some o):(sortedHeap h a vs out).get? b=some o:=by
 unfold sortedHeap
 exact(Heap.get?_update_other _ _ (Ne.symm hb)).trans (Heap.get?_push_of_some _ (Heap.get?_push_of_some _ ((Heap.get?_update_other _ _ (Ne.symm hb)).trans e)))
section
variable {prog:Program} {w:World} {A:Around} {E:Value->Shared->Prop} {s:Shared} {a:Addr} {σ:List Int}
theorem sorted_set {Q:Value->Shared->Prop}(hh:A.handled=none)(S:SR prog w s.heap a σ (ledOf w))(h64:σ.length<64)
  (h:∀(h':Heap) (d:Drawn) (tk:Nat) (l:Addr) (out:Array Value) (e:Nat) (ns:List Int),(∀b o,s.heap.get? b=some o->h'.get? b=some o)->s.heap.objs.size<=l->h'.get? l=some (seqObj "list" out e)->IntsAre out.toList ns->ns.Perm σ->ns.Pairwise (· <= ·)→
   Q (.ref l) { s with heap:=h',drawn:=d,toks:=tk }):
  wpAny (model prog w) A (call (.builtin "sorted") [.ref a]) Q E s:=by
 refine Calls.call_function_entry kind_sorted plain_sorted entry_sorted (args_sorted1 _) ?_
 unfold Builtin.«sorted»
 refine wpAny_bind (m:=checkCount "sorted" 1 1 _) (wpAny_pure ?_)
 refine wpAny_bind (collect_set (by simp[hh]) S fun h1 d tk vs ns keep hsz hI hp=>?_)
 refine wpAny_bind (wpAny_newList ?_ (by
  have:=hI.length
  have:=hp.length_eq
  refine Nat.le_of_lt (small1000 ?_)
  omega))
 have hoL:(h1.push (seqObj "list" vs.toArray 0)).get? h1.objs.size=some (seqObj "list" vs.toArray 0):=Heap.get?_push_size _ rfl
 show wpAny _ _ _ _ _ { s with heap:=h1.push (seqObj "list" vs.toArray 0),drawn:=d,toks:=tk }
 have hl:vs.length<64:=by
  have:=hI.length
  have:=hp.length_eq
  omega
 refine wpAny_bind (wpAny_holding (wpAny_call_entry slot_list_sort ⟨_,hoL,rfl⟩ entry_list_sort (list_sort_tree hoL hI hl fun out ns' a1 a2 a3=>⟨_,rfl,?_⟩) (args_list_sort _)))
 obtain⟨e,he⟩:=sortedHeap_at out hoL
 refine wpAny_pure ⟨_,rfl,h _ d tk _ out e ns' (fun b o z=>?_) hsz he a1 (a2.trans hp) a3⟩
 exact sortedHeap_old (Nat.ne_of_lt (Nat.lt_of_lt_of_le (Heap.lt_size z) hsz)) (Heap.get?_push_of_some _ (keep b o z))
end
theorem dedup_mem (x k:Int)(σ:List Int):k∈step_dedup σ x↔k∈σ\/k=x:=by
 unfold step_dedup
 split
 ·rename_i h
  constructor
  ·exact .inl
  ·rintro(r|rfl)
   ·exact r
   ·simpa using h
 ·simp
theorem dedup_nodup (x:Int){σ:List Int}(h:σ.Nodup):(step_dedup σ x).Nodup:=by
 unfold step_dedup
 split
 ·exact h
 ·rename_i hx
  rw[List.nodup_append]
  refine⟨h,by simp,?_⟩
  intro a ha b hb e
  subst e
  have:a=x:=by simpa using hb
  subst this
  exact hx (by simpa using ha)
theorem met_nodup (val:Nat->Int):∀i,(firstMet val i).Nodup
 |0=>by rw[firstMet_zero];exact .nil
 |i+1=>by rw[firstMet_succ];exact dedup_nodup _ (met_nodup val i)
theorem met_mem (val:Nat->Int)(k:Int):∀i,k∈firstMet val i↔∃j,j<i/\val j=k
 |0=>by rw[firstMet_zero];simp
 |i+1=>by
  rw[firstMet_succ,dedup_mem,met_mem val k i]
  constructor
  ·rintro(⟨j,h1,h2⟩|rfl)
   ·exact⟨j,Nat.lt_succ_of_lt h1,h2⟩
   ·exact⟨i,Nat.lt_succ_self i,rfl⟩
  ·rintro⟨j,h1,h2⟩
   rcases Nat.lt_succ_iff_lt_or_eq.mp h1 with r|r
   ·exact .inl ⟨j,r,h2⟩
   ·subst r
    exact .inr h2.symm
theorem met_list (ns:List Int)(k:Int):k∈firstMet (fun i=>ns.getD i 0) ns.length↔k∈ns:=by
 rw[met_mem,List.mem_iff_getElem]
 constructor
 ·rintro⟨j,h1,h2⟩
  exact⟨j,h1,by rw[<- h2];simp[List.getD,h1]⟩
 ·rintro⟨j,h1,h2⟩
  exact⟨j,h1,by rw[<- h2];simp[List.getD,h1]⟩
section
variable {X:Cx}
theorem call_setR (hc:X.calm=true){P:Program}{w:World}(hP:X.prog=P)(hw:X.w=w):CallR X (.type "set") (fun xs H Q=>∃(p:Addr) (ns:List Int),xs=[.ref p]/\(SqL X.K H p (ns.map V.int)\/SqT X.K H p (ns.map V.int))/\ns.length<=1000∧
  ∀a (σ:List Int),H a=none->σ.Nodup->(∀k,k∈σ↔k∈ns)->σ.length<=ns.length->Q (.ref a) (upd H a (IS P w a σ))):=by
 intro pins s σ H xs us Q I r h
 obtain⟨p,ns,rfl,hq,hn,q⟩:=h
 obtain⟨u,rfl,rx⟩:=vals1 r
 cases rx
 subst hP hw
 have go:∀(t:Bool) (its:List Value),Vals (ns.map V.int) its->cX t p its.toArray s.heap->wpAny (model X.prog X.w) X.A (call (.type "set") [.ref p]) (fun v s'=>∃x H',Inv X pins σ H' s'/\RelV x v/\Q x H') X.xe s:=fun t its r' pl=>by
  have hlen:=r'.length
  rw[List.length_map] at hlen
  refine set_seqI t (ns:=ns) (I.ok.hd hc) pl (fun i v hv=>?_) (by unfold scanBound;rw[List.size_toArray];omega) fun h' tk hS hk=>?_
  ·have hv':its[i]?=some v:=by simpa using hv
   have hi:i<its.length:=(List.getElem?_eq_some_iff.mp hv').1
   have en:(ns.map V.int)[i]?=some (V.int (ns.getD i 0)):=by
    rw[List.getElem?_map]
    simp[List.getD,show i<ns.length by omega]
   obtain⟨u,eu,ru⟩:=r'.get en
   rw[hv'] at eu
   cases eu
   exact ru
  ·rw[show its.toArray.size=ns.length by rw[List.size_toArray,hlen]] at hS
   refine⟨.ref s.heap.objs.size,_,I.laid (t':=tk) (o:=IS X.prog X.w s.heap.objs.size (firstMet (fun i=>ns.getD i 0) ns.length)) (fun b o e=>hk b o (Heap.lt_size e) e) (Nat.le_refl _) ?_,rfl,q _ _ (I.hok.fresh (Nat.le_refl _)) (met_nodup _ _) (met_list ns) (firstMet_length_le _ _)⟩
   refine⟨hS,?_,fun h1 h2 z k=>z.keep k⟩
   obtain⟨o,_,_,_,g,_⟩:=hS
   exact⟨o,g⟩
 rcases hq with hq|hq
 ·obtain⟨its,r',pl,_⟩:=I.list hq
  exact go false its r' pl.isList
 ·obtain⟨its,r',pl,_⟩:=I.tuple hq
  exact go true its r' pl
theorem call_sortedS (hc:X.calm=true){P:Program}{w:World}(hP:X.prog=P)(hw:X.w=w):CallR X (.builtin "sorted") (fun xs H Q=>∃(a:Addr) (σ:List Int),xs=[.ref a]/\H a=some (IS P w a σ)/\σ.length<64/\∀(l:Addr) (ns:List Int),H l=none->ns.Perm σ->ns.Pairwise (· <= ·)->Q (.ref l) (upd H l (.lst (ns.map V.int)))):=by
 intro pins s σ H xs us Q I r h
 obtain⟨a,τ,rfl,ha,h64,q⟩:=h
 obtain⟨u,rfl,ru⟩:=vals1 r
 cases ru
 subst hP hw
 have S:SR X.prog X.w s.heap a τ (ledOf X.w):=(show ObjOk X.prog X.w H s.heap a (IS X.prog X.w a τ) from I.hok _ _ ha).1
 refine sorted_set (I.ok.hd hc) S h64 fun h' d tk l out e ns keep hsz he a1 a2 a3=>?_
 have hl':=a2.length_eq
 have Id:Inv X pins σ H { s with drawn:=d }:=⟨I.ok,I.os,I.bare,I.base,I.loc,I.cell,I.free,I.freeC,I.pin,I.hok,I.len⟩
 refine⟨.ref l,_,Id.laid (t':=tk) keep hsz (show ObjOk X.prog X.w _ h' _ (.lst (ns.map V.int)) from⟨?_,out.toList,e,vals_of_ints a1,?_⟩),rfl,q _ ns (I.hok.fresh hsz) a2 a3⟩
 ·rw[List.length_map,hl']
  exact Nat.le_of_lt (small1000 (by omega))
 ·rw[Array.toArray_toList]
  exact he
end
end L2
namespace L2
open PySem PySem.Spec PyProof.Rows
section
variable {X:Cx}
def tCutT (t:TT):TT:=fun σ H Q=>∃M:Bool->Hp->Prop,t σ H M/\∀b H',M b H'->Q b H'
theorem pt_cut {e:Expr}{t:TT}(h:PT X e t):PT X e (tCutT t):=by
 intro pins s σ H Q I ⟨M,h1,h2⟩
 exact thn (h pins s σ H M I h1) fun b s' ⟨H',I',m⟩=>⟨H',I',h2 b H' m⟩
def rCatA (K:W.Frag):R2:=fun x y H Q=>∃a b xs ys,x=.ref a/\y=.ref b/\H a=some (.tup xs)/\H b=some (.tup ys)/\xs.length+ys.length<=sizeLine/\∀p H',Same H H'->H' p=some (.tup (xs++ys))->Q (.ref p) H'
theorem op_catA:OpR X (binaryOp .Add) (rCatA X.K):=by
 intro pins s σ H x y v u Q I rx ry h
 obtain⟨a,b,xs,ys,rfl,rfl,ha,hb,hz,q⟩:=h
 by_cases hx:xs=[]
 ·subst hx
  exact op_cat0 pins s σ H _ _ v u Q I rx ry ⟨a,b,ys,rfl,rfl,SqT.of ha,SqT.of hb,q b H (Same.refl H) hb⟩
 ·exact op_cat1 pins s σ H _ _ v u Q I rx ry ⟨a,b,xs,ys,rfl,rfl,ha,SqT.of hb,hx,hz,q⟩
end
end L2
namespace L2
open PySem PySem.Spec PyProof.Rows
def Tx (n:Nat)(z:Str):Prop:=z.length<=n/\∀c∈z.cps.toList,c<128
theorem Tx.mono {n m:Nat}{z:Str}(h:Tx n z)(k:n<=m):Tx m z:=⟨Nat.le_trans h.1 k,h.2⟩
theorem Tx.ok {n:Nat}{z:Str}(h:Tx n z):PyData.canLay0 (.str z)=true:=by
 show PyData.strOk z=true
 unfold PyData.strOk
 rw[Array.all_eq_true_iff_forall_mem]
 intro c hc
 have q:=h.2 c (by simpa using hc)
 exact decide_eq_true (by omega)
theorem Tx.app {n m:Nat}{y z:Str}(h:Tx n y)(k:Tx m z):Tx (n+m) (y++z):=by
 refine⟨by rw[Str.length_append];exact Nat.add_le_add h.1 k.1,fun c hc=>?_⟩
 have e:(y++z).cps=y.cps++z.cps:=rfl
 rw[e,Array.toList_append] at hc
 rcases List.mem_append.mp hc with q|q
 ·exact h.2 c q
 ·exact k.2 c q
theorem Tx.one {c:Nat}(h:c<128):Tx 1 (⟨#[c]⟩:Str):=⟨Nat.le_refl _,fun d hd=>by
 have:d=c:=by simpa using hd
 omega⟩
theorem Tx.sign {n:Nat}{z:Str}(h:Tx n z){i:Int}{c:Nat}(e:atI z.cps.toList i=some c):Tx 1 (⟨#[c]⟩:Str):=by
 obtain⟨j,_,g,_⟩:=atI_get e
 exact Tx.one (h.2 c (List.mem_of_getElem? g))
theorem Tx.slice {n:Nat}{z:Str}(h:Tx n z)(lo hi:Option Int):Tx n (Txt.slice z lo hi):=by
 refine⟨Nat.le_trans (Txt.slice_le z lo hi) h.1,fun c hc=>?_⟩
 unfold Txt.slice at hc
 split at hc
 ·exact h.2 c hc
 ·have hc':c∈((Builtin.Str.strSliceIndices lo hi 1 z.length).filterMap (z.cps[·]?)):=by simpa using hc
  obtain⟨j,_,e⟩:=List.mem_filterMap.mp hc'
  exact h.2 c (by
   have:=Array.mem_of_getElem? e
   simpa using this)
theorem Tx.num {m:Int}(h0:0<=m)(h1:m<10 ^ 10):Tx 10 (Str.ofString (toString m)):=by
 refine⟨W.KT.len_num h0 h1,fun c hc=>?_⟩
 obtain⟨k,rfl⟩:=Int.eq_ofNat_of_zero_le h0
 rw[W.KIN.signs_num] at hc
 obtain⟨ch,hch,e⟩:=List.mem_map.mp hc
 have r:=Nat.isDigit_of_mem_toDigits (by decide) (by decide) hch
 have r2:ch.toNat<=57:=by
  unfold Char.isDigit at r
  simp only[Bool.and_eq_true,decide_eq_true_eq] at r
  have:=r.2
  exact this
 omega
theorem join_tx (sep:Str){n m:Nat}(hs:Tx m sep):∀{ys:List Str},(∀y∈ys,Tx n y)->Tx (ys.length*(n+m)) (Str.join sep ys)
 | [],_=>⟨Nat.zero_le _,fun c hc=>by
  have:c∈([]:List Nat):=hc
  simp at this⟩
 | [x],h=>by
  have q:Tx n (Str.join sep [x]):=h x List.mem_cons_self
  exact q.mono (by rw[List.length_singleton];omega)
 |x::y::r,h=>by
  have q:=join_tx sep hs (ys:=y::r) fun z hz=>h z (List.mem_cons_of_mem _ hz)
  have e:Str.join sep (x::y::r)=x++sep++Str.join sep (y::r):=rfl
  rw[e]
  refine(((h x List.mem_cons_self).app hs).app q).mono ?_
  simp only[List.length_cons,Nat.succ_mul]
  omega
section
variable {X:Cx}
def Its (z:Str):It:=⟨fun i _=>i<z.length,fun i H x H'=>H'=H/\∃c,z.cps[i]?=some c/\x=.str ⟨#[c]⟩,fun i _=>z.length<=i⟩
theorem turn_strA {P:Program}{w:World}{K:W.Frag}{tg:Expr}(z:Str)(t:Tok)(it:Addr):Turn P w K tg (Its z) [it] it (fun i h=>h.IsStrIter it "str_ascii_iterator" z t i) where
 mem:=by simp
 obj:=fun i h st b hb=>by
  have e:b=it:=by simpa using hb
  subst e
  obtain⟨o,e,c,d⟩:=st
  exact⟨o,e,fun v q=>by rw[d] at q;cases q⟩
 keep:=fun i h h' st k=>let ⟨o,ho,r⟩:=st;⟨o,k it (by simp) o ho,r⟩
 item:=by
  intro Y hP hw hK hc i pins s σ H E I hf st hg
  subst hP hw hK
  have hlt:i<z.cps.size:=hg
  obtain⟨f0,f1,f2,f3,f4,f5⟩:=hf it (by simp)
  have hx:z.cps[i]?=some z.cps[i]:=by simp[hlt]
  refine wpAny_pyNext_ascii_item st hx fun h' st' sb=>?_
  have I1:Inv Y pins σ H { s with heap:=h',toks:=s.toks+1 }:=I.turned (fun b o hb e=>(sb.2 b hb).trans e) f0 f1 f3 f4 f5
  obtain⟨o,e,c,d⟩:=id st'
  exact⟨_,rfl,go_of (s:={ s with heap:=h',toks:=s.toks+1 }) e c d (by decide) ⟨.str ⟨#[z.cps[i]]⟩,H,I1,⟨_,rfl⟩,⟨rfl,_,hx,rfl⟩,st',fun b hb=>(hf b hb).1⟩⟩
 done:=by
  intro Y hP hw hK hc i pins s σ H E I hf st hg
  subst hP hw hK
  obtain⟨f0,f1,f2,f3,f4,f5⟩:=hf it (by simp)
  have hle:z.cps.size<=i:=hg
  exact wpAny_pyNext_ascii_end (I.ok.hd hc) st (by simp;omega) fun h' eb=>⟨rfl,I.turned (t':=s.toks) (fun b o hb e=>eb b o hb e) f0 f1 f3 f4 f5⟩
 self:=fun A i s Q E st h=>by
  refine wpAny_pyIter_slot st.typeIs F.slot_str_ascii_iterator_iter (wpAny_call_entry F.slot_str_ascii_iterator_iter st.typeIs F.entry_str_ascii_iterator_iter ?_ (F.args_str_ascii_iterator_iter_1 _))
  show wpAny _ _ (ret (.ref it)) _ _ s
  exact wpAny_pure ⟨_,rfl,"str_ascii_iterator",_,st.typeIs,F.slot_str_ascii_iterator_next.lookup,h⟩
def iStr (tl:TE):TI:=fun σ H R=>tl σ H fun x H1=>∃z n,x=.str z/\Tx n z/\R (Its z) H1
theorem Tx.ascii {n:Nat}{z:Str}(h:Tx n z):z.cps.all (· < 128)=true:=by
 rw[Array.all_eq_true_iff_forall_mem]
 intro c hc
 exact decide_eq_true (h.2 c (by simpa using hc))
theorem pi_str {tg l:Expr}{tl:TE}(hl:PE X l tl):PI X tg l (iStr tl):=by
 intro pins s σ H R I h
 refine thn (hl pins s σ H _ I h) fun v s1 hq9=>?_
 obtain⟨x,H1,I1,r1,q1⟩:=hq9
 obtain⟨z,n,e,tx,q⟩:=q1
 subst e
 obtain⟨t,rfl⟩:=r1
 refine wpAny_pyIter_ascii tx.ascii ?_
 refine⟨s1.heap.objs.size,[s1.heap.objs.size],_,_,H1,rfl,I1.kept (t':=s1.toks) fun b o e=>Heap.get?_push_of_some _ e,turn_strA z t _,⟨_,Heap.get?_push_size _ rfl,rfl,rfl⟩,fun b hb=>?_,q⟩
 have e:b=s1.heap.objs.size:=by simpa using hb
 subst e
 exact I1.fpOk (Nat.le_refl _) (I1.hok.fresh (Nat.le_refl _))
theorem strsAre_of {ys:List Str}:∀{us:List Value},Vals (ys.map V.str) us->StrsAre us ys:=by
 induction ys with
 |nil=>intro us r;rw[List.map_nil] at r;cases r;exact .nil
 |cons y ys ih=>
  intro us r
  rw[List.map_cons] at r
  cases r with
  |cons r1 r2=>
   obtain⟨t,e⟩:=r1
   subst e
   exact .cons y t (ih r2)
def rJoin (K:W.Frag):V->List V->Hp->VK->Prop:=fun x xs H Q=>∃sep l ys,x=.str sep/\xs=[.ref l]/\SqL K H l (ys.map V.str)/\(ys.map (·.length)).sum+ys.length*sep.length<=16777216/\Q (.str (Str.join sep ys)) H
theorem mt_join:MtR X "str.join" (rJoin X.K):=by
 intro pins s σ H x xs v us Q I rx rs h
 obtain⟨sep,l,ys,rfl,rfl,hl,hz,q⟩:=h
 obtain⟨t,rfl⟩:=rx
 obtain⟨u,rfl,ru⟩:=rs.one
 cases ru
 obtain⟨its,rv,p,_⟩:=I.list hl
 refine join_list p.isList (strsAre_of (by simpa using rv)) hz fun t' k=>?_
 have e:Txt.join sep ys=Str.join sep ys:=StrLaws.glued_eq_join sep ys
 rw[e]
 exact⟨.str _,H,I.tok k,⟨_,rfl⟩,q⟩
def rSlS:V->Option Int->Option Int->Hp->VK->Prop:=fun x lo hi H Q=>∃z,x=.str z/\z.length<=sizeLine/\Q (.str (Txt.slice z lo hi)) H
theorem part_tok {v:Value}{o:Option Int}(p:IsPart v o):∃l:Option (Int×Tok),v=partValue l/\l.map (·.1)=o:=by
 cases p with
 |none=>exact⟨none,rfl,rfl⟩
 |int i t=>exact⟨some (i,t),rfl,rfl⟩
theorem sl_str:SlR X rSlS:=by
 intro pins s σ H x v vl vu lo hi sl Q I rx hs pl pu h
 obtain⟨z,rfl,hz,q⟩:=h
 obtain⟨t,rfl⟩:=rx
 obtain⟨l,rfl,rfl⟩:=part_tok pl
 obtain⟨u,rfl,rfl⟩:=part_tok pu
 refine⟨"str",_,F.slot_str_getitem.lookup,typeIs_str _ _ _,wpAny_getItem_str_slice (l:=l) (u:=u) (st:=none) hs rfl ?_⟩
 refine post_val_or_str ⟨Nat.le_trans (Txt.slice_le z _ _) hz,fun t' k=>?_⟩
 exact⟨.str _,H,I.tok k,⟨_,rfl⟩,q⟩
def rCatL (K:W.Frag):R2:=fun x y H Q=>∃l b xs zs,x=.ref l/\y=.ref b/\SqL K H l xs/\SqL K H b zs/\xs.length+zs.length<=sizeLine/\∀p,H p=none->Q (.ref p) (upd H p (.lst (xs++zs)))
theorem op_catL:OpR X (binaryOp .Add) (rCatL X.K):=by
 intro pins s σ H x y v u Q I rx ry h
 obtain⟨l,b,xs,zs,rfl,rfl,ha,hb,hz,q⟩:=h
 cases rx
 cases ry
 obtain⟨us,ru,pu,_⟩:=I.list ha
 obtain⟨ws,rw',pw,_⟩:=I.list hb
 have l1:=ru.length
 have l2:=rw'.length
 obtain⟨⟨cls,dd,data,sl⟩,n,ho,hc,hdd,hd⟩:=id pu
 obtain⟨⟨cls2,dd2,data2,sl2⟩,n2,ho2,hc2,hdd2,hd2⟩:=id pw
 simp only at hc hd hc2 hd2
 subst hc hd hc2 hd2
 have st:=list_addW l b us.toArray ws.toArray n n2 dd dd2 sl sl2 (by rw[List.size_toArray,List.size_toArray];omega)
 refine concat_meets ⟨_,ho,rfl⟩ ⟨_,ho2,rfl⟩ noFill_list_add seq_list_add PySem.F.slot_list_add PySem.F.entry_list_add (PySem.F.args_list_add_2 _ _) st ⟨ho,ho2,?_⟩
 have ea:us.toArray++ws.toArray=(us++ws).toArray:=by simp
 rw[ea]
 exact⟨.ref _,_,I.lnew (t':=s.toks) (ru.append rw') (by rw[List.length_append];omega),rfl,q _ I.fresh⟩
end
theorem lc_str {z:Str}{caps:St}{tt:TT}{te:TE}{D:Addr}{Q:Hp->Prop}{H1:Hp}(Pv:Nat->List V->Hp->Prop)(hz:z.length<=sizeLine)(h0:Pv 0 [] (upd H1 D (.lst [])))(hl:∀i ys H,Pv i ys H->ys.length<=i)
  (hs:∀i ys H (c:Nat) (N:VK) (M:Hp->Prop),z.cps[i]?=some c->Pv i ys H->(∀y H4,H4 D=some (.lst ys)->Pv (i+1) (ys++[y]) (upd H4 D (.lst (ys++[y])))->N y H4)->(∀H3,Pv (i+1) ys H3->M H3)→
   tt (some (.str ⟨#[c]⟩)::caps) H fun ok H3=>if ok=true then te (some (.str ⟨#[c]⟩)::caps) H3 N else M H3)
  (hd:∀ys H,Pv z.length ys H->Q H):∃W:Nat->Nat->St->Hp->Prop,(∃m,W 0 m (none::caps) (upd H1 D (.lst [])))/\LcW (Its z) (gName 0) tt te D Q W:=by
 refine⟨fun i m σ H=>m=z.length-i/\i<=z.length/\(∃v,σ=v::caps)/\∃ys,Pv i ys H,⟨z.length,by simp,Nat.zero_le _,⟨none,rfl⟩,[],h0⟩,?_⟩
 rintro i m σ H ⟨rfl,hi,⟨v,rfl⟩,ys,p⟩
 have hy:=hl i ys H p
 by_cases hlt:i<z.length
 ·refine .inr ⟨hlt,fun x H1 y=>?_⟩
  obtain⟨e,c,hc,y⟩:=y
  subst e y
  exact hs i ys _ c _ _ hc p (fun y H4 a c=>⟨ys,a,by omega,z.length-(i+1),by omega,rfl,hlt,⟨_,rfl⟩,_,c⟩) (fun H3 c=>⟨z.length-(i+1),by omega,rfl,hlt,⟨_,rfl⟩,ys,c⟩)
 ·have e:i=z.length:=by omega
  subst e
  exact .inl ⟨Nat.le_refl _,hd ys H p⟩
end L2
namespace L2
open PySem PySem.Spec PyProof.Rows
section
variable {X:Cx}
theorem range_all (bs:List Bool)(i:Nat)(h:i<=bs.length):((List.range bs.length).drop i).all (fun j=>bs.getD j false)=(bs.drop i).all id:=by
 induction k:bs.length-i generalizing i with
 |zero=>
  have e:i=bs.length:=by omega
  subst e
  rw[List.drop_of_length_le (by simp),List.drop_of_length_le (Nat.le_refl _)]
  rfl
 |succ k ih=>
  have hlt:i<bs.length:=by omega
  have hd:(List.range bs.length).drop i=i::(List.range bs.length).drop (i+1):=by
   rw[List.drop_eq_getElem_cons (by simpa using hlt)];simp
  rw[hd,List.drop_eq_getElem_cons hlt,List.all_cons,List.all_cons,ih (i+1) hlt (by omega)]
  simp[List.getD,hlt]
theorem truth_bs {prog:Program}{w:World}{A:Around}{bs:List Bool}{us:List Value}(rv:Vals (bs.map V.bl) us):TruthOf prog w A (fun i v=>us.toArray[i]?=some v) (fun i=>bs.getD i false):=by
 intro i v s Q E hv q
 have hv':us[i]?=some v:=by simpa using hv
 have hlt:i<bs.length:=by
  have:=(List.getElem?_eq_some_iff.mp hv').1
  have:=rv.length
  rw[List.length_map] at this
  omega
 obtain⟨u,hu,ru⟩:=rv.get (i:=i) (x:=V.bl bs[i]) (by simp[hlt])
 rw[hv'] at hu
 cases hu
 cases ru
 refine wpAny_truthy_bool ?_
 have e:bs.getD i false=bs[i]:=by simp[List.getD,hlt]
 have q':Q (bs.getD i false) s:=q
 rw[e] at q'
 exact q'
theorem call_allB (hc:X.calm=true):CallR X (.builtin "all") (fun xs H Q=>∃(p:Addr) (bs:List Bool),xs=[.ref p]/\SqL X.K H p (bs.map V.bl)/\Q (.bl (bs.all id)) H):=by
 intro pins s σ H xs us Q I r h
 obtain⟨p,bs,rfl,hq,q⟩:=h
 obtain⟨u,rfl,rx⟩:=vals1 r
 cases rx
 obtain⟨its,rv,pl,hz⟩:=I.list hq
 have hl:its.length=bs.length:=by
  have:=rv.length
  rw[List.length_map] at this
  exact this.symm
 obtain⟨o,ho,_⟩:=id pl.isList
 have hp:p<s.heap.objs.size:=Heap.lt_size ho
 refine call_all_walk (wpAny_pyIter_list pl.isList ?_)
 refine⟨s.heap.objs.size,[s.heap.objs.size,p],[s.heap.objs.size],its.toArray.size,_,_,fun i=>bs.getD i false,rfl,Walks.list (A:=X.A.in1) (by exact I.ok.hd hc) _ p (Nat.ne_of_lt hp) its.toArray,⟨⟨_,Heap.get?_push_size _ rfl,rfl,rfl⟩,pl.isList.at fun o e=>Heap.get?_push_of_some _ e⟩,truth_bs rv,fun h' tk kk=>?_⟩
 have e:=range_all bs 0 (Nat.zero_le _)
 rw[List.drop_zero,List.drop_zero] at e
 rw[List.size_toArray,hl,e]
 exact⟨.bl _,H,I.kept (t':=tk) fun b o eo=>kk b o (by simpa using Nat.ne_of_lt (Heap.lt_size eo)) (Heap.get?_push_of_some _ eo),rfl,q⟩
theorem boot_all:bootBuiltins "all"=some (.builtin "all"):=by decide +kernel
structure MkN (K:W.Frag)(C:Addr):Prop where
 makes:W.makesIn K C=true
 init:W.findIn K (.ref C) "__init__"=some (some (.builtin "object.__init__"))
 kp:W.keepIn K (.ref C)=true
def tMakeN (C:Addr):TE:=fun _ H Q=>∀x dx,H x=none->H dx=none->dx≠x->Q (.ref x) (upd (upd H dx (.own x)) x (.ins C dx []))
theorem pe_makeN {x:Str}{p pos:Pos}{C:Addr}(M:MkN X.K C)(hg:Gl X x)(hm:X.mg x=some (.ref C))(hdb:(x==("__debug__":Str))=false:=by decide):PE X (.Call (.Name x p) [] [] pos) (tMakeN C):=by
 intro pins s σ H Q I h
 refine wpAny_Call_Name_kw (ld_glob I hg hm ?_ hdb)
 refine W.callWith_K0 (first:=[]) I.kIn M.kp (wpAny_call ?_)
 have I2:=Inv.made (C:=C) I
 have hq:=h (s.heap.objs.size+1) s.heap.objs.size (I.hok.fresh (Nat.le_succ _)) (I.hok.fresh (Nat.le_refl _)) (Nat.ne_of_lt (Nat.lt_succ_self _))
 have Y:=W.makes_of (M:=model X.prog X.w) I.kIn M.makes
 obtain⟨hh,g,d,t,os⟩:=s
 refine make_map0 I.kIn M.makes M.init (fun self=>W.Looks.of_pure (W.oi_bind self)) ?_
 have e2:((hh.push W.emptyDict).push (W.instObj C hh.objs.size)).get? (hh.objs.size+1)=some (W.instObj C hh.objs.size):=by
  have:=Heap.get?_push_size (hh.push W.emptyDict) (o:=W.instObj C hh.objs.size) rfl
  rwa [Heap.size_push] at this
 have t1:W.Looks (model X.prog X.w) ((hh.push W.emptyDict).push (W.instObj C hh.objs.size)) (typeOf (.ref (hh.objs.size+1))) (.ref C):=(W.Looks.ld e2).andThen .now
 have t2:W.Looks (model X.prog X.w) ((hh.push W.emptyDict).push (W.instObj C hh.objs.size)) (isInstance (.ref (hh.objs.size+1)) (.type "object")) true:=t1.andThen (Y.top.keeps fun b o e=>Heap.get?_push_of_some _ (Heap.get?_push_of_some _ e))
 refine codeAny_call_builtin W.oi_plain W.entry_oi (@W.check_slot (model X.prog X.w) _ _ _ "object.__init__" "object" "__init__" (.ref (hh.objs.size+1)) [] [] _ W.oi_kind W.oi_split t2 (W.oi_args (.ref (hh.objs.size+1))) ?_)
 rw[W.oi_run]
 exact wpAny_pure (And.intro rfl ⟨V.ref (hh.objs.size+1),_,I2,rfl,hq⟩)
def tMethD (P:Program)(w:World)(K:W.Frag)(mg:Str->Option Value)(base:Heap)(CX:CXT)(k:Nat)(m:Str)(E:XK)(ta:TE)(t:TA):TE:=fun σ H Q=>ta σ H fun x H1=>∃a C dx fs f fd ps sp,x=.ref a/\H1 a=some (.ins C dx fs)/\fs.lookup m=none∧
 Cls K C/\Meth K C m f/\FnOk P w K mg base CX k f fd ps sp/\Binds K fd ps []/\t σ H1 fun vs H2=>sp (x::vs) H2 Q E
theorem pe_methD {CX:CXT}{k:Nat}{m:Str}{E:XK}{pos apos:Pos}{o e:Expr}{es:List Expr}{ta:TE}{t:TA}{pl:Sem Bool}(he:PE X o ta)(hr:Room k X.A)(hx:Passes CX X E)(ha:PA X (e::es) t)
  (hst:starEach (e::es) X.env=(false,eval e X.env)::starEach es X.env:=by rfl) (hpl:(backTo pos (starEach es X.env)).any (·.1)=false:=by rfl)
  (ht:eval (.Call (.Attribute o m apos) (e::es) [] pos) X.env=(do
   let ov ← eval o X.env
   standAt apos.atName
   let (f,first) ← holding [ov] (getMethod ov m pl)
   callWith pos f first (backTo pos (starEach (e::es) X.env)) (backToKw pos (keywordEach [] X.env))):=by rfl):
  PE X (.Call (.Attribute o m apos) (e::es) [] pos) (tMethD X.prog X.w X.K X.mg X.base CX k m E ta t):=by
 intro pins s σ H Q I h
 refine W.methodCall_KW (pl:=pl) (thn (he pins s σ H _ I h) fun u s1 ⟨x,H1,I1,rx,a,C,dx,fs,f,fd,ps,sp,ex,ea,l,c,hm,F,hb,q⟩=>?_) ht
 subst ex
 obtain rfl:u=Value.ref a:=rx
 refine getmeth_ok I1 ea c hm l ?_
 refine W.callWith_K (first:=[.ref a]) (h₀:=X.base) I.ok.mod.kin hm.kp (thn (ha pos pins s1 σ H1 _ I1 q) fun us s2 ⟨vs,H2,I2,r,q2⟩=>⟨I2.kIn,?_⟩) hst hpl
 exact run_fn (us:=.ref a::us) (vs:=.ref a::vs) (dvs:=[]) (ds:=[]) F hr hb .nil hx I2 (.cons rfl r) (by rw[List.append_nil];exact q2)
theorem pe_methD0 {CX:CXT}{k:Nat}{m:Str}{E:XK}{pos apos:Pos}{o:Expr}{ta:TE}{pl:Sem Bool}(he:PE X o ta)(hr:Room k X.A)(hx:Passes CX X E)
  (ht:eval (.Call (.Attribute o m apos) [] [] pos) X.env=(do
   let ov ← eval o X.env
   standAt apos.atName
   let (f,first) ← holding [ov] (getMethod ov m pl)
   callWith pos f first (backTo pos (starEach [] X.env)) (backToKw pos (keywordEach [] X.env))):=by rfl):
  PE X (.Call (.Attribute o m apos) [] [] pos) (tMethD X.prog X.w X.K X.mg X.base CX k m E ta tNil):=by
 intro pins s σ H Q I h
 refine W.methodCall_KW (pl:=pl) (thn (he pins s σ H _ I h) fun u s1 ⟨x,H1,I1,rx,a,C,dx,fs,f,fd,ps,sp,ex,ea,l,c,hm,F,hb,q⟩=>?_) ht
 subst ex
 obtain rfl:u=Value.ref a:=rx
 refine getmeth_ok I1 ea c hm l ?_
 exact W.callWith_K0 (first:=[.ref a]) I1.kIn hm.kp (run_fn (us:=[.ref a]) (vs:=[.ref a]) (dvs:=[]) (ds:=[]) F hr hb .nil hx I1 (.cons rfl .nil) q)
end
end L2
namespace HT
open PySem PySem.Spec PyProof.Rows
section
variable {prog:Program} {w:World} {A:Around} {E:Value->Shared->Prop} {s:Shared}
theorem getItem_tuple_whole {t sl:Addr}{items:Array Value}{vl vu:Value}{lo hi:Option Int}{Q:Value->Shared->Prop}(ht:IsTup s.heap t items)(hs:s.heap.IsSliceOf sl vl vu .none)(pl:IsPart vl lo)(pu:IsPart vu hi)
  (h1:sIx items.size 0 lo=0) (h2:sIx items.size items.size hi=items.size) (h:Q (.ref t) s):wpAny (model prog w) A (getItem (.ref t) (.ref sl)) Q E s:=by
 obtain⟨os,hos,hcs,hds⟩:=id hs
 have hTs:s.TypeIs (.ref sl) "slice":=⟨os,hos,hcs⟩
 unfold getItem
 try with_reducible refine wpAny_holding ?_
 first|refine wpAny_bind (wpAny_pure ?_)|skip
 refine wpAny_bind (wpAny_sequenceKey ht.typeIs (by decide) ?_)
 refine wpAny_bind (wpAny_callSpecial?_slot (name:=Str.ofString "__getitem__") ht.typeIs PyProof.Rows.slot_tuple_getitem
  (wpAny_call_entry PyProof.Rows.slot_tuple_getitem ht.typeIs entry_tuple_getitem ?_ (args_tuple_getitem _ _)))
 show wpAny _ _ (Builtin.Tuple.tupleItemsOf (.ref t) >>= _) _ _ s
 refine wpAny_bind (tupleItemsOf_ ht ?_)
 refine wpAny_bind (wpAny_typeOf hTs ?_)
 rw[if_pos (by decide)]
 refine wpAny_bind (sliceApplied_gen hs pl pu ?_)
 have hyes:(((sIx items.size 0 lo:Nat):Int)==0&&(1:Int)==1&&(sIx items.size items.size hi-sIx items.size 0 lo)==items.size)=true:=by
  rw[h1,h2]
  simp
 show wpAny _ _ (if (((sIx items.size 0 lo:Nat):Int)==0&&(1:Int)==1&&(sIx items.size items.size hi-sIx items.size 0 lo)==items.size)=true then _ else _) _ _ s
 rw[if_pos hyes]
 show wpAny _ _ (Builtin.Tuple.tupleIsExact (.ref t) >>= _) _ _ s
 refine wpAny_bind (wpAny_bind (wpAny_typeOf ht.typeIs (wpAny_pure ?_)))
 rw[if_pos (by decide)]
 refine wpAny_bind (wpAny_rule (wpAny_bind (wpAny_pure (wpAny_pure ⟨_,rfl,wpAny_pure h⟩))))
end
end HT
namespace L2
open PySem PySem.Spec PyProof.Rows
def rSlA:V->Option Int->Option Int->Hp->VK->Prop:=fun x lo hi H Q=>∃a xs,x=.ref a/\H a=some (.tup xs)/\∀p H',Same H H'->H' p=some (.tup (cutV xs lo hi))->Q (.ref p) H'
theorem sl_tupA {X:Cx}:SlR X rSlA:=by
 intro pins s σ H x v vl vu lo hi sl Q I rx hs pl pu h
 obtain⟨a,xs,rfl,hx,q⟩:=h
 by_cases hw:HT.sIx xs.length 0 lo=0/\HT.sIx xs.length xs.length hi=xs.length
 ·cases rx
  obtain⟨its,r,ht,hz⟩:=I.tuple (SqT.of hx)
  have hlen:its.toArray.size=xs.length:=by rw[List.size_toArray];exact r.length.symm
  refine⟨"tuple",_,PyProof.Rows.slot_tuple_getitem.lookup,ht.typeIs,?_⟩
  refine HT.getItem_tuple_whole ht hs pl pu (by rw[hlen];exact hw.1) (by rw[hlen];exact hw.2) ⟨.ref a,H,I,rfl,q a H (Same.refl H) ?_⟩
  have e:cutV xs lo hi=xs:=by
   unfold cutV
   rw[hw.1,hw.2,List.drop_zero,Nat.sub_zero,List.take_length]
  rw[e]
  exact hx
 ·exact sl_tup pins s σ H _ v vl vu lo hi sl Q I rx hs pl pu ⟨a,xs,rfl,SqT.of hx,hw,fun p hp=>q p _ ((Same.refl H).upd_free hp) upd_same⟩
end L2
namespace L2
open PySem PySem.Spec PyProof.Rows
def Itd (lo:Int)(n:Nat):It:=⟨fun i _=>i<n,fun i H x H'=>H'=H/\x=.int (lo-i),fun i _=>n<=i⟩
theorem turn_down {P:Program}{w:World}{K:W.Frag}{tg:Expr}(it:Addr)(lo:Int)(n:Nat):Turn P w K tg (Itd lo n) [it] it (fun i h=>IsRangeIter h it (lo+(i:Nat)*(-1)) ((n:Int)-(i:Nat)) (-1)) where
 mem:=by simp
 obj:=fun i h st b hb=>by
  have e:b=it:=by simpa using hb
  subst e
  exact⟨_,st,fun v z=>by
   have z':Data.fields _=Data.cell v:=z
   cases z'⟩
 keep:=fun i h h' st k=>k it (by simp) _ st
 item:=by
  intro X hP hw hK hc i pins s σ H E I hf st hg
  subst hP hw hK
  obtain⟨f0,f1,f2,f3,f4,f5⟩:=hf it (by simp)
  have W:=Walks.range (prog:=X.prog) (w:=X.w) (I.ok.hd hc) it lo (-1) n
  refine W.item i s _ _ hg st fun v h' tk hv st' kk=>?_
  obtain⟨t,rfl⟩:=hv
  have I1:Inv X pins σ H { s with heap:=h',toks:=tk }:=I.turned (fun b o hb e=>kk b o (by simpa using hb) e) f0 f1 f3 f4 f5
  refine⟨_,rfl,go_of (s:={ s with heap:=h',toks:=tk }) (n:="range_iterator") st' rfl rfl (by decide) ⟨.int (lo-i),H,I1,⟨t,?_⟩,⟨rfl,rfl⟩,st',fun b hb=>(hf b hb).1⟩⟩
  have e:lo+(i:Int)*(-1)=lo-(i:Int):=by omega
  rw[e]
 done:=by
  intro X hP hw hK hc i pins s σ H E I hf st hg
  subst hP hw hK
  obtain⟨f0,f1,f2,f3,f4,f5⟩:=hf it (by simp)
  exact wpAny_pyNext_range_end (I.ok.hd hc) st (by have:n<=i:=hg;omega) fun h' eb=>⟨rfl,I.turned (t':=s.toks) (fun b o hb e=>eb b o hb e) f0 f1 f3 f4 f5⟩
 self:=fun _ _ _ _ _ st h=>wpAny_pyIter_rangeiter st h
theorem rangeSize_down (a b:Int):Builtin.Range.rangeSize a b (-1)=if b<a then a-b else 0:=by
 unfold Builtin.Range.rangeSize
 rw[if_neg (by decide)]
 have e:(-(-1):Int)=1:=by decide
 rw[e,Int.ediv_one]
 by_cases h:b<a
 ·rw[if_pos h,if_pos h]
  omega
 ·rw[if_neg h,if_neg h]
theorem small_down {a b:Int}(ha:-(2 ^ 61)<=a)(ha':a<2 ^ 61)(hb:-(2 ^ 61)<=b)(hb':b<2 ^ 61):Builtin.Range.small a b (-1)=true:=by
 unfold Builtin.Range.small
 rw[rangeSize_down]
 simp only[Builtin.Range.rangeFitsLong,Bool.and_eq_true,Bool.or_eq_true,decide_eq_true_eq,beq_iff_eq,show ¬((-1:Int) > 0) by decide,if_false]
 split<;>omega
section
variable {X:Cx} {tg:Expr}
def iRngD (ta:TA):TI:=fun σ H R=>ta σ H fun vs H1=>∃i j:Int,vs=[.int i,.int j,.int (-1)]/\(-(2 ^ 61)<=i/\i<2 ^ 61/\-(2 ^ 61)<=j/\j<2 ^ 61)/\R (Itd i (i-j).toNat) H1
theorem pi_rangeD {a b c:Expr}{ta:TA}{p pos:Pos}(hg:Gl X "range")(hm:X.mg "range"=none)(ha:PA X [a,b,c] ta)(hs:starEach [a,b,c] X.env=[(false,eval a X.env),(false,eval b X.env),(false,eval c X.env)]:=by rfl)
  (hs2:starEach [b,c] X.env=[(false,eval b X.env),(false,eval c X.env)]:=by rfl):
  PI X tg (.Call (.Name "range" p) [a,b,c] [] pos) (iRngD ta):=by
 intro pins s σ H R I h
 refine Call_ (ld_blt I hg hm boot_range (PyProof.Rows.callWith_type1 (thn (ha pos pins s σ H _ I h) fun us s1 ⟨vs,H1,I1,r1,q1⟩=>?_) (by rw[hs,hs2]) (by rw[hs2];rfl)))
 obtain⟨i,j,e,⟨q1,q2,q3,q4⟩,q⟩:=q1
 subst e
 cases r1 with
 |cons r rr=>
  cases rr with
  |cons r' rr=>
   cases rr with
   |cons r'' rr=>
    cases rr
    obtain⟨t,rfl⟩:=r
    obtain⟨u,rfl⟩:=r'
    obtain⟨v,rfl⟩:=r''
    refine call_range_3 (by decide) ?_ (Or.inl (PyProof.noPylong_small (by decide)))
    refine wpAny_pyIter_range (IsRange.new ..) (small_down q1 q2 q3 q4) ?_
    have I2:Inv X pins σ H1 { s1 with heap:=s1.heap.push { cls:=.type "range",data:=.fields #[.int i t,.int j u,.int (-1) v] },toks:=s1.toks }:=I1.kept fun b o e=>Heap.get?_push_of_some _ e
    refine⟨(s1.heap.push { cls:=.type "range",data:=.fields #[.int i t,.int j u,.int (-1) v] }).objs.size,[(s1.heap.push { cls:=.type "range",data:=.fields #[.int i t,.int j u,.int (-1) v] }).objs.size],_,_,H1,rfl,
     I2.kept (t':=s1.toks) fun b o e=>Heap.get?_push_of_some _ e,turn_down _ i (i-j).toNat,?_,fun b hb=>?_,q⟩
    ·have e1:i+((0:Nat):Int)*(-1)=i:=by simp
     have e2:(((i-j).toNat:Nat):Int)-((0:Nat):Int)=Builtin.Range.rangeSize i j (-1):=by rw[rangeSize_down];split<;>omega
     show IsRangeIter _ _ (i+((0:Nat):Int)*(-1)) ((((i-j).toNat:Nat):Int)-((0:Nat):Int)) (-1)
     rw[e1,e2]
     exact Heap.get?_push_size _ rfl
    ·have e:b=(s1.heap.push { cls:=.type "range",data:=.fields #[.int i t,.int j u,.int (-1) v] }).objs.size:=by simpa using hb
     subst e
     exact I2.fpOk (Nat.le_refl _) (I2.hok.fresh (Nat.le_refl _))
end
theorem for_down {lo:Int}{n:Nat}{g:TG}{tb:TS}{D:Ends}{σ:St}{H:Hp}(Pv:Nat->St->Hp->Prop)(h0:Pv 0 σ H)
  (hs:∀i σ H,i<n->Pv i σ H->g (.int (lo-i)) σ H fun σ2 H2=>tb { D with nx:=Pv (i+1),ct:=Pv (i+1),bk:=D.nx } σ2 H2) (hd:∀σ H,Pv n σ H->D.nx σ H):
  ∃W:Nat->Nat->St->Hp->Prop,(∃m,W 0 m σ H)/\∀i m σ H,W i m σ H→
   ((Itd lo n).stop i H/\D.nx σ H)\/((Itd lo n).go i H/\∃N:St->Hp->Prop,(∀σ' H',N σ' H'->∃m',m'<m/\W (i+1) m' σ' H')/\∀x H',(Itd lo n).yld i H x H'->g x σ H' fun σ2 H2=>tb { D with nx:=N,ct:=N,bk:=D.nx } σ2 H2):=by
 refine⟨fun i m σ H=>m=n-i/\i<=n/\Pv i σ H,⟨n,by simp,Nat.zero_le _,h0⟩,?_⟩
 rintro i m σ H ⟨rfl,hi,p⟩
 by_cases hlt:i<n
 ·refine .inr ⟨hlt,Pv (i+1),fun σ' H' p'=>⟨n-(i+1),by omega,rfl,hlt,p'⟩,fun x H' y=>?_⟩
  obtain⟨e1,e2⟩:=y
  subst e1 e2
  exact hs i σ _ hlt p
 ·have e:i=n:=by omega
  subst e
  exact .inl ⟨Nat.le_refl _,hd σ H p⟩
end L2
namespace L2
open PySem PySem.Spec PyProof.Rows
section
variable {prog:Program} {w:World} {A:Around} {E:Value->Shared->Prop} {I:Addr} {fp wr:List Addr} {G:Array GenState->Array GenState->Prop} {n:Nat} {P:Nat->Value->Prop} {St:Nat->Shared->Prop}
theorem draw_walk (W:WalksS prog w A I fp wr G n P St):∀(k i:Nat) (s:Shared) (Q:List Value->Shared->Prop),i+k=n->St i s→
  (∀vs s',vs.length=k->(∀j v,vs[j]?=some v->P (i+j) v)->St n s'->Moved wr G s s'->Q vs s')->wpAny (model prog w) A (draw (.ref I) k) Q E s
 |0,i,s,Q,hk,st,hQ=>by
  have:i=n:=by omega
  subst this
  show wpAny _ _ (pure []) Q E s
  exact wpAny_pure (hQ [] s rfl (fun j v h=>by simp at h) st (Moved.refl W.grefl))
 |k+1,i,s,Q,hk,st,hQ=>by
  show wpAny _ _ (pyNext (.ref I) >>= _) Q E s
  refine wpAny_bind (W.item i s _ _ (by omega) st fun v s' hP st' hm=>?_)
  refine wpAny_bind (wpAny_holding (draw_walk W k (i+1) s' _ (by omega) st' fun vs s'' h1 h2 st'' hm'=>wpAny_pure ?_))
  refine hQ (v::vs) s'' (by rw[List.length_cons,h1]) (fun j u hj=>?_) st'' (Moved.trans W.gtrans hm hm')
  cases j with
  |zero=>rw[List.getElem?_cons_zero] at hj;cases hj;exact hP
  |succ j=>
   rw[List.getElem?_cons_succ] at hj
   have:=h2 j u hj
   rw[show i+(j+1)=i+1+j by omega]
   exact this
end
section
variable {prog:Program} {w:World} {A:Around} {E:Value->Shared->Prop} {s:Shared}
theorem unpackItems_list {t:Addr}{items:Array Value}{Q:List Value->Shared->Prop}(hh:A.handled=none)(ht:s.heap.IsList t items)
  (hQ:∀h' tk,(∀b o,b<s.heap.objs.size->s.heap.get? b=some o->h'.get? b=some o)->Q items.toList { s with heap:=h',toks:=tk }):wpAny (model prog w) A (unpackItems (.ref t) items.size none) Q E s:=by
 have hlt:t≠s.heap.objs.size:=by obtain⟨o,ho,_⟩:=ht;exact Nat.ne_of_lt (Heap.lt_size ho)
 have tT:s.TypeIs (.ref t) "list":=by obtain⟨o,ho,hc,_⟩:=ht;exact⟨o,ho,hc⟩
 unfold unpackItems
 refine wpAny_bind ?_
 unfold notIterableAtAll
 refine wpAny_bind (wpAny_specialOf tT PySem.F.slot_list_iter.lookup ?_)
 refine wpAny_pure ?_
 simp only[Bool.false_eq_true,if_false]
 refine wpAny_bind (wpAny_holding (wpAny_pyIter_list ht ?_))
 have W:=(Walks.list (prog:=prog) (w:=w) hh s.heap.objs.size t hlt items).toS
 refine wpAny_bind (wpAny_holding (draw_walk W items.size 0 _ _ (by omega) ⟨⟨_,Heap.get?_push_size _ rfl,rfl,rfl⟩,ht.push _⟩ fun vs s1 h1 h2 st1 m1=>?_))
 have hvs:vs=items.toList:=by
  apply List.ext_getElem?
  intro i
  have e0:items.toList[i]?=items[i]?:=Array.getElem?_toList ..
  rw[e0]
  cases e:vs[i]? with
  |none=>
   have:vs.length<=i:=by simpa using e
   rw[h1] at this
   rw[Array.getElem?_eq_none this]
  |some v=>
   have:=h2 i v e
   rw[Nat.zero_add] at this
   exact this.symm
 subst hvs
 rw[if_neg (by simp)]
 refine wpAny_bind (wpAny_holding (W.done s1 _ _ st1 fun s2 m2=>?_))
 simp only[Option.isSome_none,Bool.false_eq_true,if_false]
 obtain⟨h',g',d',tk',os'⟩:=s2
 have m:=Moved.trans W.gtrans m1 m2
 have eg:g'=s.gens:=m.gens
 have ed:d'=s.drawn:=m.drawn
 have eo:os'=s.os:=m.os
 subst eg;subst ed;subst eo
 refine wpAny_pure (hQ h' tk' fun b o hb e=>m.heap b o ?_ (Heap.get?_push_of_some _ e))
 intro hm
 have:b=s.heap.objs.size:=by simpa using hm
 omega
end
section
variable {X:Cx}
def gLst (K:W.Frag)(n:Nat)(t:TGs):TG:=fun v σ H Q=>∃a xs,v=.ref a/\SqL K H a xs/\xs.length=n/\t xs σ H Q
theorem pg_lst {es:List Expr}{k:Nat}{t:TGs}{n:Nat}{pos:Pos}(hc:X.calm=true)(h:PGs X es t)
  (hn:(assignEach es X.env).length=n:=by rfl) (hst:(assignEach es X.env).findIdx? (·.1)=none:=by rfl):PG X (.Tuple es k pos) (gLst X.K n t):=by
 intro pins s σ H v u Q I r hw
 obtain⟨a,xs,e1,hq,hl,hw⟩:=hw
 subst e1
 cases r
 obtain⟨its,rv,ht,hz⟩:=I.list hq
 rw[assign_Tuple]
 refine wpAny_bind (wpAny_standAt ?_)
 unfold unpack
 have e2:(assignEach es X.env).length=its.toArray.size:=by simp[hn,<- hl,rv.length]
 rw[e2,hst]
 refine wpAny_bind (wpAny_holding (unpackItems_list (I.ok.hd hc) ht.isList fun h' tk hx=>?_))
 have I1:Inv X pins σ H { s with heap:=h',toks:=tk }:=I.kept (t':=tk) fun b o e=>hx b o (Heap.lt_size e) e
 exact h pins _ σ H xs _ Q I1 (by simpa using rv) hw
end
end L2
namespace L2
open PySem PySem.Spec PyProof.Rows PySem.Builtin.Str
section
variable {X:Cx}
def rSplit:V->List V->Hp->VK->Prop:=fun x xs H Q=>∃z y:Str,x=.str z/\xs=[.str y]/\(y.length==0)=false/\z.length<=sizeLine/\(partsBetween z (occurrences z y 0 z.length (z.length+1)) y.length).length<=sizeLine∧
 (Txt.split z y).length<=sizeLine/\∀p,H p=none->Q (.ref p) (upd H p (.lst ((Txt.split z y).map V.str)))
theorem strs_vals:∀l:List (Str×Tok),Vals ((l.map (·.1)).map V.str) (strValues l)
 | []=>.nil
 | (x,t)::l=>.cons ⟨t,rfl⟩ (strs_vals l)
theorem mt_split:MtR X "str.split" rSplit:=by
 intro pins s σ H x xs v us Q I rx rs h
 obtain⟨z,y,rfl,rfl,hy,hz,hz2,hz3,q⟩:=h
 obtain⟨t,rfl⟩:=rx
 obtain⟨u0,rfl,ru⟩:=rs.one
 obtain⟨u,rfl⟩:=ru
 have fin:∀(l:List (Str×Tok)) (tk:Nat),l.map (·.1)=Txt.split z y->EP X pins σ Q (.ref s.heap.objs.size) { s with heap:=s.heap.push { cls:=.type "list",data:=.seq (strValues l).toArray },toks:=tk }:=fun l tk e=>by
  have hv:=strs_vals l
  rw[e] at hv
  exact⟨.ref _,_,I.lnew (t':=tk) hv (by rw[List.length_map];exact hz3),rfl,q _ I.fresh⟩
 cases h1:(decide (z.length<y.length)||decide (strKind z<strKind y))
 ·cases hf:(occurrences z y 0 z.length (z.length+1)).isEmpty
  ·refine call_meets F.slot_str_split (typeIs_str _ _ _) F.entry_str_split (F.args_str_split_2 _ _) (meets_str_split_sep z y t u h1 hy hf hz hz2) ?_
   show wants _ _ _ { s with toks:=_,heap:=s.heap.push { cls:=.type "list",data:=.seq (strsFrom s.toks (partsBetween z (occurrences z y 0 z.length (z.length+1)) y.length)).toArray } }
   rw[strsFrom_eq]
   exact fin (numbered s.toks _) _ ((numbered_texts _ _).trans ((if_neg (ne_true_of_eq_false h1)).trans (if_neg (ne_true_of_eq_false hf))).symm)
  ·exact call_meets F.slot_str_split (typeIs_str _ _ _) F.entry_str_split (F.args_str_split_2 _ _) (meets_str_split_not_found z y t u h1 hy hf) (fin [(z,t)] s.toks ((if_neg (ne_true_of_eq_false h1)).trans (if_pos hf)).symm)
 ·exact call_meets F.slot_str_split (typeIs_str _ _ _) F.entry_str_split (F.args_str_split_2 _ _) (meets_str_split_cannot_occur z y t u h1) (fin [(z,t)] s.toks (if_pos h1).symm)
def rStarts:V->List V->Hp->VK->Prop:=fun x xs H Q=>∃z y:Str,x=.str z/\xs=[.str y]/\Q (.bl (Txt.startswith z y)) H
theorem mt_starts:MtR X "str.startswith" rStarts:=by
 intro pins s σ H x xs v us Q I rx rs h
 obtain⟨z,y,rfl,rfl,q⟩:=h
 obtain⟨t,rfl⟩:=rx
 obtain⟨u0,rfl,ru⟩:=rs.one
 obtain⟨u,rfl⟩:=ru
 exact SC.startswith ⟨.bl _,H,I,rfl,q⟩
def rEnds:V->List V->Hp->VK->Prop:=fun x xs H Q=>∃z y:Str,x=.str z/\xs=[.str y]/\Q (.bl (Txt.endswith z y)) H
theorem mt_ends:MtR X "str.endswith" rEnds:=by
 intro pins s σ H x xs v us Q I rx rs h
 obtain⟨z,y,rfl,rfl,q⟩:=h
 obtain⟨t,rfl⟩:=rx
 obtain⟨u0,rfl,ru⟩:=rs.one
 obtain⟨u,rfl⟩:=ru
 exact SC.endswith ⟨.bl _,H,I,rfl,q⟩
theorem split_len (z y:Str):(Txt.split z y).length<=z.length+2:=by
 unfold Txt.split
 split
 ·show 1<=_
  omega
 ·split
  ·show 1<=_
   omega
  ·rw[length_partsBetween]
   have e1:=StrLaws.occ_length_le z y 0 z.length (z.length+1)
   omega
theorem parts_len (z y:Str):(partsBetween z (occurrences z y 0 z.length (z.length+1)) y.length).length<=z.length+2:=by
 rw[length_partsBetween]
 have e1:=StrLaws.occ_length_le z y 0 z.length (z.length+1)
 omega
end
end L2
namespace SL
open PySem PySem.Builtin.Str L2
def spStep (c:Nat)(s:List Str×Str)(x:Nat):List Str×Str:=if x=c then(s.1++[s.2],Str.empty) else(s.1,s.2++⟨#[x]⟩)
def spWalk (c:Nat)(l:List Nat):List Str×Str:=l.foldl (spStep c) ([],Str.empty)
def spl (c:Nat)(l:List Nat):List Str:=(spWalk c l).1++[(spWalk c l).2]
theorem spWalk_snoc (c:Nat)(l:List Nat)(x:Nat):spWalk c (l++[x])=spStep c (spWalk c l) x:=by
 unfold spWalk
 rw[List.foldl_append]
 rfl
theorem occ_one (z:Str)(c:Nat)(hi limit:Nat):∀(k i:Nat) (st:Array Nat×Nat),st.2<=i->st.1.size+k<=limit→
  (forIn (List.range' i k) st (StrLaws.occBody z ⟨#[c]⟩ hi limit)).run.fst.toList=st.1.toList++(List.range' i k).filter fun j=>decide (j+(⟨#[c]⟩:Str).length<=hi/\subAt z ⟨#[c]⟩ j=true)
 |0,i,st,_,_=>by
  rw[show List.range' i 0=[] from rfl,List.filter_nil,List.append_nil]
  rfl
 |k+1,i,st,h1,h2=>by
  rw[List.range'_succ,List.forIn_cons,List.filter_cons]
  unfold StrLaws.occBody
  by_cases hc:i+(⟨#[c]⟩:Str).length<=hi/\subAt z ⟨#[c]⟩ i=true
  ·rw[if_pos ⟨⟨⟨by omega,h1⟩,hc.1⟩,hc.2⟩,if_pos (decide_eq_true hc)]
   refine(occ_one z c hi limit k (i+1) (st.1.push i,i+1) (Nat.le_refl _) (by rw[Array.size_push];omega)).trans ?_
   rw[Array.toList_push,List.append_assoc]
   rfl
  ·rw[if_neg (fun y=>hc ⟨y.1.2,y.2⟩),if_neg (by rw[decide_eq_false hc];nofun)]
   exact occ_one z c hi limit k (i+1) st (by omega) (by omega)
def cutsTo (z:Str)(c k:Nat):List Nat:=(List.range' 0 k).filter fun j=>decide (z.cps.toList[j]?=some c)
theorem occ_cuts (z:Str)(c:Nat):occurrences z ⟨#[c]⟩ 0 z.length (z.length+1)=cutsTo z c z.length:=by
 rw[StrLaws.occ_eq,occ_one z c _ _ _ 0 (#[],0) (Nat.le_refl _) (by show 0+(z.length+1-0)<=_;omega)]
 show[]++_=_
 rw[List.nil_append,show z.length+1-0=z.length+1 from rfl,List.range'_concat,List.filter_append]
 unfold cutsTo
 have e:∀j,decide (j+(⟨#[c]⟩:Str).length<=z.length/\subAt z ⟨#[c]⟩ j=true)=decide (z.cps.toList[j]?=some c):=fun j=>decide_eq_decide.mpr (StrLaws.subAt_one z c j)
 have e2:z.cps.toList[z.length]?=none:=List.getElem?_eq_none (by rw[Array.length_toList];exact Nat.le_refl _)
 rw[show(fun j=>decide (j+(⟨#[c]⟩:Str).length<=z.length/\subAt z ⟨#[c]⟩ j=true))=(fun j=>decide (z.cps.toList[j]?=some c)) from funext e]
 rw[show 0+1*z.length=z.length by omega,List.filter_cons,if_neg (by rw[e2];nofun),List.filter_nil,List.append_nil]
inductive Cut (z:Str):List Nat->List Str->Nat->Prop where
 |nil:Cut z [] [] 0
 |snoc {cuts done b} (i:Nat):Cut z cuts done b->Cut z (cuts++[i]) (done++[strSub z b i]) (i+1)
def partsTo (z:Str)(cuts:List Nat)(last:Nat):List Str:=((0::cuts.map (· + 1)).zip (cuts++[last])).map fun p=>strSub z p.1 p.2
theorem Cut.parts {z:Str}{cuts:List Nat}{done:List Str}{b:Nat}(h:Cut z cuts done b):∀last,partsTo z cuts last=done++[strSub z b last]:=by
 induction h with
 |nil=>exact fun last=>rfl
 |snoc i h ih=>
  intro last
  unfold partsTo
  rw[List.map_append,<- List.cons_append,List.zip_append (by rw[List.length_cons,List.length_map,List.length_append];rfl),List.map_append]
  have q:=ih i
  unfold partsTo at q
  rw[q]
  rfl
theorem sub_nil (z:Str)(i:Nat):strSub z i i=Str.empty:=Str.ext' (by
 show z.cps.extract i i=#[]
 exact Array.eq_empty_of_size_eq_zero (by rw[Array.size_extract];omega))
theorem walk_cuts (z:Str)(c:Nat):∀k,k<=z.length->∃b,b<=k/\Cut z (cutsTo z c k) (spWalk c (z.cps.toList.take k)).1 b/\(spWalk c (z.cps.toList.take k)).2=strSub z b k
 |0,_=>⟨0,Nat.le_refl _,.nil,(sub_nil z 0).symm⟩
 |k+1,h=>by
  obtain⟨b,h1,h2,h3⟩:=walk_cuts z c k (by omega)
  have hk:k<z.cps.toList.length:=by rw[Array.length_toList];exact h
  have e:z.cps.toList.take (k+1)=z.cps.toList.take k++[z.cps.toList[k]]:=by
   rw[List.take_add_one,List.getElem?_eq_getElem hk]
   rfl
  have e1:z.cps.toList[k]?=some z.cps.toList[k]:=List.getElem?_eq_getElem hk
  have ec:cutsTo z c (k+1)=cutsTo z c k++(if z.cps.toList[k]=c then[k] else[]):=by
   unfold cutsTo
   rw[List.range'_concat,List.filter_append,show 0+1*k=k by omega,List.filter_cons,List.filter_nil,e1]
   by_cases hc:z.cps.toList[k]=c
   ·rw[if_pos (decide_eq_true (by rw[hc])),if_pos hc]
   ·rw[if_neg (by rw[decide_eq_false (fun y=>hc (by injection y))];nofun),if_neg hc]
  rw[e,spWalk_snoc,ec]
  unfold spStep
  by_cases hc:z.cps.toList[k]=c
  ·rw[if_pos hc,if_pos hc,h3]
   exact⟨k+1,Nat.le_refl _,.snoc k h2,(sub_nil z _).symm⟩
  ·rw[if_neg hc,if_neg hc,List.append_nil,h3]
   refine⟨b,by omega,h2,?_⟩
   have hs:k<z.cps.size:=h
   have eg:z.cps.getD k 0=z.cps.toList[k]:=by simp[Array.getD,hs]
   show _=strSub z b (k+1)
   rw[<- eg]
   exact(KWd.sub_snoc z h1 h).symm
theorem split_spl (z:Str){c:Nat}(hc:c<256):Txt.split z ⟨#[c]⟩=spl c z.cps.toList:=by
 have whole:partsTo z (cutsTo z c z.length) z.length=spl c z.cps.toList:=by
  obtain⟨b,_,h2,h3⟩:=walk_cuts z c z.length (Nat.le_refl _)
  have e:z.cps.toList.take z.length=z.cps.toList:=by
   rw[List.take_of_length_le (by rw[Array.length_toList];exact Nat.le_refl _)]
  rw[e] at h2 h3
  rw[h2.parts]
  unfold spl
  rw[h3]
 have none:cutsTo z c z.length=[]->[z]=spl c z.cps.toList:=fun h=>by
  rw[<- whole,h]
  show[z]=[strSub z 0 z.length]
  rw[show strSub z 0 z.length=z from Str.ext' (by show z.cps.extract 0 z.cps.size=z.cps;exact Array.extract_size)]
 unfold Txt.split
 rw[occ_cuts]
 split
 ·rename_i h
  refine none ?_
  rcases Bool.or_eq_true_iff.mp h with h|h
  ·have h:=of_decide_eq_true h
   have:z.length=0:=Nat.lt_one_iff.mp h
   rw[this]
   rfl
  ·have h:=of_decide_eq_true h
   have e:Builtin.Str.strKind ⟨#[c]⟩=1:=by
    unfold Builtin.Str.strKind
    rw[if_pos (by simp[hc])]
   rw[e] at h
   unfold Builtin.Str.strKind at h
   split at h
   ·omega
   ·split at h<;>omega
 ·split
  ·rename_i h
   exact none (List.isEmpty_iff.mp h)
  ·exact whole
end SL
namespace SL
open PySem L2
def FIG:Str:=Str.ofString "0123456789"
def SMA:Str:=Str.ofString "abcdefghijklmnopqrstuvwxyz"
def NAM:Str:=Str.ofString "abcdefghijklmnopqrstuvwxyz0123456789"
def MAR:Str:=Str.ofString "abcdefghijklmnopqrstuvwxyzABCDEFGHIJKLMNOPQRSTUVWXYZ0123456789.:-_/="
def hasC (S:Str)(c:Nat):Bool:=decide (c∈S.cps.toList)
def madeM (S z:Str):Bool:=z.cps.toList.all (hasC S)
def hd (z:Str):Nat:=z.cps.toList.headD 0
def isNum (z:Str):Bool:=decide (1<=z.length/\z.length<=9)&&(madeM FIG z&&(decide (z=Str.ofString "0")||!decide ((⟨#[hd z]⟩:Str)=Str.ofString "0")))
def isName (z:Str):Bool:=decide (1<=z.length/\z.length<=12)&&(hasC SMA (hd z)&&madeM NAM z)
def isItem (z:Str):Bool:=isNum z||isName z
def isList (z:Str):Bool:=(Txt.startswith z (Str.ofString "[")&&Txt.endswith z (Str.ofString "]"))&&(decide (z=Str.ofString "[]")||(decide ((Txt.split (Txt.slice z (some 1) (some (-1))) (Str.ofString ",")).length<=4)&&(Txt.split (Txt.slice z (some 1) (some (-1))) (Str.ofString ",")).all isItem))
def isMark (z:Str):Bool:=decide (1<=z.length/\z.length<=12)&&(madeM MAR z&&!isItem z)
inductive So where
 |num|nam|lis|mar
 deriving DecidableEq
def So.str:So->Str
 |.num=>Str.ofString "number" | .nam=>Str.ofString "name" | .lis=>Str.ofString "list" | .mar=>Str.ofString "mark"
def sortM (z:Str):Option So:=if isNum z then some .num else if isName z then some .nam else if isList z then some .lis else if isMark z then some .mar else none
def vS:Option So->V
 |none=>.non
 |some k=>.str k.str
end SL
namespace L2
open PySem PySem.Spec PyProof.Rows
section
variable {X:Cx}
theorem call_intT:CallR X (.type "int") (fun xs H Q=>∃z n,xs=[.str z]/\PySem.intText? z=some n/\z.length<=640/\Q (.int n) H):=by
 intro pins s σ H xs us Q I r h
 obtain⟨z,n,rfl,hn,hl,q⟩:=h
 obtain⟨u,rfl,rx⟩:=vals1 r
 obtain⟨t,rfl⟩:=rx
 exact W.KIN.call_text hn hl ⟨.int n,H,I.tok _,⟨_,rfl⟩,q⟩
theorem call_strI:CallR X (.type "str") (fun xs H Q=>∃n:Int,xs=[.int n]/\n.natAbs.log2<1920/\Q (.str (Str.ofString (toString n))) H):=by
 intro pins s σ H xs us Q I r h
 obtain⟨n,rfl,hn,q⟩:=h
 obtain⟨u,rfl,rx⟩:=vals1 r
 obtain⟨t,rfl⟩:=rx
 exact PySem.P.str_of_int hn ⟨.str _,H,I.tok _,⟨_,rfl⟩,q⟩
end
end L2
namespace SL
open PySem L2
theorem iteTK {c:Bool}{A B:Prop}(h:c=true)(a:A):if c=true then A else B:=by
 rw[if_pos h]
 exact a
theorem iteFK {c:Bool}{A B:Prop}(h:c=false)(b:B):if c=true then A else B:=by
 rw[h]
 exact iteF b
theorem len_sm {n:Nat}{z:Str}(h:Tx n z)(hn:n<=1000):z.length<=sizeLine:=Nat.le_of_lt (small1000 (Nat.le_trans h.1 hn))
theorem cps_len (z:Str):z.cps.toList.length=z.length:=by
 rw[Array.length_toList]
 rfl
theorem at0 {z:Str}(h:1<=z.length):atI z.cps.toList 0=some (hd z):=by
 have e:=cps_len z
 unfold hd
 cases g:z.cps.toList with
 |nil=>
  rw[g] at e
  have:z.length=0:=e.symm
  omega
 |cons c r=>
  exact atI_nat (j:=0) rfl
structure TS (mg:Str->Option Value):Prop where
 len:mg "len"=none
 all:mg "all"=none
 fig:∃u,mg "FIGURES"=some u/\RelV (.str FIG) u
 sma:∃u,mg "SMALL_LETTERS"=some u/\RelV (.str SMA) u
 nam:∃u,mg "NAME_SIGNS"=some u/\RelV (.str NAM) u
 mar:∃u,mg "MARK_SIGNS"=some u/\RelV (.str MAR) u
 mf:∃u,mg "MOST_FIGURES"=some u/\RelV (.int 9) u
 ms:∃u,mg "MOST_SIGNS"=some u/\RelV (.int 12) u
 mi:∃u,mg "MOST_ITEMS"=some u/\RelV (.int 4) u
def spMo:Sp:=fun vs H Q _=>∃(S z:Str),vs=[.str S,.str z]/\Tx 1000 z/\∀H',Same H H'->Q (.bl (madeM S z)) H'
def spTk (p:Str->Bool):Sp:=fun vs H Q _=>∃(v:V) (z:Str),vs=[v,.str z]/\Tx 1000 z/\∀H',Same H H'->Q (.bl (p z)) H'
def spWo (x:Str):Sp:=fun vs H Q _=>∃v:V,vs=[v]/\Q (.str x) H
def spIi:Sp:=fun vs H Q _=>∃z:Str,vs=[.str z]/\Tx 1000 z/\∀H',Same H H'->Q (.bl (isItem z)) H'
section
variable {P:Program} {w:World} {K:W.Frag} {mg:Str->Option Value} {base:Heap}
theorem scMo:FnScope ["signs","text"] ["signs","text"] (defScope sMo):=.of (by decide +kernel)
def scopeM:Scope:=⟨.function,[(".0",.local),("sign",.local),("signs",.free)],false,false,[]⟩
theorem scM:BlkScope (defScope sMo) ["signs","text"] ["sign"] ["signs"] [0] scopeM:=.of (by decide +kernel)
theorem ok_mo (F:Fun K "made_of" "made_of" sMo f fd)(T:TS mg):FnOk P w K mg base CX0 1 f fd ["signs","text"] spMo:=by
 refine F.ok scMo (fun vs H Q E h=>?_) (fun cdv A outer s H vs Q E hr h=>?_)
 ·obtain⟨S,z,rfl,_⟩:=h
  rfl
 ·obtain⟨S,z,rfl,tz,k⟩:=h
  refine⟨_,pss_one (ps_ret (pe_callB (call_allB rfl) (by rfl) T.all boot_all (pa_cons (pe_lc scM rfl rfl rfl (pi_str (pv 1)) (fun fp C s1 H1=>pg_name (i:=0) scM.nd rfl (Or.inl rfl)) (fun fp C s1 H1=>pts_nil)
   (fun fp C s1 H1=>pe_cmpR op_in_str (pv 0) (pv 1) (by with_unfolding_all rfl))) pa_nil))),?_⟩
  refine⟨_,rfl,z,1000,rfl,tz,fun D hD=>?_⟩
  refine lc_str (z:=z) (fun i ys H2=>ys=((z.cps.toList.take i).map (hasC S)).map V.bl/\Same H H2/\H2 D=some (.lst ys)) (len_sm tz (by decide)) ⟨rfl,(Same.refl H).upd_free hD,upd_same⟩
   (fun i ys H2 h=>by rw[h.1,List.length_map,List.length_map,List.length_take];exact Nat.min_le_left _ _) ?_ ?_
  ·rintro i ys H2 c N M hc ⟨rfl,s2,hD2⟩ hN hM
   refine⟨_,rfl,_,rfl,_,_,rfl,rfl,?_⟩
   rw[StrLaws.found_one]
   refine hN _ H2 hD2 ⟨?_,s2.upd_free hD,upd_same⟩
   have hc':z.cps.toList[i]?=some c:=by simpa using hc
   rw[List.take_add_one,hc',List.map_append,List.map_append]
   rfl
  ·rintro ys H2 ⟨rfl,s2,hD2⟩
   refine⟨D,_,rfl,SqL.of hD2,?_⟩
   rw[<- cps_len,List.take_length,List.all_map]
   exact k H2 s2
theorem scNt:FnScope ["self","text"] ["self","text"] (defScope sNt):=.of (by decide +kernel)
theorem ok_nt (F:Fun K "takes" "Number.takes" sNt f fd)(T:TS mg)(FM:Fun K "made_of" "made_of" sMo fM fdM)(bM:Binds K fdM ["signs","text"] [])(gM:mg "made_of"=some (.ref fM)):FnOk P w K mg base CX0 2 f fd ["self","text"] (spTk isNum):=by
 have GM:FnOk P w K mg base CX0 1 fM fdM ["signs","text"] spMo:=ok_mo FM T
 refine F.ok scNt (fun vs H Q E h=>?_) (fun cdv A outer s H vs Q E hr h=>?_)
 ·obtain⟨v,z,rfl,_⟩:=h
  rfl
 ·obtain⟨v,z,rfl,tz,k⟩:=h
  obtain⟨u1,g1,r1⟩:=T.mf
  obtain⟨u2,g2,r2⟩:=T.fig
  refine⟨_,pss_cons (ps_if (pt_not (pt_chain op_le op_le pe_int (pe_callB call_len_str (by rfl) T.len PySem.boot_len (pa_cons (pv 1) pa_nil)) (pe_glob (v:=.int 9) (by rfl) g1 r1))) (pss_one (ps_ret pe_bl)) pss_nil)
   (pss_one (ps_ret (pe_and (pe_call GM hr rfl gM FM.kp bM .nil pass0 (pa_cons (pe_glob (v:=.str FIG) (by rfl) g2 r2) (pa_cons (pv 1) pa_nil))) (pe_one (pe_or (pe_cmpR op_eq (pv 1) pe_str (nomark _)) (pe_one (pe_cmpR op_ne (pe_ix ix_str (pv 1) pe_int (fun _ _=>rfl)) pe_str (nomark _)))))))),?_⟩
  refine⟨_,rfl,z,rfl,len_sm tz (by decide),_,_,rfl,rfl,_,rfl,?_⟩
  have out:∀c:Bool,c=false->isNum z=c->Q (.bl false) H:=fun c hc e=>by
   have q:=k H (Same.refl H)
   rw[e,hc] at q
   exact q
  by_cases h1:1<=z.length
  ·refine iteTK (decide_eq_true (by omega)) ?_
   refine⟨_,_,rfl,rfl,_,rfl,?_⟩
   by_cases h2:z.length<=9
   ·refine iteFK (by rw[decide_eq_true (by omega)];rfl) ?_
    refine⟨_,rfl,FIG,z,rfl,tz,fun H1 s1=>⟨_,rfl,?_⟩⟩
    have ek:isNum z=(madeM FIG z&&(decide (z=Str.ofString "0")||!decide ((⟨#[hd z]⟩:Str)=Str.ofString "0"))):=by
     unfold isNum
     rw[decide_eq_true ⟨h1,h2⟩,Bool.true_and]
    have q:=k H1 s1
    rw[ek] at q
    cases hm:madeM FIG z with
    |false=>
     rw[hm] at q
     exact iteF q
    |true=>
     rw[hm,Bool.true_and] at q
     refine iteT ⟨_,rfl,rfl,_,rfl,?_⟩
     by_cases hz:z=Str.ofString "0"
     ·rw[decide_eq_true hz,Bool.true_or] at q
      exact iteTK (decide_eq_true (by rw[hz])) q
     ·rw[decide_eq_false hz,Bool.false_or] at q
      refine iteFK (decide_eq_false (fun y=>hz (by injection y))) ?_
      refine⟨_,rfl,_,_,hd z,rfl,rfl,len_sm tz (by decide),at0 h1,rfl,?_⟩
      have e2:decide (V.str (⟨#[hd z]⟩:Str)=V.str (Str.ofString "0"))=decide ((⟨#[hd z]⟩:Str)=Str.ofString "0"):=decide_eq_decide.mpr ⟨fun y=>by injection y,fun y=>by rw[y]⟩
      rw[e2]
      exact q
   ·refine iteTK (by rw[decide_eq_false (by omega)];rfl) ?_
    refine out _ rfl ?_
    unfold isNum
    rw[decide_eq_false (fun y=>h2 y.2)]
    rfl
  ·refine iteFK (decide_eq_false (by omega)) ⟨_,rfl,iteT ?_⟩
   refine out _ rfl ?_
   unfold isNum
   rw[decide_eq_false (fun y=>h1 y.1)]
   rfl
theorem scAt:FnScope ["self","text"] ["self","text"] (defScope sAt):=.of (by decide +kernel)
theorem ok_at (F:Fun K "takes" "Name.takes" sAt f fd)(T:TS mg)(FM:Fun K "made_of" "made_of" sMo fM fdM)(bM:Binds K fdM ["signs","text"] [])(gM:mg "made_of"=some (.ref fM)):FnOk P w K mg base CX0 2 f fd ["self","text"] (spTk isName):=by
 have GM:FnOk P w K mg base CX0 1 fM fdM ["signs","text"] spMo:=ok_mo FM T
 refine F.ok scAt (fun vs H Q E h=>?_) (fun cdv A outer s H vs Q E hr h=>?_)
 ·obtain⟨v,z,rfl,_⟩:=h
  rfl
 ·obtain⟨v,z,rfl,tz,k⟩:=h
  obtain⟨u1,g1,r1⟩:=T.ms
  obtain⟨u2,g2,r2⟩:=T.sma
  obtain⟨u3,g3,r3⟩:=T.nam
  refine⟨_,pss_cons (ps_if (pt_not (pt_chain op_le op_le pe_int (pe_callB call_len_str (by rfl) T.len PySem.boot_len (pa_cons (pv 1) pa_nil)) (pe_glob (v:=.int 12) (by rfl) g1 r1))) (pss_one (ps_ret pe_bl)) pss_nil)
   (pss_one (ps_ret (pe_and (pe_cmpR op_in_str (pe_ix ix_str (pv 1) pe_int (fun _ _=>rfl)) (pe_glob (v:=.str SMA) (by rfl) g2 r2) (by with_unfolding_all rfl)) (pe_one (pe_call GM hr rfl gM FM.kp bM .nil pass0 (pa_cons (pe_glob (v:=.str NAM) (by rfl) g3 r3) (pa_cons (pv 1) pa_nil))))))),?_⟩
  refine⟨_,rfl,z,rfl,len_sm tz (by decide),_,_,rfl,rfl,_,rfl,?_⟩
  have out:∀c:Bool,c=false->isName z=c->Q (.bl false) H:=fun c hc e=>by
   have q:=k H (Same.refl H)
   rw[e,hc] at q
   exact q
  by_cases h1:1<=z.length
  ·refine iteTK (decide_eq_true (by omega)) ?_
   refine⟨_,_,rfl,rfl,_,rfl,?_⟩
   by_cases h2:z.length<=12
   ·refine iteFK (by rw[decide_eq_true (by omega)];rfl) ?_
    refine⟨_,rfl,_,_,hd z,rfl,rfl,len_sm tz (by decide),at0 h1,_,_,rfl,rfl,?_⟩
    rw[StrLaws.found_one]
    have ek:isName z=(hasC SMA (hd z)&&madeM NAM z):=by
     unfold isName
     rw[decide_eq_true ⟨h1,h2⟩,Bool.true_and]
    have e1:decide (hd z∈SMA.cps.toList)=hasC SMA (hd z):=rfl
    rw[e1]
    refine⟨_,rfl,?_⟩
    cases hm:hasC SMA (hd z) with
    |false=>
     have q:=k H (Same.refl H)
     rw[ek,hm] at q
     exact iteF q
    |true=>
     refine iteT ⟨_,rfl,NAM,z,rfl,tz,fun H1 s1=>?_⟩
     have q:=k H1 s1
     rw[ek,hm,Bool.true_and] at q
     exact q
   ·refine iteTK (by rw[decide_eq_false (by omega)];rfl) ?_
    refine out _ rfl ?_
    unfold isName
    rw[decide_eq_false (fun y=>h2 y.2)]
    rfl
  ·refine iteFK (decide_eq_false (by omega)) ⟨_,rfl,iteT ?_⟩
   refine out _ rfl ?_
   unfold isName
   rw[decide_eq_false (fun y=>h1 y.1)]
   rfl
end
end SL
namespace SL
open PySem L2
structure Kd (K:W.Frag)(mg:Str->Option Value)(nm:Str)(C ft fw:Addr)(fdt fdw:FuncData):Prop where
 mkn:MkN K C
 g:mg nm=some (.ref C)
 cls:Cls K C
 mt:Meth K C "takes" ft
 bt:Binds K fdt ["self","text"] []
 mw:Meth K C "word" fw
 bw:Binds K fdw ["self"] []
section
variable {P:Program} {w:World} {K:W.Frag} {mg:Str->Option Value} {base:Heap}
theorem scIi:FnScope ["text"] ["text"] (defScope sIi):=.of (by decide +kernel)
theorem ok_ii (F:Fun K "is_item" "is_item" sIi f fd)
  (N:Kd K mg "Number" CN ftN fwN fdtN fdwN) (A:Kd K mg "Name" CA ftA fwA fdtA fdwA)
  (GN:FnOk P w K mg base CX0 2 ftN fdtN ["self","text"] (spTk isNum)) (GA:FnOk P w K mg base CX0 2 ftA fdtA ["self","text"] (spTk isName)):
  FnOk P w K mg base CX0 3 f fd ["text"] spIi:=by
 refine F.ok scIi (fun vs H Q E h=>?_) (fun cdv A1 outer s H vs Q E hr h=>?_)
 ·obtain⟨z,rfl,_⟩:=h
  rfl
 ·obtain⟨z,rfl,tz,k⟩:=h
  refine⟨_,pss_one (ps_ret (pe_or (pe_methD (CX:=CX0) (pe_makeN N.mkn rfl N.g) hr pass0 (pa_cons (pv 0) pa_nil)) (pe_one (pe_methD (CX:=CX0) (pe_makeN A.mkn rfl A.g) hr pass0 (pa_cons (pv 0) pa_nil))))),?_⟩
  intro x dx h1 h2 h3
  have s0:Same H (upd (upd H dx (.own x)) x (.ins CN dx [])):=((Same.refl H).upd_free h2).upd_free h1
  refine⟨x,CN,dx,[],ftN,fdtN,_,_,rfl,upd_same,rfl,N.cls,N.mt,GN,N.bt,_,rfl,.ref x,z,rfl,tz,fun H1 s1=>⟨_,rfl,?_⟩⟩
  cases e:isNum z with
  |true=>
   have q:=k H1 (s0.trans s1)
   unfold isItem at q
   rw[e] at q
   exact iteT q
  |false=>
   refine iteF ?_
   intro x2 dx2 g1 g2 g3
   have s2:Same H1 (upd (upd H1 dx2 (.own x2)) x2 (.ins CA dx2 [])):=((Same.refl H1).upd_free g2).upd_free g1
   refine⟨x2,CA,dx2,[],ftA,fdtA,_,_,rfl,upd_same,rfl,A.cls,A.mt,GA,A.bt,_,rfl,.ref x2,z,rfl,tz,fun H2 s3=>?_⟩
   have q:=k H2 (((s0.trans s1).trans s2).trans s3)
   unfold isItem at q
   rw[e,Bool.false_or] at q
   exact q
theorem scKt:FnScope ["self","text"] ["self","text"] (defScope sKt):=.of (by decide +kernel)
theorem ok_kt (F:Fun K "takes" "Mark.takes" sKt f fd)(T:TS mg)(FM:Fun K "made_of" "made_of" sMo fM fdM)(bM:Binds K fdM ["signs","text"] [])(gM:mg "made_of"=some (.ref fM))
  (FI:Fun K "is_item" "is_item" sIi fI fdI) (bI:Binds K fdI ["text"] []) (gI:mg "is_item"=some (.ref fI)) (GI:FnOk P w K mg base CX0 3 fI fdI ["text"] spIi):FnOk P w K mg base CX0 4 f fd ["self","text"] (spTk isMark):=by
 have GM:FnOk P w K mg base CX0 1 fM fdM ["signs","text"] spMo:=ok_mo FM T
 refine F.ok scKt (fun vs H Q E h=>?_) (fun cdv A outer s H vs Q E hr h=>?_)
 ·obtain⟨v,z,rfl,_⟩:=h
  rfl
 ·obtain⟨v,z,rfl,tz,k⟩:=h
  have hr1:Room 1 _:=hr.mono (by decide)
  obtain⟨u1,g1,r1⟩:=T.ms
  obtain⟨u2,g2,r2⟩:=T.mar
  refine⟨_,pss_cons (ps_if (pt_not (pt_chain op_le op_le pe_int (pe_callB call_len_str (by rfl) T.len PySem.boot_len (pa_cons (pv 1) pa_nil)) (pe_glob (v:=.int 12) (by rfl) g1 r1))) (pss_one (ps_ret pe_bl)) pss_nil)
   (pss_one (ps_ret (pe_and (pe_call GM hr1 rfl gM FM.kp bM .nil pass0 (pa_cons (pe_glob (v:=.str MAR) (by rfl) g2 r2) (pa_cons (pv 1) pa_nil))) (pe_one (pe_not (pe_call GI hr rfl gI FI.kp bI .nil pass0 (pa_cons (pv 1) pa_nil))))))),?_⟩
  refine⟨_,rfl,z,rfl,len_sm tz (by decide),_,_,rfl,rfl,_,rfl,?_⟩
  have out:∀c:Bool,c=false->isMark z=c->Q (.bl false) H:=fun c hc e=>by
   have q:=k H (Same.refl H)
   rw[e,hc] at q
   exact q
  by_cases h1:1<=z.length
  ·refine iteTK (decide_eq_true (by omega)) ?_
   refine⟨_,_,rfl,rfl,_,rfl,?_⟩
   by_cases h2:z.length<=12
   ·refine iteFK (by rw[decide_eq_true (by omega)];rfl) ?_
    refine⟨_,rfl,MAR,z,rfl,tz,fun H1 s1=>⟨_,rfl,?_⟩⟩
    have ek:isMark z=(madeM MAR z&&!isItem z):=by
     unfold isMark
     rw[decide_eq_true ⟨h1,h2⟩,Bool.true_and]
    cases hm:madeM MAR z with
    |false=>
     have q:=k H1 s1
     rw[ek,hm] at q
     exact iteF q
    |true=>
     refine iteT ⟨_,rfl,z,rfl,tz,fun H2 s2=>⟨_,rfl,?_⟩⟩
     have q:=k H2 (s1.trans s2)
     rw[ek,hm,Bool.true_and] at q
     exact q
   ·refine iteTK (by rw[decide_eq_false (by omega)];rfl) ?_
    refine out _ rfl ?_
    unfold isMark
    rw[decide_eq_false (fun y=>h2 y.2)]
    rfl
  ·refine iteFK (decide_eq_false (by omega)) ⟨_,rfl,iteT ?_⟩
   refine out _ rfl ?_
   unfold isMark
   rw[decide_eq_false (fun y=>h1 y.1)]
   rfl
end
end SL
namespace SL
open PySem L2
theorem walk_tx (c:Nat):∀(l:List Nat) (s:List Str×Str) (n:Nat),(∀x∈l,x<128)->(∀p∈s.1,Tx n p)->Tx n s.2->(∀p∈(l.foldl (spStep c) s).1,Tx (n+l.length) p)/\Tx (n+l.length) (l.foldl (spStep c) s).2
 | [],s,n,_,h1,h2=>⟨h1,h2⟩
 |x::l,s,n,h,h1,h2=>by
  rw[List.foldl_cons,List.length_cons,show n+(l.length+1)=(n+1)+l.length by omega]
  refine walk_tx c l _ (n+1) (fun y hy=>h y (List.mem_cons_of_mem _ hy)) ?_ ?_
  ·unfold spStep
   split
   ·intro p hp
    rcases List.mem_append.mp hp with hp|hp
    ·exact(h1 p hp).mono (Nat.le_succ _)
    ·rw[List.mem_singleton] at hp
     subst hp
     exact h2.mono (Nat.le_succ _)
   ·exact fun p hp=>(h1 p hp).mono (Nat.le_succ _)
  ·unfold spStep
   split
   ·exact⟨Nat.zero_le _,fun y hy=>by cases hy⟩
   ·exact h2.app (Tx.one (h x (List.mem_cons_self ..)))
theorem spl_tx {n:Nat}{z:Str}(c:Nat)(h:Tx n z):∀p∈spl c z.cps.toList,Tx n p:=by
 have q:=walk_tx c z.cps.toList ([],Str.empty) 0 h.2 (fun p hp=>by cases hp) ⟨Nat.zero_le _,fun y hy=>by cases hy⟩
 have e:0+z.cps.toList.length<=n:=by
  rw[cps_len]
  have:=h.1
  omega
 intro p hp
 unfold spl at hp
 rcases List.mem_append.mp hp with hp|hp
 ·exact(q.1 p hp).mono e
 ·rw[List.mem_singleton] at hp
  subst hp
  exact q.2.mono e
section
variable {P:Program} {w:World} {K:W.Frag} {mg:Str->Option Value} {base:Heap}
theorem scIt:FnScope ["self","text","pieces"] ["self","text"] (defScope sIt):=.of (by decide +kernel)
def scopeI:Scope:=⟨.function,[(".0",.local),("piece",.local),("is_item",.globalImplicit)],false,false,[]⟩
theorem scI:BlkScope (defScope sIt) ["self","text","pieces"] ["piece"] [] [] scopeI:=.of (by decide +kernel)
theorem ok_it (F:Fun K "takes" "Items.takes" sIt f fd)(T:TS mg)
  (FI:Fun K "is_item" "is_item" sIi fI fdI) (bI:Binds K fdI ["text"] []) (gI:mg "is_item"=some (.ref fI)) (GI:FnOk P w K mg base CX0 3 fI fdI ["text"] spIi):FnOk P w K mg base CX0 4 f fd ["self","text"] (spTk isList):=by
 refine F.ok scIt (fun vs H Q E h=>?_) (fun cdv A outer s H vs Q E hr h=>?_)
 ·obtain⟨v,z,rfl,_⟩:=h
  rfl
 ·obtain⟨v,z,rfl,tz,k⟩:=h
  obtain⟨u1,g1,r1⟩:=T.mi
  refine⟨_,pss_cons (ps_if (pt_not (PW.pt (pw_and (pt_val (pe_bm PySem.F.plainAttrs_str PySem.F.slot_str_startswith PySem.F.type_str_startswith mt_starts (pv 1) (pa_cons pe_str pa_nil))) (pw_and1 (pt_val (pe_bm PySem.F.plainAttrs_str PySem.F.slot_str_endswith PySem.F.type_str_endswith mt_ends (pv 1) (pa_cons pe_str pa_nil))))))) (pss_one (ps_ret pe_bl)) pss_nil)
   (pss_cons (ps_if (pt_cmpR op_eq (pv 1) pe_str (nomark _)) (pss_one (ps_ret pe_bl)) pss_nil)
   (pss_cons (ps_set (i:=2) scIt.nd rfl (Or.inl rfl) (pe_bm PySem.F.plainAttrs_str PySem.F.slot_str_split PySem.F.type_str_split mt_split (pe_slice sl_str (pv 1) (po_some pe_int) (po_some (pe_un un_neg pe_int))) (pa_cons pe_str pa_nil)))
   (pss_one (ps_ret (pe_and (pe_cmpR op_le (pe_callB call_len_seq (by rfl) T.len PySem.boot_len (pa_cons (pv 2) pa_nil)) (pe_glob (v:=.int 4) (by rfl) g1 r1) (nomark _))
    (pe_one (pe_callB (call_allB rfl) (by rfl) T.all boot_all (pa_cons (pe_lc scI rfl rfl rfl (pi_list (pv 2)) (fun fp C s1 H1=>pg_name (i:=0) scI.nd rfl (Or.inl rfl)) (fun fp C s1 H1=>pts_nil)
     (fun fp C s1 H1=>pe_call GI hr rfl gI FI.kp bI .nil pass0 (pa_cons (pv 0) pa_nil))) pa_nil)))))))),?_⟩
  have fal:isList z=false->Q (.bl false) H:=fun e=>by
   have q:=k H (Same.refl H)
   rw[e] at q
   exact q
  refine⟨_,rfl,rfl,z,_,rfl,rfl,_,rfl,?_⟩
  cases e1:Txt.startswith z (Str.ofString "[") with
  |false=>
   refine iteF (iteT (fal ?_))
   unfold isList
   rw[e1]
   rfl
  |true=>
   refine iteT ⟨_,rfl,rfl,z,_,rfl,rfl,_,rfl,?_⟩
   cases e2:Txt.endswith z (Str.ofString "]") with
   |false=>
    refine iteT (fal ?_)
    unfold isList
    rw[e1,e2]
    rfl
   |true=>
    refine iteF ⟨_,rfl,rfl,_,rfl,?_⟩
    by_cases hz:z=Str.ofString "[]"
    ·refine iteTK (decide_eq_true (by rw[hz])) ?_
     have q:=k H (Same.refl H)
     have e:isList z=true:=by
      unfold isList
      rw[e1,e2,decide_eq_true hz]
      rfl
     rw[e] at q
     exact q
    ·refine iteFK (decide_eq_false (fun y=>hz (by injection y))) ?_
     have tz':Tx 1000 (Txt.slice z (some 1) (some (-1))):=tz.slice _ _
     have l1:=split_len (Txt.slice z (some 1) (some (-1))) (Str.ofString ",")
     have l2:=parts_len (Txt.slice z (some 1) (some (-1))) (Str.ofString ",")
     have l3:=tz'.1
     have big:1002<=sizeLine:=by decide
     refine⟨_,rfl,_,rfl,_,rfl,_,rfl,z,rfl,len_sm tz (by decide),rfl,_,_,rfl,rfl,rfl,len_sm tz' (by decide),by omega,by omega,fun p hp=>?_⟩
     have tl:∀y∈Txt.split (Txt.slice z (some 1) (some (-1))) (Str.ofString ","),Tx 1000 y:=fun y hy=>by
      rw[show Str.ofString ","=(⟨#[44]⟩:Str) from rfl,split_spl _ (by decide)] at hy
      exact spl_tx 44 tz' y hy
     have ek:isList z=(decide ((Txt.split (Txt.slice z (some 1) (some (-1))) (Str.ofString ",")).length<=4)&&(Txt.split (Txt.slice z (some 1) (some (-1))) (Str.ofString ",")).all isItem):=by
      unfold isList
      rw[e1,e2,decide_eq_false hz]
      rfl
     generalize hL:Txt.split (Txt.slice z (some 1) (some (-1))) (Str.ofString ",")=L at hp l1 tl ek ⊢
     have s0:Same H (upd H p (.lst (L.map V.str))):=(Same.refl H).upd_free hp
     refine⟨_,rfl,p,_,rfl,.inl (SqL.of upd_same),_,_,rfl,rfl,_,rfl,?_⟩
     by_cases h4:L.length<=4
     ·refine iteTK (decide_eq_true (by rw[List.length_map];omega)) ?_
      refine⟨_,rfl,p,rfl,⟨_,SqL.of upd_same⟩,fun D hD=>?_⟩
      refine lc_list (K:=K) (a:=p) (xs:=L.map V.str) (fun i ys H2=>ys=((L.take i).map isItem).map V.bl/\Same (upd H p (.lst (L.map V.str))) H2/\H2 D=some (.lst ys)) (by rw[List.length_map];omega) ⟨rfl,(Same.refl _).upd_free hD,upd_same⟩
       (fun i ys H2 h=>by rw[h.1,List.length_map,List.length_map,List.length_take];exact Nat.min_le_left _ _) (fun i ys H2 h=>SqL.of (h.2.1 _ _ upd_same)) ?_ ?_
      ·rintro i ys H2 x N M hx ⟨rfl,s2,hD2⟩ hN hM
       rw[List.getElem?_map] at hx
       cases el:L[i]? with
       |none=>rw[el] at hx;cases hx
       |some y=>
        rw[el] at hx
        cases hx
        refine⟨_,rfl,y,rfl,tl y (List.mem_of_getElem? el),fun H3 s3=>hN _ H3 (s3 _ _ hD2) ⟨?_,(s2.trans s3).upd_free hD,upd_same⟩⟩
        rw[List.take_add_one,el,List.map_append,List.map_append]
        rfl
      ·rintro ys H2 ⟨rfl,s2,hD2⟩
       refine⟨D,_,rfl,SqL.of hD2,?_⟩
       have q:=k H2 (s0.trans s2)
       rw[ek,decide_eq_true h4,Bool.true_and] at q
       rw[List.length_map,List.take_length,List.all_map]
       exact q
     ·refine iteFK (decide_eq_false (by rw[List.length_map];omega)) ?_
      have q:=k _ s0
      rw[ek,decide_eq_false h4] at q
      exact q
end
end SL
namespace SL
open PySem L2
def SoAt (H:Hp)(C p:Addr):Prop:=∃dx,H p=some (.ins C dx [])
theorem SoAt.same {H H':Hp}{C p:Addr}(h:SoAt H C p)(s:Same H H'):SoAt H' C p:=by
 obtain⟨dx,h⟩:=h
 exact⟨dx,s _ _ h⟩
def restM (z:Str):Nat->Option So
 |0=>sortM z
 |1=>if isName z then some .nam else if isList z then some .lis else if isMark z then some .mar else none
 |2=>if isList z then some .lis else if isMark z then some .mar else none
 |3=>if isMark z then some .mar else none
 |_=>none
def spAl (C1 C2 C3 C4:Addr):Sp:=fun vs H Q _=>vs=[]/\∀(a x1 x2 x3 x4:Addr) H',Same H H'->SoAt H' C1 x1->SoAt H' C2 x2->SoAt H' C3 x3->SoAt H' C4 x4->H' a=some (.tup [.ref x1,.ref x2,.ref x3,.ref x4])->Q (.ref a) H'
def spSo:Sp:=fun vs H Q _=>∃z:Str,vs=[.str z]/\Tx 1000 z/\∀H',Same H H'->Q (vS (sortM z)) H'
structure SK (P:Program)(w:World)(K:W.Frag)(mg:Str->Option Value)(base:Heap)(C:Addr)(p:Str->Bool)(x:Str):Prop where
 cls:Cls K C
 tk:∃f fd,Meth K C "takes" f/\Binds K fd ["self","text"] []/\FnOk P w K mg base CX0 4 f fd ["self","text"] (spTk p)
 wd:∃f fd,Meth K C "word" f/\Binds K fd ["self"] []/\FnOk P w K mg base CX0 4 f fd ["self"] (spWo x)
section
variable {P:Program} {w:World} {K:W.Frag} {mg:Str->Option Value} {base:Heap}
theorem ok_wo {n q:Str}{st:Stmt}{x:Str}{p1 p2:Pos}{k0:Nat}(F:Fun K n q st f fd)(sc:FnScope ["self"] ["self"] (defScope st))(hb:defBody st=[.Return (some (.Constant (.str x) k0 p1)) p2]):FnOk P w K mg base CX0 1 f fd ["self"] (spWo x):=by
 refine F.ok sc (fun vs H Q E h=>?_) (fun cdv A outer s H vs Q E hr h=>?_)
 ·obtain⟨v,rfl,_⟩:=h
  rfl
 ·obtain⟨v,rfl,k⟩:=h
  rw[hb]
  exact⟨_,pss_one (ps_ret pe_str),k⟩
theorem scAl:FnScope [] [] (defScope sAl):=.of (by decide +kernel)
theorem ok_al (F:Fun K "all_sorts" "all_sorts" sAl f fd)
  (N:Kd K mg "Number" C1 t1 w1 ft1 fw1) (A:Kd K mg "Name" C2 t2 w2 ft2 fw2) (I:Kd K mg "Items" C3 t3 w3 ft3 fw3) (M:Kd K mg "Mark" C4 t4 w4 ft4 fw4):FnOk P w K mg base CX0 1 f fd [] (spAl C1 C2 C3 C4):=by
 refine F.ok scAl (fun vs H Q E h=>?_) (fun cdv A1 outer s H vs Q E hr h=>?_)
 ·rw[h.1]
  rfl
 ·obtain⟨rfl,k⟩:=h
  refine⟨_,pss_one (ps_ret (pe_tup (pa_cons (pe_makeN N.mkn rfl N.g) (pa_cons (pe_makeN A.mkn rfl A.g) (pa_cons (pe_makeN I.mkn rfl I.g) (pa_cons (pe_makeN M.mkn rfl M.g) pa_nil)))))),?_⟩
  intro x1 d1 a1 b1 _ x2 d2 a2 b2 _ x3 d3 a3 b3 _ x4 d4 a4 b4 _
  refine⟨(by show 4<=sizeLine;decide),fun p hp=>?_⟩
  have s1:=((Same.refl H).upd_free (o:=.own x1) b1).upd_free (o:=.ins C1 d1 []) a1
  have s2:=((Same.refl _).upd_free (o:=.own x2) b2).upd_free (o:=.ins C2 d2 []) a2
  have s3:=((Same.refl _).upd_free (o:=.own x3) b3).upd_free (o:=.ins C3 d3 []) a3
  have s4:=((Same.refl _).upd_free (o:=.own x4) b4).upd_free (o:=.ins C4 d4 []) a4
  have s5:=(Same.refl _).upd_free (o:=.tup [.ref x1,.ref x2,.ref x3,.ref x4]) hp
  refine k p x1 x2 x3 x4 _ ((((s1.trans s2).trans s3).trans s4).trans s5) ⟨d1,((s2.trans s3).trans (s4.trans s5)) _ _ upd_same⟩ ⟨d2,(s3.trans (s4.trans s5)) _ _ upd_same⟩ ⟨d3,(s4.trans s5) _ _ upd_same⟩ ⟨d4,s5 _ _ upd_same⟩ upd_same
theorem scSo:FnScope ["text","sort"] ["text"] (defScope sSo):=.of (by decide +kernel)
theorem ok_so (F:Fun K "sort_of" "sort_of" sSo f fd)(FA:Fun K "all_sorts" "all_sorts" sAl fA fdA)(bA:Binds K fdA [] [])(gA:mg "all_sorts"=some (.ref fA))(GA:FnOk P w K mg base CX0 1 fA fdA [] (spAl C1 C2 C3 C4))
  (S1:SK P w K mg base C1 isNum (So.str .num)) (S2:SK P w K mg base C2 isName (So.str .nam)) (S3:SK P w K mg base C3 isList (So.str .lis)) (S4:SK P w K mg base C4 isMark (So.str .mar)):FnOk P w K mg base CX0 5 f fd ["text"] spSo:=by
 refine F.ok scSo (fun vs H Q E h=>?_) (fun cdv A outer s H vs Q E hr h=>?_)
 ·obtain⟨z,rfl,_⟩:=h
  rfl
 ·obtain⟨z,rfl,tz,k⟩:=h
  have hr1:Room 1 _:=hr.mono (by decide)
  refine⟨_,pss_cons (ps_for PassesOwn.never rfl (pi_tup (pe_call0 GA hr1 rfl gA FA.kp bA .nil pass0)) (pg_name (i:=1) scSo.nd rfl (Or.inl rfl))
    (pss_one (ps_if (pt_val (pe_methD (CX:=CX0) (pv 1) hr pass0 (pa_cons (pv 0) pa_nil))) (pss_one (ps_ret (pe_methD0 (CX:=CX0) (pv 1) hr pass0))) pss_nil)))
   (pss_one (ps_ret pe_non)),?_⟩
  refine⟨rfl,fun a x1 x2 x3 x4 H1 s1 y1 y2 y3 y4 ha=>?_⟩
  refine⟨a,rfl,⟨_,SqT.of ha⟩,?_⟩
  refine for_tup (xs:=[.ref x1,.ref x2,.ref x3,.ref x4]) (fun i σ H2=>(∃v,σ=[some (.str z),v])/\Same H1 H2/\sortM z=restM z i) ⟨⟨none,rfl⟩,Same.refl _,rfl⟩ (fun i σ H2 _ h=>SqT.of (h.2.1 _ _ ha)) ?_ ?_
  ·rintro i x σ H2 hx ⟨⟨v,rfl⟩,s2,er⟩
   have row:∃(C y:Addr) (p:Str->Bool) (o:So),x=.ref y/\SoAt H2 C y/\SK P w K mg base C p o.str/\(p z=true->restM z i=some o)/\(p z=false->restM z i=restM z (i+1)):=by
    rcases i with _|_|_|_|i
    ·cases hx
     exact⟨C1,x1,isNum,.num,rfl,y1.same s2,S1,fun e=>if_pos e,fun e=>if_neg (by rw[e];nofun)⟩
    ·cases hx
     exact⟨C2,x2,isName,.nam,rfl,y2.same s2,S2,fun e=>if_pos e,fun e=>if_neg (by rw[e];nofun)⟩
    ·cases hx
     exact⟨C3,x3,isList,.lis,rfl,y3.same s2,S3,fun e=>if_pos e,fun e=>if_neg (by rw[e];nofun)⟩
    ·cases hx
     exact⟨C4,x4,isMark,.mar,rfl,y4.same s2,S4,fun e=>if_pos e,fun e=>if_neg (by rw[e];nofun)⟩
    ·cases hx
   obtain⟨C,y,p,o,rfl,⟨dx,hy⟩,S,hT,hF⟩:=row
   obtain⟨ft,fdt,mt,bt,ot⟩:=S.tk
   obtain⟨fw,fdw,mw,bw,ow⟩:=S.wd
   refine⟨_,rfl,y,C,dx,[],ft,fdt,_,_,rfl,hy,rfl,S.cls,mt,ot,bt,_,rfl,.ref y,z,rfl,tz,fun H3 s3=>⟨_,rfl,?_⟩⟩
   cases e:p z with
   |true=>
    refine iteT ⟨_,rfl,y,C,dx,[],fw,fdw,_,_,rfl,s3 _ _ hy,rfl,S.cls,mw,ow,bw,.ref y,rfl,?_⟩
    have q:=k H3 ((s1.trans s2).trans s3)
    rw[er,hT e] at q
    exact q
   |false=>exact iteF ⟨⟨_,rfl⟩,s2.trans s3,er.trans (hF e)⟩
  ·rintro σ H2 ⟨⟨v,rfl⟩,s2,er⟩
   have q:=k H2 (s1.trans s2)
   rw[er] at q
   exact q
end
end SL
namespace SL
open PySem L2
section
variable {P:Program} {w:World} {K:W.Frag} {mg:Str->Option Value} {base:Heap}
theorem scNw:FnScope ["self"] ["self"] (defScope sNw):=.of (by decide +kernel)
theorem scAw:FnScope ["self"] ["self"] (defScope sAw):=.of (by decide +kernel)
theorem scIw:FnScope ["self"] ["self"] (defScope sIw):=.of (by decide +kernel)
theorem scKw:FnScope ["self"] ["self"] (defScope sKw):=.of (by decide +kernel)
theorem sorts_ok {C1 C2 C3 C4 t1 w1 t2 w2 t3 w3 t4 w4 fMo fIi fAl fSo:Addr}{ft1 fw1 ft2 fw2 ft3 fw3 ft4 fw4 fdMo fdIi fdAl fdSo:FuncData}(T:TS mg)
  (N:Kd K mg "Number" C1 t1 w1 ft1 fw1) (A:Kd K mg "Name" C2 t2 w2 ft2 fw2) (I:Kd K mg "Items" C3 t3 w3 ft3 fw3) (M:Kd K mg "Mark" C4 t4 w4 ft4 fw4)
  (F1:Fun K "takes" "Number.takes" sNt t1 ft1) (G1:Fun K "word" "Number.word" sNw w1 fw1) (F2:Fun K "takes" "Name.takes" sAt t2 ft2) (G2:Fun K "word" "Name.word" sAw w2 fw2)
  (F3:Fun K "takes" "Items.takes" sIt t3 ft3) (G3:Fun K "word" "Items.word" sIw w3 fw3) (F4:Fun K "takes" "Mark.takes" sKt t4 ft4) (G4:Fun K "word" "Mark.word" sKw w4 fw4)
  (FMo:Fun K "made_of" "made_of" sMo fMo fdMo) (bMo:Binds K fdMo ["signs","text"] []) (gMo:mg "made_of"=some (.ref fMo))
  (FIi:Fun K "is_item" "is_item" sIi fIi fdIi) (bIi:Binds K fdIi ["text"] []) (gIi:mg "is_item"=some (.ref fIi))
  (FAl:Fun K "all_sorts" "all_sorts" sAl fAl fdAl) (bAl:Binds K fdAl [] []) (gAl:mg "all_sorts"=some (.ref fAl))
  (FSo:Fun K "sort_of" "sort_of" sSo fSo fdSo):FnOk P w K mg base CX0 5 fSo fdSo ["text"] spSo:=by
 have k1:FnOk P w K mg base CX0 2 t1 ft1 ["self","text"] (spTk isNum):=ok_nt F1 T FMo bMo gMo
 have k2:FnOk P w K mg base CX0 2 t2 ft2 ["self","text"] (spTk isName):=ok_at F2 T FMo bMo gMo
 have kI:FnOk P w K mg base CX0 3 fIi fdIi ["text"] spIi:=ok_ii FIi N A k1 k2
 have k3:FnOk P w K mg base CX0 4 t3 ft3 ["self","text"] (spTk isList):=ok_it F3 T FIi bIi gIi kI
 have k4:FnOk P w K mg base CX0 4 t4 ft4 ["self","text"] (spTk isMark):=ok_kt F4 T FMo bMo gMo FIi bIi gIi kI
 have o1:FnOk P w K mg base CX0 1 w1 fw1 ["self"] (spWo (So.str .num)):=ok_wo G1 scNw rfl
 have o2:FnOk P w K mg base CX0 1 w2 fw2 ["self"] (spWo (So.str .nam)):=ok_wo G2 scAw rfl
 have o3:FnOk P w K mg base CX0 1 w3 fw3 ["self"] (spWo (So.str .lis)):=ok_wo G3 scIw rfl
 have o4:FnOk P w K mg base CX0 1 w4 fw4 ["self"] (spWo (So.str .mar)):=ok_wo G4 scKw rfl
 exact ok_so FSo FAl bAl gAl (ok_al FAl N A I M)
  ⟨N.cls,⟨t1,ft1,N.mt,N.bt,k1.mono (by decide)⟩,⟨w1,fw1,N.mw,N.bw,o1.mono (by decide)⟩⟩
  ⟨A.cls,⟨t2,ft2,A.mt,A.bt,k2.mono (by decide)⟩,⟨w2,fw2,A.mw,A.bw,o2.mono (by decide)⟩⟩
  ⟨I.cls,⟨t3,ft3,I.mt,I.bt,k3⟩,⟨w3,fw3,I.mw,I.bw,o3.mono (by decide)⟩⟩
  ⟨M.cls,⟨t4,ft4,M.mt,M.bt,k4⟩,⟨w4,fw4,M.mw,M.bw,o4.mono (by decide)⟩⟩
end
end SL
namespace SL
open PySem L2
def okMark (z:Str):Prop:=1<=z.length/\z.length<=12/\madeM MAR z=true
def lisOf (xs:List Str):Str:=Str.ofString "["++Str.join (Str.ofString ",") xs++Str.ofString "]"
inductive Wd (z:Str):Prop where
 |mar (h:okMark z)
 |lis (xs:List Str) (h:xs.length<=4) (hi:∀x∈xs,isItem x=true) (e:z=lisOf xs)
def numS (z:Str):Bool:=madeM FIG z&&(decide (z.length<10)&&(decide (z=Str.ofString "0")||!decide ((⟨#[hd z]⟩:Str)=Str.ofString "0")))
def namS (z:Str):Bool:=hasC SMA (hd z)&&(z.cps.toList.filter fun c=>!hasC FIG c).all (hasC SMA)
def lawS (z:Str):So:=if (⟨#[hd z]⟩:Str)=Str.ofString "[" then .lis else if numS z then .num else if namS z then .nam else .mar
theorem app_list (y z:Str):(y++z).cps.toList=y.cps.toList++z.cps.toList:=by
 rw[Str.cps_append,Array.toList_append]
theorem one_inj {c d:Nat}(h:(⟨#[c]⟩:Str)=⟨#[d]⟩):c=d:=by
 injection h with h
 injection h with h
 injection h
theorem nam_or (c:Nat):hasC NAM c=(hasC SMA c||hasC FIG c):=by
 have e:NAM.cps.toList=SMA.cps.toList++FIG.cps.toList:=by decide +kernel
 unfold hasC
 rw[e]
 by_cases h1:c∈SMA.cps.toList
 ·rw[decide_eq_true h1,decide_eq_true (List.mem_append_left _ h1)]
  rfl
 ·by_cases h2:c∈FIG.cps.toList
  ·rw[decide_eq_true h2,decide_eq_true (List.mem_append_right _ h2),Bool.or_true]
  ·rw[decide_eq_false h1,decide_eq_false h2,decide_eq_false (fun y=>(List.mem_append.mp y).elim h1 h2)]
   rfl
theorem nam_all (l:List Nat):(l.filter fun c=>!hasC FIG c).all (hasC SMA)=l.all (hasC NAM):=by
 induction l with
 |nil=>rfl
 |cons c l ih=>
  rw[List.filter_cons,List.all_cons,nam_or]
  cases h:hasC FIG c with
  |true=>
   rw[if_neg (by nofun),ih,Bool.or_true,Bool.true_and]
  |false=>
   rw[if_pos (show(!false)=true from rfl),List.all_cons,ih,Bool.or_false]
theorem hd_mem {z:Str}(h:1<=z.length):hd z∈z.cps.toList:=by
 unfold hd
 have e:=cps_len z
 cases g:z.cps.toList with
 |nil=>
  rw[g] at e
  have:z.length=0:=e.symm
  omega
 |cons c r=>exact List.mem_cons_self ..
theorem made_hd {S z:Str}(h:1<=z.length)(m:madeM S z=true):hd z∈S.cps.toList:=of_decide_eq_true (List.all_eq_true.mp m _ (hd_mem h))
theorem starts_hd {z:Str}{c:Nat}(h:1<=z.length)(s:Txt.startswith z ⟨#[c]⟩=true):hd z=c:=by
 unfold Txt.startswith at s
 have s2:=(Bool.and_eq_true_iff.mp s).2
 have q:=(StrLaws.subAt_one z c 0).mp ⟨by show 0+1<=_;omega,s2⟩
 unfold hd
 cases g:z.cps.toList with
 |nil=>rw[g] at q;cases q
 |cons d r=>
  rw[g] at q
  cases q
  rfl
theorem sort_mark {z:Str}(h:okMark z):sortM z=some (lawS z):=by
 obtain⟨h1,h2,h3⟩:=h
 have hm:=made_hd h1 h3
 have nb:¬(⟨#[hd z]⟩:Str)=Str.ofString "[":=fun e=>by
  have e2:hd z=91:=one_inj e
  rw[e2] at hm
  revert hm
  decide +kernel
 have en:isNum z=numS z:=by
  unfold isNum numS
  by_cases h9:z.length<=9
  ·rw[decide_eq_true ⟨h1,h9⟩,decide_eq_true (show z.length<10 by omega),Bool.true_and,Bool.true_and]
  ·rw[decide_eq_false (fun y=>h9 y.2),decide_eq_false (show ¬z.length<10 by omega),Bool.false_and,Bool.false_and,Bool.and_false]
 have ea:isName z=namS z:=by
  unfold isName namS
  rw[decide_eq_true ⟨h1,h2⟩,Bool.true_and,nam_all]
  rfl
 have el:isList z=false:=by
  unfold isList
  cases hs:Txt.startswith z (Str.ofString "[") with
  |false=>rfl
  |true=>
   have q:=starts_hd (c:=91) h1 hs
   exact absurd (by rw[q];rfl) nb
 unfold sortM lawS
 rw[if_neg nb,en,ea,el]
 cases a:numS z with
 |true=>rfl
 |false=>
  cases b:namS z with
  |true=>rfl
  |false=>
   have em:isMark z=true:=by
    unfold isMark isItem
    rw[decide_eq_true ⟨h1,h2⟩,h3,en,ea,a,b]
    rfl
   rw[em]
   rfl
theorem item_plain {x:Str}(h:isItem x=true):1<=x.length/\x.length<=12/\madeM NAM x=true:=by
 unfold isItem at h
 rcases Bool.or_eq_true_iff.mp h with h|h
 ·unfold isNum at h
  have a:=of_decide_eq_true (Bool.and_eq_true_iff.mp h).1
  have b:=(Bool.and_eq_true_iff.mp (Bool.and_eq_true_iff.mp h).2).1
  refine⟨a.1,by omega,List.all_eq_true.mpr fun c hc=>?_⟩
  rw[nam_or,List.all_eq_true.mp b c hc,Bool.or_true]
 ·unfold isName at h
  have a:=of_decide_eq_true (Bool.and_eq_true_iff.mp h).1
  exact⟨a.1,a.2,(Bool.and_eq_true_iff.mp (Bool.and_eq_true_iff.mp h).2).2⟩
theorem item_comma {x:Str}(h:isItem x=true):∀c∈x.cps.toList,c≠44:=fun c hc e=>by
 have q:hasC NAM c=true:=List.all_eq_true.mp (item_plain h).2.2 c hc
 rw[e] at q
 revert q
 decide +kernel
theorem walk_plain (c:Nat):∀(l:List Nat) (s:List Str×Str),(∀x∈l,x≠c)->l.foldl (spStep c) s=(s.1,s.2++⟨l.toArray⟩)
 | [],s,_=>by
  have e:s.2++(⟨#[]⟩:Str)=s.2:=Str.ext' (by rw[Str.cps_append];exact Array.append_empty)
  rw[show([]:List Nat).toArray=#[] from rfl,e]
  rfl
 |x::l,s,h=>by
  rw[List.foldl_cons,walk_plain c l _ fun y hy=>h y (List.mem_cons_of_mem _ hy)]
  unfold spStep
  rw[if_neg (h x (List.mem_cons_self ..))]
  refine Prod.ext rfl (Str.ext' ?_)
  show((s.2++⟨#[x]⟩)++(⟨l.toArray⟩:Str)).cps=(s.2++(⟨(x::l).toArray⟩:Str)).cps
  rw[Str.cps_append,Str.cps_append,Str.cps_append]
  apply Array.toList_inj.mp
  simp
theorem spl_join {c:Nat}:∀(xs:List Str) (d:List Str),xs≠[]->(∀x∈xs,∀k∈x.cps.toList,k≠c)→
  ((Str.join ⟨#[c]⟩ xs).cps.toList.foldl (spStep c) (d,Str.empty)).1++[((Str.join ⟨#[c]⟩ xs).cps.toList.foldl (spStep c) (d,Str.empty)).2]=d++xs
 | [],d,h,_=>absurd rfl h
 | [x],d,_,hx=>by
  rw[show Str.join ⟨#[c]⟩ [x]=x from rfl,walk_plain c _ _ (hx x (List.mem_cons_self ..))]
  have e:Str.empty++(⟨x.cps.toList.toArray⟩:Str)=x:=Str.ext' (by rw[Str.cps_append];exact(Array.empty_append).trans (Array.toArray_toList))
  show d++[Str.empty++(⟨x.cps.toList.toArray⟩:Str)]=_
  rw[e]
 |x::y::r,d,_,hx=>by
  have ej:Str.join ⟨#[c]⟩ (x::y::r)=x++⟨#[c]⟩++Str.join ⟨#[c]⟩ (y::r):=rfl
  have e:Str.empty++(⟨x.cps.toList.toArray⟩:Str)=x:=Str.ext' (by rw[Str.cps_append];exact(Array.empty_append).trans (Array.toArray_toList))
  rw[ej,app_list,app_list,List.foldl_append,List.foldl_append,walk_plain c _ _ (hx x (List.mem_cons_self ..))]
  have e2:([c]:List Nat).foldl (spStep c) (d,Str.empty++(⟨x.cps.toList.toArray⟩:Str))=(d++[x],Str.empty):=by
   rw[e]
   exact if_pos rfl
  rw[show(⟨#[c]⟩:Str).cps.toList=[c] from rfl,e2]
  have q:=spl_join (c:=c) (y::r) (d++[x]) (by nofun) fun z hz=>hx z (List.mem_cons_of_mem _ hz)
  rw[List.append_assoc] at q
  exact q
theorem split_join {xs:List Str}(h:xs≠[])(hi:∀x∈xs,isItem x=true):Txt.split (Str.join (Str.ofString ",") xs) (Str.ofString ",")=xs:=by
 rw[show Str.ofString ","=(⟨#[44]⟩:Str) from rfl,split_spl _ (by decide)]
 exact spl_join xs [] h fun x hx=>item_comma (hi x hx)
theorem slice_mid (x:Str):Txt.slice (Str.ofString "["++x++Str.ofString "]") (some 1) (some (-1))=x:=by
 have hl:(Str.ofString "["++x++Str.ofString "]").length=x.length+2:=by
  rw[Str.length_append,Str.length_append,show(Str.ofString "[").length=1 from rfl,show(Str.ofString "]").length=1 from rfl]
  omega
 have e1:Txt.slice (Str.ofString "["++x++Str.ofString "]") (some 1) (some (-1))=StrLaws.sliceText (Str.ofString "["++x++Str.ofString "]") (some 1) (some (-1)):=rfl
 rw[e1,StrLaws.sliceText_neg_hi _ _ (by decide) (by rw[hl];omega),StrLaws.sliceText_plain ⟨by decide,by rw[hl];omega,by rw[cps_len,hl];omega⟩,hl]
 refine Str.ext' (Array.toList_inj.mp ?_)
 rw[app_list,app_list]
 have e2:(-1+((x.length+2:Nat):Int)-1).toNat=x.cps.toList.length:=by rw[cps_len];omega
 rw[e2]
 show((([91]++x.cps.toList)++[93]).drop 1).take x.cps.toList.length=x.cps.toList
 rw[List.append_assoc]
 show(x.cps.toList++[93]).take x.cps.toList.length=_
 exact List.take_left' rfl
theorem lis_hd (xs:List Str):hd (lisOf xs)=91:=by
 unfold hd lisOf
 rw[app_list,app_list]
 rfl
theorem lis_len (xs:List Str):2<=(lisOf xs).length:=by
 unfold lisOf
 rw[Str.length_append,Str.length_append,show(Str.ofString "[").length=1 from rfl,show(Str.ofString "]").length=1 from rfl]
 omega
theorem sort_lis {xs:List Str}(h:xs.length<=4)(hi:∀x∈xs,isItem x=true):sortM (lisOf xs)=some (lawS (lisOf xs)):=by
 have l2:=lis_len xs
 have eh:=lis_hd xs
 have en:isNum (lisOf xs)=false:=by
  cases q:isNum (lisOf xs) with
  |false=>rfl
  |true=>
   unfold isNum at q
   have b:=made_hd (by omega) (Bool.and_eq_true_iff.mp (Bool.and_eq_true_iff.mp q).2).1
   rw[eh] at b
   revert b
   decide +kernel
 have ea:isName (lisOf xs)=false:=by
  unfold isName
  rw[eh,show hasC SMA 91=false by decide +kernel,Bool.false_and,Bool.and_false]
 have el:isList (lisOf xs)=true:=by
  unfold isList
  have e1:Txt.startswith (lisOf xs) (Str.ofString "[")=true:=by
   unfold lisOf
   rw[W.KAf.starts_left (by rw[Str.length_append];omega)]
   exact W.KT.starts_app _ _
  have e2:Txt.endswith (lisOf xs) (Str.ofString "]")=true:=W.KT.ends_app _ _
  rw[e1,e2]
  by_cases hx:xs=[]
  ·rw[hx]
   decide +kernel
  ·have es:Txt.slice (lisOf xs) (some 1) (some (-1))=Str.join (Str.ofString ",") xs:=slice_mid _
   rw[es,split_join hx hi,decide_eq_true h,List.all_eq_true.mpr hi,Bool.and_self,Bool.or_true]
   rfl
 unfold sortM lawS
 rw[en,ea,el,eh]
 rfl
end SL
namespace SL
open PySem L2
def Tn (n:Nat)(z:Str):Prop:=z.length<=n/\∀c∈z.cps.toList,c<128/\c≠32
theorem Tn.mono {n m:Nat}{z:Str}(h:Tn n z)(k:n<=m):Tn m z:=⟨Nat.le_trans h.1 k,h.2⟩
theorem Tn.app {n m:Nat}{y z:Str}(h:Tn n y)(k:Tn m z):Tn (n+m) (y++z):=by
 refine⟨by rw[Str.length_append];exact Nat.add_le_add h.1 k.1,fun c hc=>?_⟩
 have e:(y++z).cps=y.cps++z.cps:=rfl
 rw[e,Array.toList_append] at hc
 rcases List.mem_append.mp hc with q|q
 ·exact h.2 c q
 ·exact k.2 c q
theorem join_tn (sep:Str){n m:Nat}(hs:Tn m sep):∀{ys:List Str},(∀y∈ys,Tn n y)->Tn (ys.length*(n+m)) (Str.join sep ys)
 | [],_=>⟨Nat.zero_le _,fun c hc=>by
  have:c∈([]:List Nat):=hc
  simp at this⟩
 | [x],h=>by
  have q:Tn n (Str.join sep [x]):=h x List.mem_cons_self
  exact q.mono (by rw[List.length_singleton];omega)
 |x::y::r,h=>by
  have q:=join_tn sep hs (ys:=y::r) fun z hz=>h z (List.mem_cons_of_mem _ hz)
  have e:Str.join sep (x::y::r)=x++sep++Str.join sep (y::r):=rfl
  rw[e]
  refine(((h x List.mem_cons_self).app hs).app q).mono ?_
  simp only[List.length_cons,Nat.succ_mul]
  omega
theorem Tn.tx {n:Nat}{z:Str}(h:Tn n z):Tx n z:=⟨h.1,fun c hc=>(h.2 c hc).1⟩
end SL
namespace SL
open PySem L2
def txB (n:Nat)(z:Str):Bool:=decide (z.length<=n)&&z.cps.toList.all fun c=>decide (c<128/\c≠32)
theorem txK {n:Nat}{z:Str}(h:txB n z=true):Tn n z:=by
 unfold txB at h
 rw[Bool.and_eq_true] at h
 exact⟨of_decide_eq_true h.1,fun c hc=>of_decide_eq_true (List.all_eq_true.mp h.2 c hc)⟩
end SL
namespace SL
open PySem L2
theorem made_mem {S z:Str}(h:madeM S z=true):∀c∈z.cps.toList,c∈S.cps.toList:=fun c hc=>of_decide_eq_true (List.all_eq_true.mp h c hc)
theorem made_of_mem {S z:Str}(h:∀c∈z.cps.toList,c∈S.cps.toList):madeM S z=true:=List.all_eq_true.mpr fun c hc=>decide_eq_true (h c hc)
theorem made_app {S y z:Str}(h:madeM S y=true)(k:madeM S z=true):madeM S (y++z)=true:=made_of_mem fun c hc=>by
 rw[app_list] at hc
 exact(List.mem_append.mp hc).elim (made_mem h c) (made_mem k c)
theorem made_one {S:Str}{c:Nat}(h:c∈S.cps.toList):madeM S (⟨#[c]⟩:Str)=true:=made_of_mem fun d hd=>by
 have:d=c:=by simpa using hd
 rw[this]
 exact h
theorem made_sub {A S z:Str}(hA:madeM S A=true)(h:madeM A z=true):madeM S z=true:=made_of_mem fun c hc=>made_mem hA c (made_mem h c hc)
theorem mar_plain:∀c∈MAR.cps.toList,c<128/\c≠32:=by
 have e:MAR.cps.toList.all (fun c=>decide (c<128/\c≠32))=true:=by decide +kernel
 exact fun c hc=>of_decide_eq_true (List.all_eq_true.mp e c hc)
theorem okMark.tn {z:Str}(h:okMark z):Tn 12 z:=⟨h.2.1,fun c hc=>mar_plain c (made_mem h.2.2 c hc)⟩
theorem nam_mar:madeM MAR NAM=true:=by decide +kernel
theorem item_mark {x:Str}(h:isItem x=true):okMark x:=by
 have q:=item_plain h
 exact⟨q.1,q.2.1,made_sub nam_mar q.2.2⟩
theorem Wd.tn {z:Str}(h:Wd z):Tn 60 z:=by
 cases h with
 |mar h=>exact h.tn.mono (by decide)
 |lis xs h hi e=>
  subst e
  have tc:Tn 1 (Str.ofString ","):=txK (by decide +kernel)
  have tl:Tn 1 (Str.ofString "["):=txK (by decide +kernel)
  have tr:Tn 1 (Str.ofString "]"):=txK (by decide +kernel)
  have tj:=(join_tn (Str.ofString ",") tc (fun x hx=>(item_mark (hi x hx)).tn)).mono (m:=52) (by omega)
  exact((tl.app tj).app tr).mono (by decide)
theorem Wd.item {z:Str}(h:isItem z=true):Wd z:=.mar (item_mark h)
theorem sl_mem {z:Str}{lo hi:Option Int}:∀c∈(Txt.slice z lo hi).cps.toList,c∈z.cps.toList:=by
 intro c hc
 unfold Txt.slice at hc
 split at hc
 ·exact hc
 ·have hc':c∈((Builtin.Str.strSliceIndices lo hi 1 z.length).filterMap (z.cps[·]?)):=by simpa using hc
  obtain⟨j,_,e⟩:=List.mem_filterMap.mp hc'
  have:=Array.mem_of_getElem? e
  simpa using this
theorem sl_to_len {z:Str}{a:Int}(h0:0<=a)(h1:a<=(z.length:Int)):(Txt.slice z none (some a)).length=a.toNat:=by
 have hl:z.cps.toList.length=z.length:=by simp[Str.length]
 have e1:Txt.slice z none (some a)=⟨((z.cps.toList.drop 0).take (a-0).toNat).toArray⟩:=StrLaws.sliceText_to ⟨h0,by rw[hl];exact h1⟩
 rw[e1]
 show((z.cps.toList.drop 0).take (a-0).toNat).toArray.size=_
 rw[List.size_toArray,List.length_take,List.length_drop,hl]
 omega
theorem sl_from_len {z:Str}{a:Int}(h0:0<=a)(h1:a<=(z.length:Int)):(Txt.slice z (some a) none).length=z.length-a.toNat:=by
 have hl:z.cps.toList.length=z.length:=by simp[Str.length]
 have e2:Txt.slice z (some a) none=⟨((z.cps.toList.drop a.toNat).take ((z.cps.toList.length:Int)-a).toNat).toArray⟩:=StrLaws.sliceText_from ⟨h0,by rw[hl];exact h1⟩
 rw[e2]
 show((z.cps.toList.drop a.toNat).take ((z.cps.toList.length:Int)-a).toNat).toArray.size=_
 rw[List.size_toArray,List.length_take,List.length_drop,hl]
 omega
theorem name_of {d:Nat}{y:Str}(hd:d∈SMA.cps.toList)(hy:madeM NAM y=true)(l:y.length<=11):isName ((⟨#[d]⟩:Str)++y)=true:=by
 have hF:madeM NAM SMA=true:=by decide +kernel
 have el:((⟨#[d]⟩:Str)++y).length=1+y.length:=by rw[Str.length_append];rfl
 have eh:SL.hd ((⟨#[d]⟩:Str)++y)=d:=by
  unfold SL.hd
  rw[app_list]
  rfl
 unfold isName
 rw[decide_eq_true ⟨by omega,by omega⟩,made_app (made_one (made_mem hF d hd)) hy,eh,show hasC SMA d=true from decide_eq_true hd]
 rfl
end SL
namespace L2
open PySem
def rIsin (K:W.Frag):List V->Hp->VK->Prop:=fun xs H Q=>∃x n t b,xs=[x,.ty n]/\TyOf K H x t/\W.kitOne K t (.type n)=some b/\Q (.bl b) H
theorem call_isin {X:Cx}:CallR X (.builtin "isinstance") (rIsin X.K):=call_isinst
end L2
namespace QL
open PySem L2
structure Txt (mg:Str->Option Value):Prop where
 len:mg "len"=none
 range:mg "range"=none
 tuple:mg "tuple"=none
 isin:mg "isinstance"=none
 str:mg "str"=none
 list:mg "list"=none
 int:mg "int"=none
 bool:mg "bool"=none
 all:mg "all"=none
 min:mg "min"=none
 max:mg "max"=none
theorem some_at {α:Type}(l:List α)(i:Int)(h0:0<=i)(h:i<(l.length:Int)):∃x,l[i.toNat]?=some x:=by
 have h':i.toNat<l.length:=by omega
 exact⟨l[i.toNat],by simp[h']⟩
theorem atI_some {α:Type}(l:List α)(i:Int)(h0:0<=i)(h:i<(l.length:Int)):∃x,x∈l/\atI l i=some x:=by
 obtain⟨x,e⟩:=some_at l i h0 h
 refine⟨x,List.mem_of_getElem? e,?_⟩
 have z:i=((i.toNat:Nat):Int):=by omega
 rw[z]
 exact atI_nat e
def txB (n:Nat)(z:Str):Bool:=decide (z.length<=n)&&z.cps.toList.all fun c=>decide (c<128)
theorem txK {n:Nat}{z:Str}(h:txB n z=true):Tx n z:=by
 unfold txB at h
 rw[Bool.and_eq_true] at h
 exact⟨of_decide_eq_true h.1,fun c hc=>of_decide_eq_true (List.all_eq_true.mp h.2 c hc)⟩
theorem ifb {c:Bool}{A B:Prop}(h1:A)(h2:B):if c=true then A else B:=by
 cases c with
 |true=>exact iteT h1
 |false=>exact iteF h2
theorem log_ok {i:Int}(h0:0<=i)(h1:i<10 ^ 10):i.natAbs.log2<1920:=by
 by_cases z:i.natAbs=0
 ·rw[z]
  decide
 ·have q:i.natAbs.log2<34:=(Nat.log2_lt z).mpr (by
   have:i.natAbs<10 ^ 10:=by omega
   exact Nat.lt_trans this (by decide))
  omega
theorem len_sm {n:Nat}{z:Str}(h:Tx n z)(hn:n<=1000):z.length<=sizeLine:=Nat.le_of_lt (small1000 (Nat.le_trans h.1 hn))
theorem len2_sm {n m:Nat}{y z:Str}(h:Tx n y)(k:Tx m z)(hn:n+m<=1000):y.length+z.length<=sizeLine:=Nat.le_of_lt (small1000 (Nat.le_trans (Nat.add_le_add h.1 k.1) hn))
theorem cps_len (z:Str):z.cps.toList.length=z.length:=by
 rw[Array.length_toList]
 rfl
theorem cut_mem {xs:List V}{lo hi:Option Int}{v:V}(h:v∈cutV xs lo hi):v∈xs:=by
 unfold cutV at h
 exact List.mem_of_mem_drop (List.mem_of_mem_take h)
theorem ints_at {K:W.Frag}{H:Hp}:∀ns:List Int,DsAt K H (ns.map V.int) (ns.map PyData.int)
 | []=>.nil
 |n::ns=>.cons (.int n) (ints_at ns)
theorem ints_lay:∀ns:List Int,PyData.canLayAll0 (ns.map PyData.int)=true
 | []=>rfl
 |n::ns=>by
  rw[List.map_cons,PyData.canLayAll0,ints_lay ns]
  rfl
theorem ints_depth:∀ns:List Int,PyData.depthAll (ns.map PyData.int)=0
 | []=>rfl
 |n::ns=>by
  rw[List.map_cons,PyData.depthAll,ints_depth ns]
  rfl
theorem intsL_ok (ns:List Int):DOk (.list (ns.map PyData.int)):=⟨ints_lay ns,by
 rw[PyData.depth,ints_depth]
 decide⟩
abbrev Ent:=Int×List Str
def EOk (e:Ent):Prop:=0<=e.1/\e.1<=8/\e.2.length<=8/\∀x∈e.2,Tx 60 x
def EntsAt (H:Hp)(qs:List Addr)(es:List Ent):Prop:=qs.length=es.length/\∀(i:Nat) (e:Ent),es[i]?=some e->∃q z,qs[i]?=some q/\H q=some (.tup [.int e.1,.ref z])/\H z=some (.tup (e.2.map V.str))
theorem EntsAt.nil {H:Hp}:EntsAt H [] []:=⟨rfl,fun i e h=>by simp at h⟩
theorem EntsAt.tsame {H H':Hp}{qs:List Addr}{es:List Ent}(h:EntsAt H qs es)(s:TSame H H'):EntsAt H' qs es:=⟨h.1,fun i r e=>by
 obtain⟨q,z,h1,h2,h3⟩:=h.2 i r e
 exact⟨q,z,h1,s _ _ h2,s _ _ h3⟩⟩
theorem EntsAt.snoc {H:Hp}{qs:List Addr}{fs:List Ent}{e:Ent}{q z:Addr}(h:EntsAt H qs fs)(h1:H q=some (.tup [.int e.1,.ref z]))(h2:H z=some (.tup (e.2.map V.str))):EntsAt H (qs++[q]) (fs++[e]):=by
 refine⟨by rw[List.length_append,List.length_append,h.1];rfl,fun i r er=>?_⟩
 by_cases hlt:i<fs.length
 ·rw[List.getElem?_append_left hlt] at er
  obtain⟨q',z',g1,g2,g3⟩:=h.2 i r er
  exact⟨q',z',by rw[List.getElem?_append_left (by rw[h.1];exact hlt)];exact g1,g2,g3⟩
 ·rw[List.getElem?_append_right (by omega)] at er
  have hi:i-fs.length=0:=by
   cases g:i-fs.length with
   |zero=>rfl
   |succ n=>rw[g] at er;simp at er
  rw[hi] at er
  cases er
  refine⟨q,z,?_,h1,h2⟩
  have:i=qs.length:=by rw[h.1];omega
  rw[this,List.getElem?_append_right (Nat.le_refl _),Nat.sub_self]
  rfl
def LogAt (H:Hp)(t:Addr)(es:List Ent):Prop:=∃qs,H t=some (.tup (qs.map V.ref))/\EntsAt H qs es
theorem LogAt.tsame {H H':Hp}{t:Addr}{es:List Ent}(h:LogAt H t es)(s:TSame H H'):LogAt H' t es:=by
 obtain⟨qs,h1,h2⟩:=h
 exact⟨qs,s _ _ h1,h2.tsame s⟩
theorem LogAt.same {H H':Hp}{t:Addr}{es:List Ent}(h:LogAt H t es)(s:Same H H'):LogAt H' t es:=h.tsame s.tups
def spCe (K:W.Frag):Sp:=fun vs H Q _=>∃(a:Addr) (ns:List Int) (k:Int),vs=[.ref a,.int k]/\SqL K H a (ns.map V.int)/\ns.length<=1000/\0<=k/\k<=2000/\∀(z:Int) (H':Hp),Same H H'->Q (.int z) H'
def spMi:Sp:=fun vs H Q _=>∃(c k:Int),vs=[.int c,.int k]/\0<=k/\k<=1000/\∀z:Int,0<=z->Q (.int z) H
def spLe:Sp:=fun vs H Q _=>∃c:Int,vs=[.int c]/\∀(l:Addr) (ns:List Int) (H':Hp),Same H H'->H' l=some (.lst (ns.map V.int))->ns.length=3->(∀x∈ns,0<=x/\x<=8)->Q (.ref l) H'
def spEn:Sp:=fun vs H Q _=>∃(c:Int) (a b:Addr) (ns:List Int) (ws:List Str),vs=[.int c,.ref a,.ref b]/\H a=some (.lst (ns.map V.int))/\ns.length=3/\(∀x∈ns,0<=x/\x<=8)/\H b=some (.lst (ws.map V.str))/\ws.length=5/\(∀x∈ws,Tx 60 x)∧
 ∀(q z:Addr) (e:Ent) (H':Hp),Same H H'->H' q=some (.tup [.int e.1,.ref z])->H' z=some (.tup (e.2.map V.str))->EOk e->Q (.ref q) H'
def spLg (K:W.Frag):Sp:=fun vs H Q _=>∃(s a b:Addr) (cs ns:List Int) (ws:List Str),vs=[.ref s,.ref a,.ref b]/\SqL K H s (cs.map V.int)/\cs.length<=63/\H a=some (.lst (ns.map V.int))/\ns.length=3/\(∀x∈ns,0<=x/\x<=8)/\H b=some (.lst (ws.map V.str))/\ws.length=5/\(∀x∈ws,Tx 60 x)∧
 ∀(t:Addr) (es:List Ent) (H':Hp),Same H H'->LogAt H' t es->es.length<=63->(∀e∈es,EOk e)->Q (.ref t) H'
def spSa:Sp:=fun vs H Q _=>(vs=[.non,.non]/\Q (.bl true) H)\/∃(t d:Addr) (ms:List Int),vs=[.ref t,.ref d]/\H t=some (.tup (ms.map V.int))/\H d=some (.lst (ms.map V.int))/\ms.length<=1000/\∀H',Same H H'->Q (.bl true) H'
section
variable {P:Program} {w:World} {K:W.Frag} {mg:Str->Option Value} {base:Heap}
theorem scCe:FnScope ["_law_script","_law_k"] ["_law_script","_law_k"] (defScope sCe):=.of (by decide +kernel)
theorem ok_ce (F:Fun K "_law_cell_at" "_law_cell_at" sCe f fd)(T:Txt mg):FnOk P w K mg base CX0 1 f fd ["_law_script","_law_k"] (spCe K):=by
 refine F.ok scCe (fun vs H Q E h=>?_) (fun cdv A outer s H vs Q E hr h=>?_)
 ·obtain⟨a,ns,k,rfl,_⟩:=h
  rfl
 ·obtain⟨a,ns,k,rfl,hS,hln,k0,k1,kk⟩:=h
  refine⟨_,pss_cons (ps_if (pt_cmpR op_lt (pv 1) (pe_callB call_len_seq (by rfl) T.len PySem.boot_len (pa_cons (pv 0) pa_nil)) (nomark _)) (pss_one (ps_ret (pe_ix ix_list (pv 0) (pv 1) (fun _ _=>rfl)))) pss_nil)
   (pss_one (ps_ret (pe_op op_mod (pe_op op_mul (pe_op op_add (pe_op op_mod (pe_ix ix_list (pe_op op_catL (pv 0) (pe_lst (pa_cons pe_int pa_nil))) pe_int (fun _ _=>rfl)) pe_int) pe_int) (pe_op op_add (pe_op op_mul (pv 1) (pv 1)) pe_int)) pe_int))),?_⟩
  refine⟨_,rfl,_,rfl,a,_,rfl,.inl hS,_,_,rfl,rfl,_,rfl,?_⟩
  refine ite2 (fun hlt=>?_) (fun hge=>?_)
  ·have hlt':k<((ns.map V.int).length:Int):=of_decide_eq_true hlt
   obtain⟨x,hx,ex⟩:=atI_some (ns.map V.int) k k0 hlt'
   obtain⟨z,_,rfl⟩:=List.mem_map.mp hx
   exact⟨_,rfl,_,rfl,a,_,_,_,rfl,rfl,hS,ex,kk z H (Same.refl H)⟩
  ·refine⟨_,rfl,(by show 1<=sizeLine;decide),fun l hl=>?_⟩
   have s1:Same H (upd H l (.lst [.int 0])):=(Same.refl H).upd_free hl
   refine⟨a,l,_,_,rfl,rfl,s1.seq hS,SqL.of upd_same,?_,fun p hp=>?_⟩
   ·rw[List.length_map]
    exact Nat.le_of_lt (small9 (by show ns.length+1<=100000;omega))
   have s2:Same H (upd (upd H l (.lst [.int 0])) p (.lst (ns.map V.int++[.int 0]))):=s1.upd_free (s1.free hp)
   obtain⟨x,hx,ex⟩:=atI_some (ns.map V.int++[V.int 0]) 0 (Int.le_refl 0) (by simp)
   obtain⟨z,rfl⟩:∃z,x=V.int z:=by
    rcases List.mem_append.mp hx with q|q
    ·obtain⟨z,_,e⟩:=List.mem_map.mp q
     exact⟨z,e.symm⟩
    ·exact⟨0,by simpa using q⟩
   refine⟨p,_,_,.int z,rfl,rfl,SqL.of upd_same,ex,_,_,rfl,rfl,(by show(0:Int)<1000003;decide),_,_,rfl,rfl,_,rfl,_,rfl,_,_,rfl,rfl,.inl ⟨by omega,by omega⟩,_,_,rfl,rfl,_,_,rfl,rfl,.inl ⟨by omega,by omega⟩,_,_,rfl,rfl,(by show(0:Int)<2147483647;decide),kk _ _ s2⟩
theorem scMi:FnScope ["_law_cell","_law_k"] ["_law_cell","_law_k"] (defScope sMi):=.of (by decide +kernel)
theorem ok_mi (F:Fun K "_law_mix" "_law_mix" sMi f fd):FnOk P w K mg base CX0 1 f fd ["_law_cell","_law_k"] spMi:=by
 refine F.ok scMi (fun vs H Q E h=>?_) (fun cdv A outer s H vs Q E hr h=>?_)
 ·obtain⟨c,k,rfl,_⟩:=h
  rfl
 ·obtain⟨c,k,rfl,k0,k1,kk⟩:=h
  refine⟨_,pss_one (ps_ret (pe_op op_mod (pe_op op_mul (pe_op op_add (pe_op op_mod (pv 0) pe_int) pe_int) (pe_op op_add pe_int (pe_op op_mul (pe_op op_mul pe_int (pv 1)) (pv 1)))) pe_int)),?_⟩
  refine⟨_,rfl,_,_,rfl,rfl,(by show(0:Int)<1000000007;decide),_,_,rfl,rfl,_,rfl,_,_,rfl,rfl,.inl ⟨by decide,by decide⟩,_,rfl,_,_,rfl,rfl,.inl ⟨by omega,by omega⟩,_,_,rfl,rfl,_,_,rfl,rfl,.inl ⟨by omega,by omega⟩,_,_,rfl,rfl,(by show(0:Int)<2147483647;decide),?_⟩
  exact kk _ (Int.emod_nonneg _ (by decide))
theorem scPo:FnScope ["_law_cell","_law_other","_law_small","_law_size","_law_name","_law_k","_law_at","_law_turned","_law_number","_law_items"] ["_law_cell","_law_other"] (defScope sPo):=.of (by decide +kernel)
theorem scLe:FnScope ["_law_cell","_law_first"] ["_law_cell"] (defScope sLe):=.of (by decide +kernel)
theorem ok_le (F:Fun K "_law_letters" "_law_letters" sLe f fd):FnOk P w K mg base CX0 1 f fd ["_law_cell"] spLe:=by
 refine F.ok scLe (fun vs H Q E h=>?_) (fun cdv A outer s H vs Q E hr h=>?_)
 ·obtain⟨c,rfl,_⟩:=h
  rfl
 ·obtain⟨c,rfl,k⟩:=h
  refine⟨_,pss_cons (ps_set (i:=1) scLe.nd rfl (Or.inl rfl) (pe_op op_mod (pv 0) pe_int))
   (pss_one (ps_ret (pe_lst (pa_cons (pv 1) (pa_cons (pe_op op_mod (pe_op op_add (pe_op op_add (pv 1) pe_int) (pe_op op_mod (pe_op op_fdiv (pv 0) pe_int) pe_int)) pe_int) (pa_cons (pe_op op_mod (pe_op op_fdiv (pv 0) pe_int) pe_int) pa_nil)))))),?_⟩
  refine⟨_,rfl,_,_,rfl,rfl,(by show(0:Int)<9;decide),?_⟩
  refine⟨_,rfl,_,rfl,_,_,rfl,rfl,_,rfl,_,_,rfl,rfl,⟨by decide,by decide⟩,_,_,rfl,rfl,(by show(0:Int)<8;decide),_,_,rfl,rfl,_,_,rfl,rfl,(by show(0:Int)<9;decide),_,rfl,_,_,rfl,rfl,⟨by decide,by decide⟩,_,_,rfl,rfl,(by show(0:Int)<9;decide),(by show 3<=sizeLine;decide),fun l hl=>?_⟩
  refine k l [c%9,(c%9+1+c / 9%8)%9,c / 72%9] _ ((Same.refl H).upd_free hl) upd_same rfl fun x hx=>?_
  simp only[List.mem_cons,List.not_mem_nil,or_false] at hx
  rcases hx with rfl|rfl|rfl<;>omega
theorem scEn:FnScope ["_law_cell","_law_letters_here","_law_pool_here","_law_size"] ["_law_cell","_law_letters_here","_law_pool_here"] (defScope sEn):=.of (by decide +kernel)
def scopeE:Scope:=⟨.function,[(".0",.local),("_law_k",.local),("_law_mix",.globalImplicit),("_law_cell",.free),("_law_pool_here",.free)],false,false,[]⟩
theorem scE:BlkScope (defScope sEn) ["_law_cell","_law_letters_here","_law_pool_here","_law_size"] ["_law_k"] ["_law_cell","_law_pool_here"] [0,2] scopeE:=.of (by decide +kernel)
theorem ok_en (F:Fun K "_law_entry" "_law_entry" sEn f fd)(T:Txt mg)(FM:Fun K "_law_mix" "_law_mix" sMi fM fdM)(bM:Binds K fdM ["_law_cell","_law_k"] [])(gM:mg "_law_mix"=some (.ref fM)):
  FnOk P w K mg base CX0 2 f fd ["_law_cell","_law_letters_here","_law_pool_here"] spEn:=by
 have GM:FnOk P w K mg base CX0 1 fM fdM ["_law_cell","_law_k"] spMi:=ok_mi FM
 refine F.ok scEn (fun vs H Q E h=>?_) (fun cdv A outer s H vs Q E hr h=>?_)
 ·obtain⟨c,a,b,ns,ws,rfl,_⟩:=h
  rfl
 ·obtain⟨c,a,b,ns,ws,rfl,hA,nl,nb,hB,wl,wt,k⟩:=h
  refine⟨_,pss_cons (ps_set (i:=3) scEn.nd rfl (Or.inl rfl) (pe_op op_mod (pe_call GM hr rfl gM FM.kp bM .nil pass0 (pa_cons (pv 0) (pa_cons pe_int pa_nil))) pe_int))
   (pss_cons (ps_cut (ps_if (pt_cmpR op_eq (pe_op op_mod (pe_call GM hr rfl gM FM.kp bM .nil pass0 (pa_cons (pv 0) (pa_cons pe_int pa_nil))) pe_int) pe_int (nomark _)) (pss_one (ps_set (i:=3) scEn.nd rfl (Or.inl rfl) pe_int)) pss_nil))
   (pss_one (ps_ret (pe_tup (pa_cons (pe_ix ix_list (pv 1) (pe_op op_mod (pv 0) pe_int) (fun _ _=>rfl)) (pa_cons (pe_callTy call_tuple_of (by rfl) T.tuple PyProof.Rows.boot_tuple (pa_cons (pe_lc scE rfl rfl rfl (pi_range1 rfl T.range (pa_cons (pv 3) pa_nil)) (fun fp C s1 H1=>pg_name (i:=0) scE.nd rfl (Or.inl rfl)) (fun fp C s1 H1=>pts_nil)
    (fun fp C s1 H1=>pe_ix (r:=rIxL K) ix_list (pv 2) (pe_op op_mod (pe_call GM hr rfl gM FM.kp bM .nil pass0 (pa_cons (pv 1) (pa_cons (pe_op op_add (pv 0) pe_int) pa_nil))) pe_int) (fun _ _=>rfl))) pa_nil)) pa_nil)))))),?_⟩
  refine⟨_,rfl,c,1,rfl,by decide,by decide,fun z z0=>⟨_,_,rfl,rfl,(by show(0:Int)<4;decide),?_⟩⟩
  refine⟨fun σ' H'=>∃n:Int,0<=n/\n<=8/\H'=H/\σ'=[some (.int c),some (.ref a),some (.ref b),some (.int n)],?_,?_⟩
  ·refine⟨_,rfl,c,2,rfl,by decide,by decide,fun y y0=>⟨_,_,rfl,rfl,(by show(0:Int)<16;decide),rfl,_,rfl,?_⟩⟩
   refine ifb ⟨8,by decide,by decide,rfl,rfl⟩ ⟨z%4,by omega,by omega,rfl,rfl⟩
  rintro σ' H' ⟨n,n0,n1,rfl,rfl⟩
  obtain⟨x,hx,ex⟩:=atI_some (ns.map V.int) (c%3) (by omega) (by rw[List.length_map,nl];omega)
  obtain⟨fl,hfl,rfl⟩:=List.mem_map.mp hx
  refine⟨_,rfl,_,rfl,_,_,rfl,rfl,(by show(0:Int)<3;decide),a,_,_,_,rfl,rfl,SqL.of hA,ex,?_⟩
  refine⟨_,rfl,_,rfl,by omega,by omega,fun D hD=>?_⟩
  refine lc_range (n:=n.toNat) (fun j ys H3=>Same H' H3/\H3 D=some (.lst ys)/\ys.length=j/\∃zs:List Str,ys=zs.map V.str/\∀x∈zs,Tx 60 x) (Nat.le_of_lt (small1000 (by omega)))
   ⟨(Same.refl H').upd_free hD,upd_same,rfl,[],rfl,fun x hx=>by simp at hx⟩ (fun j ys H3 h=>Nat.le_of_eq h.2.2.1) ?_ ?_
  ·rintro j ys H3 N M hj ⟨u1,u2,u3,zs,rfl,u5⟩ hN hM
   refine⟨_,rfl,_,rfl,_,rfl,_,_,rfl,rfl,c,_,rfl,by omega,by omega,fun y y0=>⟨_,_,rfl,rfl,(by show(0:Int)<5;decide),?_⟩⟩
   obtain⟨x,hx,ex⟩:=atI_some (ws.map V.str) (y%5) (by omega) (by rw[List.length_map,wl];omega)
   obtain⟨sx,hsx,rfl⟩:=List.mem_map.mp hx
   refine⟨b,_,_,_,rfl,rfl,SqL.of (u1 _ _ hB),ex,?_⟩
   refine hN _ H3 u2 ⟨u1.upd_free hD,upd_same,by rw[List.length_append,List.length_singleton,u3],zs++[sx],by rw[List.map_append];rfl,fun x hx=>?_⟩
   rcases List.mem_append.mp hx with hx|hx
   ·exact u5 x hx
   ·rw[List.mem_singleton] at hx
    subst hx
    exact wt _ hsx
  ·rintro ys H3 ⟨u1,u2,u3,zs,rfl,u5⟩
   rw[List.length_map] at u3
   refine⟨D,_,rfl,.inl ⟨SqL.of u2,fun zt hzt=>⟨(by show 2<=sizeLine;decide),fun q hq=>?_⟩⟩⟩
   have v1:Same H3 (upd H3 zt (.tup (zs.map V.str))):=(Same.refl H3).upd_free hzt
   have nzq:zt≠q:=fun e=>by rw[e,upd_same] at hq;cases hq
   have v2:Same (upd H3 zt (.tup (zs.map V.str))) (upd (upd H3 zt (.tup (zs.map V.str))) q (.tup [.int fl,.ref zt])):=(Same.refl _).upd_free hq
   have hf:=nb fl hfl
   exact k q zt (fl,zs) _ ((u1.trans v1).trans v2) upd_same (v2 _ _ upd_same) ⟨hf.1,hf.2,by show zs.length<=8;omega,u5⟩
theorem scLg:FnScope ["_law_script","_law_letters_here","_law_pool_here"] ["_law_script","_law_letters_here","_law_pool_here"] (defScope sLg):=.of (by decide +kernel)
def scopeG:Scope:=⟨.function,[(".0",.local),("_law_cell",.local),("_law_entry",.globalImplicit),("_law_letters_here",.free),("_law_pool_here",.free)],false,false,[]⟩
theorem scG:BlkScope (defScope sLg) ["_law_script","_law_letters_here","_law_pool_here"] ["_law_cell"] ["_law_letters_here","_law_pool_here"] [1,2] scopeG:=.of (by decide +kernel)
theorem ok_lg (F:Fun K "_law_log" "_law_log" sLg f fd)(T:Txt mg)(FM:Fun K "_law_mix" "_law_mix" sMi fM fdM)(bM:Binds K fdM ["_law_cell","_law_k"] [])(gM:mg "_law_mix"=some (.ref fM))
  (FE:Fun K "_law_entry" "_law_entry" sEn fE fdE) (bE:Binds K fdE ["_law_cell","_law_letters_here","_law_pool_here"] []) (gE:mg "_law_entry"=some (.ref fE)):
  FnOk P w K mg base CX0 3 f fd ["_law_script","_law_letters_here","_law_pool_here"] (spLg K):=by
 have GE:FnOk P w K mg base CX0 2 fE fdE ["_law_cell","_law_letters_here","_law_pool_here"] spEn:=ok_en FE T FM bM gM
 refine F.ok scLg (fun vs H Q E h=>?_) (fun cdv A outer s H vs Q E hr h=>?_)
 ·obtain⟨sc,a,b,cs,ns,ws,rfl,_⟩:=h
  rfl
 ·obtain⟨sc,a,b,cs,ns,ws,rfl,hS,cl,hA,nl,nb,hB,wl,wt,k⟩:=h
  refine⟨_,pss_one (ps_ret (pe_callTy call_tuple_of (by rfl) T.tuple PyProof.Rows.boot_tuple (pa_cons (pe_lc scG rfl rfl rfl (pi_list (pe_slice sl_list (pv 0) (po_some pe_int) (po_some pe_int))) (fun fp C s1 H1=>pg_name (i:=0) scG.nd rfl (Or.inl rfl)) (fun fp C s1 H1=>pts_nil)
   (fun fp C s1 H1=>pe_call GE hr rfl gE FE.kp bE .nil pass0 (pa_cons (pv 0) (pa_cons (pv 1) (pa_cons (pv 2) pa_nil))))) pa_nil))),?_⟩
  refine⟨_,rfl,_,rfl,_,rfl,sc,_,rfl,hS,fun p hp=>?_⟩
  have s1:Same H (upd H p (.lst (cutV (cs.map V.int) (some 12) (some 63)))):=(Same.refl H).upd_free hp
  have cl2:(cutV (cs.map V.int) (some 12) (some 63)).length<=63:=by
   have:=cutV_length (cs.map V.int) (some 12) (some 63)
   rw[List.length_map] at this
   omega
  generalize hxs:cutV (cs.map V.int) (some 12) (some 63)=xs at s1 cl2
  refine⟨p,rfl,⟨_,SqL.of upd_same⟩,fun D hD=>?_⟩
  have npD:p≠D:=fun e=>by rw[e,upd_same] at hD;cases hD
  have hDH:H D=none:=s1.free hD
  refine lc_list (K:=K) (a:=p) (xs:=xs) (fun j ys H3=>∃(qs:List Addr) (es:List Ent),ys=qs.map V.ref/\Same H H3/\H3 p=some (.lst xs)/\H3 D=some (.lst ys)/\EntsAt H3 qs es/\es.length=j/\∀e∈es,EOk e) (Nat.le_of_lt (small1000 (by omega)))
   ⟨[],[],rfl,s1.upd_free hDH,by rw[upd_ne npD];exact upd_same,upd_same,.nil,rfl,fun e he=>by simp at he⟩ (fun j ys H3 ⟨qs,es,h1,_,_,_,h5,h6,_⟩=>by rw[h1,List.length_map,h5.1,h6];exact Nat.le_refl _) (fun j ys H3 ⟨_,_,_,_,h,_⟩=>SqL.of h) ?_ ?_
  ·rintro j ys H3 x N M hx ⟨qs,es,rfl,u1,hp3,u2,u3,u4,u5⟩ hN hM
   have hm:x∈cs.map V.int:=cut_mem (hxs▸List.mem_of_getElem? hx)
   obtain⟨c,_,rfl⟩:=List.mem_map.mp hm
   refine⟨_,rfl,_,rfl,_,rfl,c,a,b,ns,ws,rfl,u1 _ _ hA,nl,nb,u1 _ _ hB,wl,wt,fun q z e H4 v1 hq hz ok=>?_⟩
   have ts:TSame H4 (upd H4 D (.lst (qs.map V.ref++[.ref q]))):=TSame.upd_lst (fun _ _ e=>e) (v1 _ _ u2)
   refine hN _ H4 (v1 _ _ u2) ⟨qs++[q],es++[e],by rw[List.map_append];rfl,(u1.trans v1).upd_free hDH,by rw[upd_ne npD];exact v1 _ _ hp3,upd_same,((u3.tsame v1.tups).tsame ts).snoc (ts _ _ hq) (ts _ _ hz),by rw[List.length_append,List.length_singleton,u4],fun e' he'=>?_⟩
   rcases List.mem_append.mp he' with he'|he'
   ·exact u5 e' he'
   ·rw[List.mem_singleton] at he'
    subst he'
    exact ok
  ·rintro ys H3 ⟨qs,es,rfl,u1,hp3,u2,u3,u4,u5⟩
   refine⟨D,_,rfl,.inl ⟨SqL.of u2,fun t ht=>?_⟩⟩
   have v1:Same H3 (upd H3 t (.tup (qs.map V.ref))):=(Same.refl H3).upd_free ht
   exact k t es _ (u1.trans v1) ⟨qs,upd_same,u3.tsame v1.tups⟩ (by omega) u5
theorem scSa:FnScope ["_law_found",pDue] ["_law_found",pDue] (defScope sSa):=.of (by decide +kernel)
def scopeA:Scope:=⟨.function,[(".0",.local),("_law_m",.local),("isinstance",.globalImplicit),("int",.globalImplicit),("bool",.globalImplicit)],false,false,[]⟩
theorem scA:BlkScope (defScope sSa) ["_law_found",pDue] ["_law_m"] [] [] scopeA:=.of (by decide +kernel)
theorem ok_sa (F:Fun K "_law_same" "_law_same" sSa f fd)(T:Txt mg):FnOk P w K mg base CX0 1 f fd ["_law_found",pDue] spSa:=by
 refine F.ok scSa (fun vs H Q E h=>?_) (fun cdv A outer s H vs Q E hr h=>?_)
 ·rcases h with⟨rfl,_⟩|⟨t,d,ms,rfl,_⟩<;>rfl
 ·have hu:=hr.units
  refine⟨_,pss_cons (ps_if (pt_cmp (pc_isN (pv 1))) (pss_one (ps_ret (pe_cmp (pc_isN (pv 0))))) pss_nil)
   (pss_cons (ps_if (PW.pt (pw_or (pt_not (pt_val (pe_callB call_isinst (by rfl) T.isin PyProof.Rows.boot_isinstance (pa_cons (pv 0) (pa_cons (pe_bltn (v:=.ty "tuple") (by rfl) T.tuple PyProof.Rows.boot_tuple rfl) pa_nil)))))
    (pw_or1 (pt_cmpR (op_neD hu) (pe_callTy call_list_of (by rfl) T.list PyProof.Rows.boot_list (pa_cons (pv 0) pa_nil)) (pv 1) (nomark _))))) (pss_one (ps_ret pe_bl)) pss_nil)
   (pss_one (ps_ret (pe_callB (call_allB rfl) (by rfl) T.all boot_all (pa_cons (pe_lc scA rfl rfl rfl (pi_tup (pv 0)) (fun fp C s1 H1=>pg_name (i:=0) scA.nd rfl (Or.inl rfl)) (fun fp C s1 H1=>pts_nil)
    (fun fp C s1 H1=>pe_and (pe_callB (r:=rIsin K) call_isin (by rfl) T.isin PyProof.Rows.boot_isinstance (pa_cons (pv 0) (pa_cons (pe_bltn (v:=.ty "int") (by rfl) T.int PyProof.Rows.boot_int rfl) pa_nil)))
     (pe_one (pe_not (pe_callB (r:=rIsin K) call_isin (by rfl) T.isin PyProof.Rows.boot_isinstance (pa_cons (pv 0) (pa_cons (pe_bltn (v:=.ty "bool") (by rfl) T.bool PyProof.Rows.boot_bool rfl) pa_nil))))))) pa_nil))))),?_⟩
  rcases h with⟨rfl,k⟩|⟨t,d,ms,rfl,ht,hd,hlen,k⟩
  ·refine⟨_,rfl,_,rfl,iteT ?_⟩
   exact⟨_,rfl,k⟩
  ·refine⟨_,rfl,_,rfl,iteF ?_⟩
   refine⟨_,rfl,_,_,_,true,rfl,.tup ht,rfl,true,rfl,iteF ?_⟩
   refine⟨_,rfl,t,_,rfl,.inr (SqT.of ht),fun l hl=>?_⟩
   have s1:Same H (upd H l (.lst (ms.map V.int))):=(Same.refl H).upd_free hl
   refine⟨_,rfl,.list (ms.map PyData.int),.list (ms.map PyData.int),.lst (SqL.of upd_same) (ints_at ms),.lst (SqL.of (s1 _ _ hd)) (ints_at ms),intsL_ok ms,intsL_ok ms,_,rfl,?_⟩
   have er:PyData.eqv (.list (ms.map PyData.int)) (.list (ms.map PyData.int))=true:=PySem.SeqAt.eqv_refl _ (intsL_ok ms).1
   rw[er]
   refine iteF ?_
   refine⟨_,rfl,t,rfl,⟨_,SqT.of (s1 _ _ ht)⟩,fun D hD=>?_⟩
   refine lc_tup (K:=K) (a:=t) (xs:=ms.map V.int) (fun i ys H2=>ys=(List.replicate i true).map V.bl/\Same H H2/\H2 D=some (.lst ys)) (by rw[List.length_map];exact Nat.le_of_lt (small1000 hlen)) ⟨rfl,s1.upd_free (s1.free hD),upd_same⟩
    (fun i ys H2 h=>by rw[h.1,List.length_map,List.length_replicate];exact Nat.le_refl _) (fun i ys H2 h=>SqT.of (h.2.1 _ _ ht)) ?_ ?_
   ·rintro i ys H2 x N M' hx ⟨rfl,s2,hD2⟩ hN hM
    rw[List.getElem?_map] at hx
    cases el:ms[i]? with
    |none=>rw[el] at hx;cases hx
    |some m=>
     rw[el] at hx
     cases hx
     refine⟨_,rfl,_,_,_,true,rfl,.int m,rfl,true,rfl,iteT ?_⟩
     refine⟨_,rfl,_,_,_,false,rfl,.int m,rfl,false,rfl,?_⟩
     refine hN _ H2 hD2 ⟨?_,s2.upd_free (s1.free hD),upd_same⟩
     rw[List.replicate_succ',List.map_append]
     rfl
   ·rintro ys H2 ⟨rfl,s2,hD2⟩
    refine⟨D,List.replicate (ms.map V.int).length true,rfl,SqL.of hD2,?_⟩
    have ea:(List.replicate (ms.map V.int).length true).all id=true:=by
     rw[List.all_eq_true]
     intro x hx
     rw[List.eq_of_mem_replicate hx]
     rfl
    rw[ea]
    exact k H2 s2
end
end QL
namespace QL
open PySem L2
def gapO (e:Ent)(F I:Int):Option Str:=if e.1=F then e.2[I.toNat]? else none
def vO:Option Str->V
 |none=>.non
 |some x=>.str x
def sameO (a b:Option Str):Bool:=match a with
 |none=>false
 |some x=>decide (b=some x)
def Fst (P:Nat->Bool)(lo hi:Nat):Option Nat->Prop
 |none=>∀m,lo<=m->m<hi->P m=false
 |some m=>lo<=m/\m<hi/\P m=true/\∀j,lo<=j->j<m->P j=false
theorem Fst.unique {P:Nat->Bool}{lo hi:Nat}:∀{r r':Option Nat},Fst P lo hi r->Fst P lo hi r'->r=r'
 |none,none,_,_=>rfl
 |none,some m,h,h'=>by
  have:=h m h'.1 h'.2.1
  rw[h'.2.2.1] at this
  cases this
 |some m,none,h,h'=>by
  have:=h' m h.1 h.2.1
  rw[h.2.2.1] at this
  cases this
 |some m,some k,h,h'=>by
  by_cases a:m<k
  ·have:=h'.2.2.2 m h.1 a
   rw[h.2.2.1] at this
   cases this
  ·by_cases b:k<m
   ·have:=h.2.2.2 k h'.1 b
    rw[h'.2.2.1] at this
    cases this
   ·have:m=k:=by omega
    rw[this]
theorem ent_get {H:Hp}{qs:List Addr}{es:List Ent}(h:EntsAt H qs es){i:Nat}(hi:i<es.length):∃q z,qs[i]?=some q/\H q=some (.tup [.int (es.getD i (0,[])).1,.ref z])/\H z=some (.tup ((es.getD i (0,[])).2.map V.str)):=by
 have e:es[i]?=some es[i]:=by simp[hi]
 have d:es.getD i (0,[])=es[i]:=by simp[List.getD,hi]
 rw[d]
 exact h.2 i _ e
theorem ent_at {H:Hp}{qs:List Addr}{es:List Ent}(h:EntsAt H qs es){i:Int}(h0:0<=i)(hi:i<es.length):∃q z,atI (qs.map V.ref) i=some (.ref q)/\H q=some (.tup [.int (es.getD i.toNat (0,[])).1,.ref z])/\H z=some (.tup ((es.getD i.toNat (0,[])).2.map V.str)):=by
 obtain⟨q,z,h1,h2,h3⟩:=ent_get h (i:=i.toNat) (by omega)
 exact⟨q,z,atI_int h0 (by rw[List.getElem?_map,h1];rfl),h2,h3⟩
theorem ent_ok {es:List Ent}(h:∀e∈es,EOk e){i:Nat}(hi:i<es.length):EOk (es.getD i (0,[])):=by
 have d:es.getD i (0,[])=es[i]:=by simp[List.getD,hi]
 rw[d]
 exact h _ (List.getElem_mem hi)
def lO:Option Str->List V
 |none=>[]
 |some x=>[.str x]
def dO:Option Str->PyData
 |none=>.list []
 |some x=>.list [.str x]
theorem dO_eq:∀a b:Option Str,PyData.eqv (dO a) (dO b)=decide (a=b)
 |none,none=>rfl
 |none,some _=>rfl
 |some _,none=>rfl
 |some x,some y=>by
  show PyData.eqv (.list [.str x]) (.list [.str y])=_
  rw[PyData.eqv,PyData.eqvAll,PyData.eqvAll,PyData.eqv,Bool.and_true]
  by_cases e:x=y
  ·subst e
   simp
  ·have ne:¬(some x=some y):=fun z=>e (Option.some.inj z)
   rw[decide_eq_false ne]
   exact beq_eq_false_iff_ne.mpr e
theorem dO_at {K:W.Frag}{H:Hp}{l:Addr}{a:Option Str}(h:H l=some (.lst (lO a))):DAt K H (.ref l) (dO a):=by
 cases a with
 |none=>exact .lst (SqL.of h) .nil
 |some x=>exact .lst (SqL.of h) (.cons (.str x) .nil)
theorem dO_ok {a:Option Str}(h:∀x,a=some x->Tx 60 x):DOk (dO a):=by
 cases a with
 |none=>exact⟨rfl,by decide⟩
 |some x=>
  have t:=(h x rfl).ok
  refine⟨?_,?_⟩
  ·show PyData.canLayAll0 [.str x]=true
   rw[PyData.canLayAll0,t]
   rfl
  ·show PyData.depth (.list [.str x])<=40
   rw[PyData.depth,PyData.depthAll,PyData.depthAll,PyData.depth]
   decide
theorem gapO_tx {e:Ent}(h:EOk e){F I:Int}:∀x,gapO e F I=some x->Tx 60 x:=fun x hx=>by
 unfold gapO at hx
 by_cases q:e.1=F
 ·rw[if_pos q] at hx
  exact h.2.2.2 x (List.mem_of_getElem? hx)
 ·rw[if_neg q] at hx
  cases hx
end QL
namespace QL
open PySem L2
def spWa:Sp:=fun vs H Q _=>∃(q z p:Addr) (e:Ent) (F I:Int),vs=[.ref q,.ref p]/\H q=some (.tup [.int e.1,.ref z])/\H z=some (.tup (e.2.map V.str))/\H p=some (.tup [.int F,.int I])/\0<=I/\Q (vO (gapO e F I)) H
section
variable {P:Program} {w:World} {K:W.Frag} {mg:Str->Option Value} {base:Heap}
theorem scWa:FnScope ["entry","place"] ["entry","place"] (defScope sWa):=.of (by decide +kernel)
theorem ok_wa (F:Fun K "word_at" "word_at" sWa f fd)(T:Txt mg):FnOk P w K mg base CX0 1 f fd ["entry","place"] spWa:=by
 refine F.ok scWa (fun vs H Q E h=>?_) (fun cdv A outer s H vs Q E hr h=>?_)
 ·obtain⟨q,z,p,e,F,I,rfl,_⟩:=h
  rfl
 ·obtain⟨q,z,p,e,F,I,rfl,hq,hz,hp,i0,k⟩:=h
  refine⟨_,pss_cons (ps_if (PW.pt (pw_or (pt_cmpR op_ne (pe_ix ix_tup (pv 0) pe_int (fun _ _=>rfl)) (pe_ix ix_tup (pv 1) pe_int (fun _ _=>rfl)) (nomark _))
    (pw_or1 (pt_cmpR op_ge (pe_ix ix_tup (pv 1) pe_int (fun _ _=>rfl)) (pe_callB call_len_seq (by rfl) T.len PySem.boot_len (pa_cons (pe_ix ix_tup (pv 0) pe_int (fun _ _=>rfl)) pa_nil)) (nomark _))))) (pss_one (ps_ret pe_non)) pss_nil)
   (pss_one (ps_ret (pe_ix ix_tup (pe_ix ix_tup (pv 0) pe_int (fun _ _=>rfl)) (pe_ix ix_tup (pv 1) pe_int (fun _ _=>rfl)) (fun _ _=>rfl)))),?_⟩
  refine⟨_,rfl,q,_,_,_,rfl,rfl,SqT.of hq,rfl,_,rfl,p,_,_,_,rfl,rfl,SqT.of hp,rfl,rfl,_,rfl,?_⟩
  unfold gapO at k
  by_cases hF:e.1=F
  ·rw[if_pos hF] at k
   refine iteNS (by rw[hF]) ?_
   refine⟨_,rfl,p,_,_,_,rfl,rfl,SqT.of hp,rfl,_,rfl,q,_,_,_,rfl,rfl,SqT.of hq,rfl,z,_,rfl,.inr (SqT.of hz),_,_,rfl,rfl,_,rfl,?_⟩
   rw[List.length_map]
   by_cases hlt:I<(e.2.length:Int)
   ·have nle:¬((e.2.length:Int)<=I):=by omega
    rw[decide_eq_false nle]
    refine iteF ?_
    obtain⟨x,ex⟩:=some_at e.2 I i0 hlt
    rw[ex] at k
    exact⟨_,rfl,q,_,_,_,rfl,rfl,SqT.of hq,rfl,_,rfl,p,_,_,_,rfl,rfl,SqT.of hp,rfl,z,_,_,_,rfl,rfl,SqT.of hz,atI_int i0 (by rw[List.getElem?_map,ex];rfl),k⟩
   ·have le:(e.2.length:Int)<=I:=by omega
    rw[decide_eq_true le]
    refine iteT ?_
    rw[List.getElem?_eq_none (by omega)] at k
    exact k
  ·rw[if_neg hF] at k
   have ne:¬(V.int e.1=V.int F):=fun z=>hF (by injection z)
   rw[decide_eq_false ne]
   exact iteT (iteT k)
end
end QL
namespace QL
open PySem L2
def spSw:Sp:=fun vs H Q _=>∃(q z p q' z' p':Addr) (e e':Ent) (F I G J:Int),vs=[.ref q,.ref p,.ref q',.ref p']/\H q=some (.tup [.int e.1,.ref z])/\H z=some (.tup (e.2.map V.str))/\H p=some (.tup [.int F,.int I])/\0<=I∧
 H q'=some (.tup [.int e'.1,.ref z'])/\H z'=some (.tup (e'.2.map V.str))/\H p'=some (.tup [.int G,.int J])/\0<=J/\Q (.bl (sameO (gapO e F I) (gapO e' G J))) H
section
variable {P:Program} {w:World} {K:W.Frag} {mg:Str->Option Value} {base:Heap}
theorem scSw:FnScope ["entry","place","other","away","word"] ["entry","place","other","away"] (defScope sSw):=.of (by decide +kernel)
theorem ok_sw (F:Fun K "same_word" "same_word" sSw f fd)(T:Txt mg)(FW:Fun K "word_at" "word_at" sWa fW fdW)(bW:Binds K fdW ["entry","place"] [])(gW:mg "word_at"=some (.ref fW)):
  FnOk P w K mg base CX0 2 f fd ["entry","place","other","away"] spSw:=by
 have GW:FnOk P w K mg base CX0 1 fW fdW ["entry","place"] spWa:=ok_wa FW T
 refine F.ok scSw (fun vs H Q E h=>?_) (fun cdv A outer s H vs Q E hr h=>?_)
 ·obtain⟨q,z,p,q',z',p',e,e',F,I,G,J,rfl,_⟩:=h
  rfl
 ·obtain⟨q,z,p,q',z',p',e,e',F,I,G,J,rfl,hq,hz,hp,i0,hq',hz',hp',j0,k⟩:=h
  refine⟨_,pss_cons (ps_set (i:=4) scSw.nd rfl (Or.inl rfl) (pe_call GW hr rfl gW FW.kp bW .nil pass0 (pa_cons (pv 0) (pa_cons (pv 1) pa_nil))))
   (pss_one (ps_ret (pe_and (pe_cmp (pc_notN (pv 4))) (pe_one (pe_cmpR op_eq (pv 4) (pe_call GW hr rfl gW FW.kp bW .nil pass0 (pa_cons (pv 2) (pa_cons (pv 3) pa_nil))) (nomark _)))))),?_⟩
  refine⟨_,rfl,_,rfl,q,z,p,e,F,I,rfl,hq,hz,hp,i0,?_⟩
  cases ha:gapO e F I with
  |none=>
   rw[ha] at k
   refine⟨_,rfl,_,rfl,iteNS rfl ?_⟩
   exact k
  |some x=>
   rw[ha] at k
   refine⟨_,rfl,_,rfl,?_⟩
   have n1:¬(vO (some x)=V.non):=fun z=>by cases z
   rw[decide_eq_false n1]
   refine iteT ?_
   refine⟨_,rfl,_,rfl,_,rfl,q',z',p',e',G,J,rfl,hq',hz',hp',j0,?_⟩
   cases hb:gapO e' G J with
   |none=>
    rw[hb] at k
    refine⟨rfl,?_⟩
    have e1:decide (vO (some x)=vO none)=false:=decide_eq_false (fun z=>by cases z)
    rw[e1]
    exact k
   |some y=>
    rw[hb] at k
    refine⟨rfl,?_⟩
    have e1:decide (vO (some x)=vO (some y))=decide (some y=some x):=decide_eq_decide.mpr ⟨fun z=>by injection z with z;rw[z],fun z=>by injection z with z;rw[z]⟩
    rw[e1]
    exact k
end
end QL
namespace QL
open PySem L2
inductive Kd where
 |row|wit|beh|ahd|tim|bot|eit|non
 deriving DecidableEq
inductive Qn where
 |row (F:Int)|wit (F I:Int) (W:Str)|beh (F I G J:Int) (R:Nat)|ahd (F I G J:Int) (R:Nat)
 |tim (K C:Nat) (q:Qn)|bot (q r:Qn)|eit (q r:Qn)|non (q:Qn)
def Qn.kd:Qn->Kd
 |.row _=>.row | .wit _ _ _=>.wit | .beh _ _ _ _ _=>.beh | .ahd _ _ _ _ _=>.ahd | .tim _ _ _=>.tim | .bot _ _=>.bot | .eit _ _=>.eit | .non _=>.non
def Qn.dep:Qn->Nat
 |.tim _ _ q=>q.dep+1 | .bot q r=>max q.dep r.dep+1 | .eit q r=>max q.dep r.dep+1 | .non q=>q.dep+1|_=>0
def Qn.Ok:Qn->Prop
 |.row _=>True | .wit _ I W=>0<=I/\Tx 60 W | .beh _ I _ J R=>0<=I/\0<=J/\R<=1000 | .ahd _ I _ J R=>0<=I/\0<=J/\R<=1000
 |.tim K C q=>1<=K/\K<=1000/\C<=1000/\q.Ok | .bot q r=>q.Ok/\r.Ok | .eit q r=>q.Ok/\r.Ok | .non q=>q.Ok
def Qn.In (ks:Kd->Bool):Qn->Prop
 |.row _=>ks .row=true | .wit _ _ _=>ks .wit=true | .beh _ _ _ _ _=>ks .beh=true | .ahd _ _ _ _ _=>ks .ahd=true
 |.tim _ _ q=>ks .tim=true/\q.In ks | .bot q r=>ks .bot=true/\q.In ks/\r.In ks | .eit q r=>ks .eit=true/\q.In ks/\r.In ks | .non q=>ks .non=true/\q.In ks
theorem Qn.In.kd {ks:Kd->Bool}:∀{q:Qn},q.In ks->ks q.kd=true
 |.row _,h=>h | .wit _ _ _,h=>h | .beh _ _ _ _ _,h=>h | .ahd _ _ _ _ _,h=>h | .tim _ _ _,h=>h.1 | .bot _ _,h=>h.1 | .eit _ _,h=>h.1 | .non _,h=>h.1
def rng (lo hi:Nat):List Nat:=(List.range (hi-lo)).map (lo + ·)
theorem mem_rng {lo hi m:Nat}:m∈rng lo hi↔lo<=m/\m<hi:=by
 unfold rng
 rw[List.mem_map]
 constructor
 ·rintro⟨a,ha,rfl⟩
  rw[List.mem_range] at ha
  omega
 ·rintro⟨h1,h2⟩
  exact⟨m-lo,by rw[List.mem_range];omega,by omega⟩
theorem rng_lt (lo hi:Nat):(rng lo hi).Pairwise (· < ·):=by
 unfold rng
 rw[List.pairwise_map]
 exact List.pairwise_lt_range.imp fun h=>by omega
theorem rng_len (lo hi:Nat):(rng lo hi).length=hi-lo:=by
 unfold rng
 rw[List.length_map,List.length_range]
def fstM (P:Nat->Bool)(lo:Nat):Nat->Option Nat
 |0=>none
 |k+1=>if P lo=true then some lo else fstM P (lo+1) k
theorem fst_is (P:Nat->Bool):∀(k lo:Nat),Fst P lo (lo+k) (fstM P lo k)
 |0,lo=>fun m m1 m2=>by omega
 |k+1,lo=>by
  unfold fstM
  have ih:=fst_is P k (lo+1)
  have e:lo+1+k=lo+(k+1):=by omega
  rw[e] at ih
  by_cases h:P lo=true
  ·rw[if_pos h]
   exact⟨Nat.le_refl _,by omega,h,fun j j1 j2=>by omega⟩
  ·rw[if_neg h]
   have h':P lo=false:=by simpa using h
   cases g:fstM P (lo+1) k with
   |none=>
    rw[g] at ih
    intro m m1 m2
    by_cases e:m=lo
    ·rw[e];exact h'
    ·exact ih m (by omega) m2
   |some m=>
    rw[g] at ih
    refine⟨by have:=ih.1;omega,ih.2.1,ih.2.2.1,fun j j1 j2=>?_⟩
    by_cases e:j=lo
    ·rw[e];exact h'
    ·exact ih.2.2.2 j (by omega) j2
theorem fst_to {P:Nat->Bool}{lo hi:Nat}{r:Option Nat}(h:Fst P lo hi r):fstM P lo (hi-lo)=r:=by
 by_cases hl:lo<=hi
 ·have q:=fst_is P (hi-lo) lo
  have e:lo+(hi-lo)=hi:=by omega
  rw[e] at q
  exact q.unique h
 ·have e:hi-lo=0:=by omega
  rw[e]
  cases r with
  |none=>rfl
  |some m=>
   have:=h.1
   have:=h.2.1
   omega
def Lst (P:Nat->Bool)(lo hi:Nat):Option Nat->Prop
 |none=>∀m,lo<=m->m<hi->P m=false
 |some m=>lo<=m/\m<hi/\P m=true/\∀j,m<j->j<hi->P j=false
theorem Lst.unique {P:Nat->Bool}{lo hi:Nat}:∀{r r':Option Nat},Lst P lo hi r->Lst P lo hi r'->r=r'
 |none,none,_,_=>rfl
 |none,some m,h,h'=>by
  have:=h m h'.1 h'.2.1
  rw[h'.2.2.1] at this
  cases this
 |some m,none,h,h'=>by
  have:=h' m h.1 h.2.1
  rw[h.2.2.1] at this
  cases this
 |some m,some k,h,h'=>by
  by_cases a:m<k
  ·have:=h.2.2.2 k a h'.2.1
   rw[h'.2.2.1] at this
   cases this
  ·by_cases b:k<m
   ·have:=h'.2.2.2 m b h.2.1
    rw[h.2.2.1] at this
    cases this
   ·have:m=k:=by omega
    rw[this]
def lstM (P:Nat->Bool)(lo:Nat):Nat->Option Nat
 |0=>none
 |k+1=>if P (lo+k)=true then some (lo+k) else lstM P lo k
theorem lst_is (P:Nat->Bool)(lo:Nat):∀k:Nat,Lst P lo (lo+k) (lstM P lo k)
 |0=>fun m m1 m2=>by omega
 |k+1=>by
  unfold lstM
  have ih:=lst_is P lo k
  by_cases h:P (lo+k)=true
  ·rw[if_pos h]
   exact⟨by omega,by omega,h,fun j j1 j2=>by omega⟩
  ·rw[if_neg h]
   have h':P (lo+k)=false:=by simpa using h
   cases g:lstM P lo k with
   |none=>
    rw[g] at ih
    intro m m1 m2
    by_cases e:m=lo+k
    ·rw[e];exact h'
    ·exact ih m m1 (by omega)
   |some m=>
    rw[g] at ih
    refine⟨ih.1,by have:=ih.2.1;omega,ih.2.2.1,fun j j1 j2=>?_⟩
    by_cases e:j=lo+k
    ·rw[e];exact h'
    ·exact ih.2.2.2 j j1 (by omega)
theorem lst_to {P:Nat->Bool}{lo hi:Nat}{r:Option Nat}(h:Lst P lo hi r):lstM P lo (hi-lo)=r:=by
 by_cases hl:lo<=hi
 ·have q:=lst_is P lo (hi-lo)
  have e:lo+(hi-lo)=hi:=by omega
  rw[e] at q
  exact q.unique h
 ·have e:hi-lo=0:=by omega
  rw[e]
  cases r with
  |none=>rfl
  |some m=>
   have:=h.1
   have:=h.2.1
   omega
theorem filt_fst (P:Nat->Bool)(lo hi:Nat):Fst P lo hi ((rng lo hi).filter P).head?:=by
 have hp:=(rng_lt lo hi).filter P
 cases g:(rng lo hi).filter P with
 |nil=>
  intro m m1 m2
  have:m∉(rng lo hi).filter P:=by rw[g];simp
  rw[List.mem_filter] at this
  by_cases h:P m=true
  ·exact absurd ⟨mem_rng.mpr ⟨m1,m2⟩,h⟩ this
  ·simpa using h
 |cons a r=>
  have ha:a∈(rng lo hi).filter P:=by rw[g];simp
  rw[List.mem_filter,mem_rng] at ha
  refine⟨ha.1.1,ha.1.2,ha.2,fun j j1 j2=>?_⟩
  by_cases h:P j=true
  ·have hj:j∈(rng lo hi).filter P:=List.mem_filter.mpr ⟨mem_rng.mpr ⟨j1,by omega⟩,h⟩
   rw[g] at hj hp
   rcases List.mem_cons.mp hj with e|e
   ·omega
   ·have:=(List.pairwise_cons.mp hp).1 j e
    omega
  ·simpa using h
theorem filt_lst (P:Nat->Bool)(lo hi:Nat):Lst P lo hi ((rng lo hi).filter P).getLast?:=by
 have hp:=(rng_lt lo hi).filter P
 cases g:((rng lo hi).filter P).getLast? with
 |none=>
  rw[List.getLast?_eq_none_iff] at g
  intro m m1 m2
  have:m∉(rng lo hi).filter P:=by rw[g];simp
  rw[List.mem_filter] at this
  by_cases h:P m=true
  ·exact absurd ⟨mem_rng.mpr ⟨m1,m2⟩,h⟩ this
  ·simpa using h
 |some a=>
  obtain⟨ini,e⟩:=List.getLast?_eq_some_iff.mp g
  have ha:a∈(rng lo hi).filter P:=by rw[e];simp
  rw[List.mem_filter,mem_rng] at ha
  refine⟨ha.1.1,ha.1.2,ha.2,fun j j1 j2=>?_⟩
  by_cases h:P j=true
  ·have hj:j∈(rng lo hi).filter P:=List.mem_filter.mpr ⟨mem_rng.mpr ⟨by omega,j2⟩,h⟩
   rw[e] at hj hp
   rcases List.mem_append.mp hj with z|z
   ·have:=(List.pairwise_append.mp hp).2.2 j z a (by simp)
    omega
   ·have:j=a:=by simpa using z
    omega
  ·simpa using h
def behP (es:List Ent)(n:Nat)(F I G J:Int):Nat->Bool:=fun m=>sameO (gapO (es.getD n (0,[])) F I) (gapO (es.getD m (0,[])) G J)
def foundM (es:List Ent):Qn->Nat->Option (List Nat)
 |.row F,n=>if (es.getD n (0,[])).1=F then some [n] else none
 |.wit F I W,n=>if gapO (es.getD n (0,[])) F I=some W then some [n] else none
 |.beh F I G J R,n=>(fstM (behP es n F I G J) (n+1) (min (n+R+1) es.length-(n+1))).map fun m=>[n,m]
 |.ahd F I G J R,n=>(lstM (behP es n F I G J) (n-R) (n-(n-R))).map fun m=>[m,n]
 |.tim K C q,n=>if n∈(rng (n+1-K) (n+1)).filter (fun m=>(foundM es q m).isSome)/\C<=((rng (n+1-K) (n+1)).filter fun m=>(foundM es q m).isSome).length
   then some ((rng (n+1-K) (n+1)).filter fun m=>(foundM es q m).isSome) else none
 |.bot q r,n=>match foundM es q n,foundM es r n with
  |some a,some b=>some ((List.range es.length).filter fun m=>decide (m∈a)||decide (m∈b))
  |_,_=>none
 |.eit q r,n=>match foundM es q n with
  |some a=>some a
  |none=>foundM es r n
 |.non q,n=>match foundM es q n with
  |none=>some []
  |some _=>none
def backM:Qn->Int
 |.ahd _ _ _ _ R=>R | .tim K _ q=>backM q+K-1 | .bot q r=>max (backM q) (backM r) | .eit q r=>max (backM q) (backM r) | .non q=>backM q|_=>0
def onM:Qn->Int
 |.beh _ _ _ _ R=>R | .tim _ _ q=>onM q | .bot q r=>max (onM q) (onM r) | .eit q r=>max (onM q) (onM r) | .non q=>onM q|_=>0
def NoMeth (fs:List (Str×V)):Prop:=fs.lookup ("back":Str)=none/\fs.lookup ("on":Str)=none/\fs.lookup ("found":Str)=none
theorem NoMeth.nil:NoMeth []:=⟨rfl,rfl,rfl⟩
theorem NoMeth.put {fs:List (Str×V)}(h:NoMeth fs){f:Str}{v:V}(h1:¬("back":Str)=f)(h2:¬("on":Str)=f)(h3:¬("found":Str)=f):NoMeth (putF f v fs):=
 ⟨by rw[lookup_putF,if_neg h1];exact h.1,by rw[lookup_putF,if_neg h2];exact h.2.1,by rw[lookup_putF,if_neg h3];exact h.2.2⟩
def FarAt (C:Addr)(H:Hp)(p:Addr)(F I G J:Int)(R:Nat):Prop:=∃dx a b fs,H p=some (.ins C dx fs)/\fs.lookup ("here":Str)=some (.ref a)/\fs.lookup ("away":Str)=some (.ref b)/\fs.lookup ("reach":Str)=some (.int R)/\NoMeth fs∧
 H a=some (.tup [.int F,.int I])/\H b=some (.tup [.int G,.int J])
def QAt (cl:Kd->Addr)(H:Hp):Qn->Addr->Prop
 |.row F,p=>∃dx fs,H p=some (.ins (cl .row) dx fs)/\fs.lookup ("wanted":Str)=some (.int F)/\NoMeth fs
 |.wit F I W,p=>∃dx a fs,H p=some (.ins (cl .wit) dx fs)/\fs.lookup ("here":Str)=some (.ref a)/\fs.lookup ("wanted":Str)=some (.str W)/\NoMeth fs/\H a=some (.tup [.int F,.int I])
 |.beh F I G J R,p=>FarAt (cl .beh) H p F I G J R
 |.ahd F I G J R,p=>FarAt (cl .ahd) H p F I G J R
 |.tim K C q,p=>∃dx fs c,H p=some (.ins (cl .tim) dx fs)/\fs.lookup ("reach":Str)=some (.int K)/\fs.lookup ("least":Str)=some (.int C)/\fs.lookup ("inner":Str)=some (.ref c)/\NoMeth fs/\QAt cl H q c
 |.bot q r,p=>∃dx fs c e,H p=some (.ins (cl .bot) dx fs)/\fs.lookup ("one":Str)=some (.ref c)/\fs.lookup ("other":Str)=some (.ref e)/\NoMeth fs/\QAt cl H q c/\QAt cl H r e
 |.eit q r,p=>∃dx fs c e,H p=some (.ins (cl .eit) dx fs)/\fs.lookup ("one":Str)=some (.ref c)/\fs.lookup ("other":Str)=some (.ref e)/\NoMeth fs/\QAt cl H q c/\QAt cl H r e
 |.non q,p=>∃dx fs c,H p=some (.ins (cl .non) dx fs)/\fs.lookup ("one":Str)=some (.ref c)/\NoMeth fs/\QAt cl H q c
theorem FarAt.same {C:Addr}{H H':Hp}{p:Addr}{F I G J:Int}{R:Nat}(h:FarAt C H p F I G J R)(s:Same H H'):FarAt C H' p F I G J R:=by
 obtain⟨dx,a,b,fs,h1,h2,h3,h4,h5,h6,h7⟩:=h
 exact⟨dx,a,b,fs,s _ _ h1,h2,h3,h4,h5,s _ _ h6,s _ _ h7⟩
theorem QAt.same {cl:Kd->Addr}{H H':Hp}(s:Same H H'):∀{q:Qn} {p:Addr},QAt cl H q p->QAt cl H' q p
 |.row _,_,⟨dx,fs,h1,h2,h3⟩=>⟨dx,fs,s _ _ h1,h2,h3⟩
 |.wit _ _ _,_,⟨dx,a,fs,h1,h2,h3,h4,h5⟩=>⟨dx,a,fs,s _ _ h1,h2,h3,h4,s _ _ h5⟩
 |.beh _ _ _ _ _,_,h=>FarAt.same h s
 |.ahd _ _ _ _ _,_,h=>FarAt.same h s
 |.tim _ _ _,_,⟨dx,fs,c,h1,h2,h3,h4,h5,h6⟩=>⟨dx,fs,c,s _ _ h1,h2,h3,h4,h5,QAt.same s h6⟩
 |.bot _ _,_,⟨dx,fs,c,e,h1,h2,h3,h4,h5,h6⟩=>⟨dx,fs,c,e,s _ _ h1,h2,h3,h4,QAt.same s h5,QAt.same s h6⟩
 |.eit _ _,_,⟨dx,fs,c,e,h1,h2,h3,h4,h5,h6⟩=>⟨dx,fs,c,e,s _ _ h1,h2,h3,h4,QAt.same s h5,QAt.same s h6⟩
 |.non _,_,⟨dx,fs,c,h1,h2,h3,h4⟩=>⟨dx,fs,c,s _ _ h1,h2,h3,QAt.same s h4⟩
theorem QAt.ins {cl:Kd->Addr}{H:Hp}:∀{q:Qn} {p:Addr},QAt cl H q p->∃dx fs,H p=some (.ins (cl q.kd) dx fs)/\NoMeth fs
 |.row _,_,⟨dx,fs,h1,h2,h3⟩=>⟨dx,fs,h1,h3⟩
 |.wit _ _ _,_,⟨dx,a,fs,h1,h2,h3,h4,h5⟩=>⟨dx,fs,h1,h4⟩
 |.beh _ _ _ _ _,_,⟨dx,a,b,fs,h1,h2,h3,h4,h5,h6⟩=>⟨dx,fs,h1,h5⟩
 |.ahd _ _ _ _ _,_,⟨dx,a,b,fs,h1,h2,h3,h4,h5,h6⟩=>⟨dx,fs,h1,h5⟩
 |.tim _ _ _,_,⟨dx,fs,c,h1,h2,h3,h4,h5,h6⟩=>⟨dx,fs,h1,h5⟩
 |.bot _ _,_,⟨dx,fs,c,e,h1,h2,h3,h4,h5,h6⟩=>⟨dx,fs,h1,h4⟩
 |.eit _ _,_,⟨dx,fs,c,e,h1,h2,h3,h4,h5,h6⟩=>⟨dx,fs,h1,h4⟩
 |.non _,_,⟨dx,fs,c,h1,h2,h3,h4⟩=>⟨dx,fs,h1,h3⟩
def vN (rows:List Nat):List V:=rows.map fun(m:Nat)=>V.int (m:Int)
def Told (H:Hp)(Q:VK):Option (List Nat)->Prop
 |none=>∀H',Same H H'->Q .non H'
 |some rows=>∀(a:Addr) (H':Hp),Same H H'->H' a=some (.tup (vN rows))->Q (.ref a) H'
def spF (ks:Kd->Bool)(cl:Kd->Addr)(k:Kd)(d:Nat):Sp:=fun vs H Q _=>∃(p t:Addr) (n:Nat) (q:Qn) (es:List Ent),vs=[.ref p,.ref t,.int n]/\q.kd=k/\q.dep<d/\q.Ok/\q.In ks/\QAt cl H q p/\LogAt H t es/\es.length<=63/\n<es.length/\Told H Q (foundM es q n)
def spB (ks:Kd->Bool)(cl:Kd->Addr)(k:Kd)(d:Nat):Sp:=fun vs H Q _=>∃(p:Addr) (q:Qn),vs=[.ref p]/\q.kd=k/\q.dep<d/\q.In ks/\QAt cl H q p/\Q (.int (backM q)) H
def spO (ks:Kd->Bool)(cl:Kd->Addr)(k:Kd)(d:Nat):Sp:=fun vs H Q _=>∃(p:Addr) (q:Qn),vs=[.ref p]/\q.kd=k/\q.dep<d/\q.In ks/\QAt cl H q p/\Q (.int (onM q)) H
section
variable (P:Program) (w:World) (K:W.Frag) (mg:Str->Option Value) (base:Heap)
structure KE1 (ks:Kd->Bool)(cl:Kd->Addr)(d lev:Nat)(k:Kd):Prop where
 cls:Cls K (cl k)
 fnd:∃f fd,Meth K (cl k) "found" f/\Binds K fd ["self","log","n"] []/\FnOk P w K mg base CX0 lev f fd ["self","log","n"] (spF ks cl k d)
 bck:∃f fd,Meth K (cl k) "back" f/\Binds K fd ["self"] []/\FnOk P w K mg base CX0 lev f fd ["self"] (spB ks cl k d)
 onn:∃f fd,Meth K (cl k) "on" f/\Binds K fd ["self"] []/\FnOk P w K mg base CX0 lev f fd ["self"] (spO ks cl k d)
def Tab (ks:Kd->Bool)(cl:Kd->Addr)(d lev:Nat):Prop:=∀k,ks k=true->KE1 P w K mg base ks cl d lev k
end
section
variable {P:Program} {w:World} {K:W.Frag} {mg:Str->Option Value} {base:Heap} {ks:Kd->Bool} {cl:Kd->Addr} {d lev:Nat}
theorem vac {k f:Nat}{fd:FuncData}{ps:List Str}{sp:Sp}(h:∀vs H Q E,¬sp vs H Q E):FnOk P w K mg base CX0 k f fd ps sp:=
 ⟨fun vs H Q E q=>absurd q (h vs H Q E),fun A outer s H args us vs Q E _ _ _ _ q=>absurd q (h vs H Q E)⟩
theorem Tab.found (T:Tab P w K mg base ks cl d lev){H:Hp}{p:Addr}{q:Qn}(hq:QAt cl H q p)(hi:q.In ks):∃dx fs f fd,H p=some (.ins (cl q.kd) dx fs)/\fs.lookup ("found":Str)=none/\Cls K (cl q.kd)/\Meth K (cl q.kd) "found" f∧
  FnOk P w K mg base CX0 lev f fd ["self","log","n"] (spF ks cl q.kd d)/\Binds K fd ["self","log","n"] []:=by
 obtain⟨dx,fs,h1,h2⟩:=hq.ins
 have E:=T q.kd hi.kd
 obtain⟨f,fd,m,b,o⟩:=E.fnd
 exact⟨dx,fs,f,fd,h1,h2.2.2,E.cls,m,o,b⟩
theorem Tab.back (T:Tab P w K mg base ks cl d lev){H:Hp}{p:Addr}{q:Qn}(hq:QAt cl H q p)(hi:q.In ks):∃dx fs f fd,H p=some (.ins (cl q.kd) dx fs)/\fs.lookup ("back":Str)=none/\Cls K (cl q.kd)/\Meth K (cl q.kd) "back" f∧
  FnOk P w K mg base CX0 lev f fd ["self"] (spB ks cl q.kd d)/\Binds K fd ["self"] []:=by
 obtain⟨dx,fs,h1,h2⟩:=hq.ins
 have E:=T q.kd hi.kd
 obtain⟨f,fd,m,b,o⟩:=E.bck
 exact⟨dx,fs,f,fd,h1,h2.1,E.cls,m,o,b⟩
theorem Tab.on (T:Tab P w K mg base ks cl d lev){H:Hp}{p:Addr}{q:Qn}(hq:QAt cl H q p)(hi:q.In ks):∃dx fs f fd,H p=some (.ins (cl q.kd) dx fs)/\fs.lookup ("on":Str)=none/\Cls K (cl q.kd)/\Meth K (cl q.kd) "on" f∧
  FnOk P w K mg base CX0 lev f fd ["self"] (spO ks cl q.kd d)/\Binds K fd ["self"] []:=by
 obtain⟨dx,fs,h1,h2⟩:=hq.ins
 have E:=T q.kd hi.kd
 obtain⟨f,fd,m,b,o⟩:=E.onn
 exact⟨dx,fs,f,fd,h1,h2.2.1,E.cls,m,o,b⟩
end
end QL
namespace L2
open PySem
section
variable {X:Cx}
theorem pe_fldK {K:W.Frag}{e:Expr}{ta:TE}{f:Str}{pos:Pos}(hK:X.K=K)(he:PE X e ta)(hb:attributeBase e f X.env (eval e X.env)=eval e X.env):PE X (.Attribute e f pos) (tFld K ta f):=by
 subst hK
 exact pe_fld he hb
theorem pe_methDK {P:Program}{w:World}{K:W.Frag}{mg:Str->Option Value}{base:Heap}{CX:CXT}{k:Nat}{m:Str}{E:XK}{pos apos:Pos}{o e:Expr}{es:List Expr}{ta:TE}{t:TA}{pl:Sem Bool}
  (h1:X.prog=P) (h2:X.w=w) (h3:X.K=K) (h4:X.mg=mg) (h5:X.base=base) (he:PE X o ta) (hr:Room k X.A) (hx:Passes CX X E) (ha:PA X (e::es) t)
  (hst:starEach (e::es) X.env=(false,eval e X.env)::starEach es X.env:=by rfl) (hpl:(backTo pos (starEach es X.env)).any (·.1)=false:=by rfl)
  (ht:eval (.Call (.Attribute o m apos) (e::es) [] pos) X.env=(do
   let ov ← eval o X.env
   standAt apos.atName
   let (f,first) ← holding [ov] (getMethod ov m pl)
   callWith pos f first (backTo pos (starEach (e::es) X.env)) (backToKw pos (keywordEach [] X.env))):=by rfl):
  PE X (.Call (.Attribute o m apos) (e::es) [] pos) (tMethD P w K mg base CX k m E ta t):=by
 subst h1 h2 h3 h4 h5
 exact pe_methD he hr hx ha hst hpl ht
end
end L2
namespace QL
open PySem L2
section
variable {P:Program} {w:World} {K:W.Frag} {mg:Str->Option Value} {base:Heap} {ks:Kd->Bool} {cl:Kd->Addr} {d:Nat}
theorem zeroB {k:Kd}{q:Qn}(hk:q.kd=k)(h:k=.row\/k=.wit\/k=.beh):backM q=0:=by
 subst hk
 cases q<;>first|rfl|(rcases h with h|h|h<;>cases h)
theorem zeroO {k:Kd}{q:Qn}(hk:q.kd=k)(h:k=.row\/k=.wit\/k=.ahd):onM q=0:=by
 subst hk
 cases q<;>first|rfl|(rcases h with h|h|h<;>cases h)
theorem scBk:FnScope ["self"] ["self"] (defScope sBk):=.of (by decide +kernel)
theorem ok_bk {k:Kd}(F:Fun K "back" "Question.back" sBk f fd)(hk:k=.row\/k=.wit\/k=.beh):FnOk P w K mg base CX0 1 f fd ["self"] (spB ks cl k d):=by
 refine F.ok scBk (fun vs H Q E h=>?_) (fun cdv A outer s H vs Q E hr h=>?_)
 ·obtain⟨p,q,rfl,_⟩:=h
  rfl
 ·obtain⟨p,q,rfl,h1,h2,h3,h4,k⟩:=h
  rw[zeroB h1 hk] at k
  exact⟨_,pss_one (ps_ret pe_int),k⟩
theorem scOn:FnScope ["self"] ["self"] (defScope sOn):=.of (by decide +kernel)
theorem ok_on {k:Kd}(F:Fun K "on" "Question.on" sOn f fd)(hk:k=.row\/k=.wit\/k=.ahd):FnOk P w K mg base CX0 1 f fd ["self"] (spO ks cl k d):=by
 refine F.ok scOn (fun vs H Q E h=>?_) (fun cdv A outer s H vs Q E hr h=>?_)
 ·obtain⟨p,q,rfl,_⟩:=h
  rfl
 ·obtain⟨p,q,rfl,h1,h2,h3,h4,k⟩:=h
  rw[zeroO h1 hk] at k
  exact⟨_,pss_one (ps_ret pe_int),k⟩
theorem scRf:FnScope ["self","log","n"] ["self","log","n"] (defScope sRf):=.of (by decide +kernel)
theorem ok_rf (F:Fun K "found" "Row.found" sRf f fd)(C:Cls K (cl .row))(nW:NoAttr K (cl .row) "wanted"):FnOk P w K mg base CX0 1 f fd ["self","log","n"] (spF ks cl .row d):=by
 refine F.ok scRf (fun vs H Q E h=>?_) (fun cdv A outer s H vs Q E hr h=>?_)
 ·obtain⟨p,t,n,q,es,rfl,_⟩:=h
  rfl
 ·obtain⟨p,t,n,q,es,rfl,hk,hd,ho,hi,hq,L,hl,hn,k⟩:=h
  cases q<;>try cases hk
  rename_i F
  obtain⟨dx,fs,r1,r2,r3⟩:=hq
  obtain⟨qs,ht,hE⟩:=id L
  obtain⟨e,z,x1,x2,x3⟩:=ent_at hE (i:=(n:Int)) (by omega) (by omega)
  rw[Int.toNat_natCast] at x2 x3
  refine⟨_,pss_one (ps_ret (pe_ifExp (pt_cmpR op_eq (pe_ix ix_tup (pe_ix ix_tup (pv 1) (pv 2) (fun _ _=>rfl)) pe_int (fun _ _=>rfl)) (pe_fld (pv 0) rfl) (nomark _)) (pe_tup (pa_cons (pv 2) pa_nil)) pe_non)),?_⟩
  refine⟨_,rfl,_,rfl,t,_,_,_,rfl,rfl,SqT.of ht,x1,e,_,_,_,rfl,rfl,SqT.of x2,rfl,_,rfl,p,_,dx,_,_,rfl,r1,C,nW,r2,rfl,_,rfl,?_⟩
  unfold foundM at k
  by_cases g:(es.getD n (0,[])).1=F
  ·rw[if_pos g] at k
   have e1:decide (V.int (es.getD n (0,[])).1=V.int F)=true:=decide_eq_true (by rw[g])
   rw[e1]
   refine iteT ⟨_,rfl,(by show 1<=sizeLine;decide),fun a ha=>?_⟩
   exact k a _ ((Same.refl H).upd_free ha) upd_same
  ·rw[if_neg g] at k
   have e1:decide (V.int (es.getD n (0,[])).1=V.int F)=false:=decide_eq_false (fun z=>g (by injection z))
   rw[e1]
   exact iteF (k H (Same.refl H))
theorem scWf:FnScope ["self","log","n"] ["self","log","n"] (defScope sWf):=.of (by decide +kernel)
theorem ok_wf (F:Fun K "found" "With.found" sWf f fd)(T:Txt mg)(C:Cls K (cl .wit))(nH:NoAttr K (cl .wit) "here")(nW:NoAttr K (cl .wit) "wanted")
  (FW:Fun K "word_at" "word_at" sWa fW fdW) (bW:Binds K fdW ["entry","place"] []) (gW:mg "word_at"=some (.ref fW)):FnOk P w K mg base CX0 2 f fd ["self","log","n"] (spF ks cl .wit d):=by
 have GW:FnOk P w K mg base CX0 1 fW fdW ["entry","place"] spWa:=ok_wa FW T
 refine F.ok scWf (fun vs H Q E h=>?_) (fun cdv A outer s H vs Q E hr h=>?_)
 ·obtain⟨p,t,n,q,es,rfl,_⟩:=h
  rfl
 ·obtain⟨p,t,n,q,es,rfl,hk,hd,ho,hi,hq,L,hl,hn,k⟩:=h
  cases q<;>try cases hk
  rename_i F I W
  obtain⟨dx,a,fs,r1,r2,r3,r4,r5⟩:=hq
  obtain⟨qs,ht,hE⟩:=id L
  obtain⟨e,z,x1,x2,x3⟩:=ent_at hE (i:=(n:Int)) (by omega) (by omega)
  rw[Int.toNat_natCast] at x2 x3
  refine⟨_,pss_one (ps_ret (pe_ifExp (pt_cmpR op_eq (pe_call GW hr rfl gW FW.kp bW .nil pass0 (pa_cons (pe_ix ix_tup (pv 1) (pv 2) (fun _ _=>rfl)) (pa_cons (pe_fld (pv 0) rfl) pa_nil))) (pe_fld (pv 0) rfl) (nomark _)) (pe_tup (pa_cons (pv 2) pa_nil)) pe_non)),?_⟩
  refine⟨_,rfl,_,rfl,t,_,_,_,rfl,rfl,SqT.of ht,x1,_,rfl,p,_,dx,_,_,rfl,r1,C,nH,r2,e,z,a,_,F,I,rfl,x2,x3,r5,ho.1,?_⟩
  refine⟨_,rfl,p,_,dx,_,_,rfl,r1,C,nW,r3,?_⟩
  unfold foundM at k
  cases hg:gapO (es.getD n (0,[])) F I with
  |none=>
   rw[hg,if_neg (fun z=>by cases z)] at k
   refine⟨rfl,_,rfl,?_⟩
   have e1:decide (vO none=V.str W)=false:=decide_eq_false (fun z=>by cases z)
   rw[e1]
   exact iteF (k H (Same.refl H))
  |some y=>
   rw[hg] at k
   refine⟨rfl,_,rfl,?_⟩
   by_cases g:y=W
   ·rw[if_pos (by rw[g])] at k
    have e1:decide (vO (some y)=V.str W)=true:=decide_eq_true (by rw[g];rfl)
    rw[e1]
    refine iteT ⟨_,rfl,(by show 1<=sizeLine;decide),fun b hb=>?_⟩
    exact k b _ ((Same.refl H).upd_free hb) upd_same
   ·rw[if_neg (fun z=>g (Option.some.inj z))] at k
    have e1:decide (vO (some y)=V.str W)=false:=decide_eq_false (fun z=>g (by injection z))
    rw[e1]
    exact iteF (k H (Same.refl H))
theorem scHo:FnScope ["self"] ["self"] (defScope sHo):=.of (by decide +kernel)
theorem ok_ho (F:Fun K "on" "Behind.on" sHo f fd)(C:Cls K (cl .beh))(nR:NoAttr K (cl .beh) "reach"):FnOk P w K mg base CX0 1 f fd ["self"] (spO ks cl .beh d):=by
 refine F.ok scHo (fun vs H Q E h=>?_) (fun cdv A outer s H vs Q E hr h=>?_)
 ·obtain⟨p,q,rfl,_⟩:=h
  rfl
 ·obtain⟨p,q,rfl,hk,h2,h3,hq,k⟩:=h
  cases q<;>try cases hk
  obtain⟨dx,a,b,fs,h1,h2,h3,h4,h5,h6,h7⟩:=hq
  refine⟨_,pss_one (ps_ret (pe_fld (pv 0) rfl)),?_⟩
  exact⟨_,rfl,p,_,dx,_,_,rfl,h1,C,nR,h4,k⟩
theorem scAb:FnScope ["self"] ["self"] (defScope sAb):=.of (by decide +kernel)
theorem ok_ab (F:Fun K "back" "Ahead.back" sAb f fd)(C:Cls K (cl .ahd))(nR:NoAttr K (cl .ahd) "reach"):FnOk P w K mg base CX0 1 f fd ["self"] (spB ks cl .ahd d):=by
 refine F.ok scAb (fun vs H Q E h=>?_) (fun cdv A outer s H vs Q E hr h=>?_)
 ·obtain⟨p,q,rfl,_⟩:=h
  rfl
 ·obtain⟨p,q,rfl,hk,h2,h3,hq,k⟩:=h
  cases q<;>try cases hk
  obtain⟨dx,a,b,fs,h1,h2,h3,h4,h5,h6,h7⟩:=hq
  refine⟨_,pss_one (ps_ret (pe_fld (pv 0) rfl)),?_⟩
  exact⟨_,rfl,p,_,dx,_,_,rfl,h1,C,nR,h4,k⟩
theorem scHf:FnScope ["self","log","n","row"] ["self","log","n"] (defScope sHf):=.of (by decide +kernel)
theorem ok_hf (F:Fun K "found" "Behind.found" sHf f fd)(T:Txt mg)(C:Cls K (cl .beh))(nH:NoAttr K (cl .beh) "here")(nA:NoAttr K (cl .beh) "away")(nR:NoAttr K (cl .beh) "reach")
  (FW:Fun K "word_at" "word_at" sWa fW fdW) (bW:Binds K fdW ["entry","place"] []) (gW:mg "word_at"=some (.ref fW))
  (FS:Fun K "same_word" "same_word" sSw fS fdS) (bS:Binds K fdS ["entry","place","other","away"] []) (gS:mg "same_word"=some (.ref fS)):
  FnOk P w K mg base CX0 3 f fd ["self","log","n"] (spF ks cl .beh d):=by
 have GS:FnOk P w K mg base CX0 2 fS fdS ["entry","place","other","away"] spSw:=ok_sw FS T FW bW gW
 refine F.ok scHf (fun vs H Q E h=>?_) (fun cdv A outer s H vs Q E hr h=>?_)
 ·obtain⟨p,t,n,q,es,rfl,_⟩:=h
  rfl
 ·obtain⟨p,t,n,q,es,rfl,hk,hd,ho,hi,hq,L,l1,hn,k⟩:=h
  cases q<;>try cases hk
  rename_i F I G J R
  obtain⟨i0,j0,r1⟩:=ho
  obtain⟨dx,a,b,fs,h1,h2,h3,h4,h5,h8,h9⟩:=hq
  obtain⟨qs,ht,hE⟩:=id L
  have hql:(qs.map V.ref).length=es.length:=by rw[List.length_map];exact hE.1
  refine⟨_,pss_cons (ps_for PassesOwn.never rfl (pi_range2 rfl T.range (pa_cons (pe_op op_add (pv 2) pe_int) (pa_cons (pe_callB (call_min2 rfl) (by rfl) T.min PyProof.Rows.boot_min (pa_cons (pe_op op_add (pe_op op_add (pv 2) (pe_fld (pv 0) rfl)) pe_int) (pa_cons (pe_callB call_len_seq (by rfl) T.len PySem.boot_len (pa_cons (pv 1) pa_nil)) pa_nil))) pa_nil))) (pg_name (i:=3) scHf.nd rfl (Or.inl rfl))
    (pss_one (ps_if (pt_val (pe_call GS hr rfl gS FS.kp bS .nil pass0 (pa_cons (pe_ix ix_tup (pv 1) (pv 2) (fun _ _=>rfl)) (pa_cons (pe_fld (pv 0) rfl) (pa_cons (pe_ix ix_tup (pv 1) (pv 3) (fun _ _=>rfl)) (pa_cons (pe_fld (pv 0) rfl) pa_nil)))))) (pss_one (ps_ret (pe_tup (pa_cons (pv 2) (pa_cons (pv 3) pa_nil))))) pss_nil)))
   (pss_one (ps_ret pe_non)),?_⟩
  refine⟨_,rfl,_,_,rfl,rfl,_,rfl,_,rfl,p,_,dx,_,_,rfl,h1,C,nR,h4,_,_,rfl,rfl,_,_,rfl,rfl,_,rfl,t,_,rfl,.inr (SqT.of ht),_,_,rfl,?_⟩
  rw[hql]
  have hmin:(if (es.length:Int)<(n:Int)+(R:Int)+1 then(es.length:Int) else(n:Int)+(R:Int)+1)=((min (n+R+1) es.length:Nat):Int):=by
   split<;>omega
  rw[hmin]
  refine⟨_,_,rfl,⟨by omega,by omega,by omega,by omega⟩,?_⟩
  unfold foundM at k
  refine for_range (lo:=(n:Int)+1) (n:=(((min (n+R+1) es.length:Nat):Int)-((n:Int)+1)).toNat) (fun i σ H2=>∃v:Option V,H2=H/\σ=[some (.ref p),some (.ref t),some (.int n),v]/\∀m,n+1<=m->m<n+1+i->behP es n F I G J m=false)
   ⟨none,rfl,rfl,fun m m1 m2=>by omega⟩ ?_ ?_
  ·rintro i σ H2 hi2 ⟨v,rfl,rfl,hno⟩
   have em:(n:Int)+1+(i:Int)=((n+1+i:Nat):Int):=by omega
   rw[em]
   have hm:n+1+i<es.length:=by omega
   obtain⟨q,z,x1,x2,x3⟩:=ent_at hE (i:=(n:Int)) (by omega) (by omega)
   obtain⟨q',z',y1,y2,y3⟩:=ent_at hE (i:=((n+1+i:Nat):Int)) (by omega) (by omega)
   rw[Int.toNat_natCast] at x2 x3 y2 y3
   refine⟨_,rfl,_,rfl,t,_,_,_,rfl,rfl,SqT.of ht,x1,_,rfl,p,_,dx,_,_,rfl,h1,C,nH,h2,_,rfl,_,rfl,t,_,_,_,rfl,rfl,SqT.of ht,y1,_,rfl,p,_,dx,_,_,rfl,h1,C,nA,h3,?_⟩
   refine⟨q,z,a,q',z',b,_,_,F,I,G,J,rfl,x2,x3,h8,i0,y2,y3,h9,j0,_,rfl,?_⟩
   refine ite2 (fun hy=>?_) (fun hno'=>?_)
   ·refine⟨_,rfl,_,rfl,(by show 2<=sizeLine;decide),fun c hc=>?_⟩
    have f1:Fst (behP es n F I G J) (n+1) (min (n+R+1) es.length) (some (n+1+i)):=⟨by omega,by omega,hy,fun j j1 j2=>hno j j1 j2⟩
    rw[fst_to f1] at k
    exact k c _ ((Same.refl H2).upd_free hc) upd_same
   ·refine⟨_,rfl,rfl,fun m m1 m2=>?_⟩
    by_cases e:m<n+1+i
    ·exact hno m m1 e
    ·have e':m=n+1+i:=by omega
     rw[e']
     exact Bool.not_eq_true _ |>.mp hno'
  ·rintro σ H2 ⟨v,rfl,rfl,hno⟩
   have f1:Fst (behP es n F I G J) (n+1) (min (n+R+1) es.length) none:=fun m m1 m2=>hno m m1 (by omega)
   rw[fst_to f1] at k
   exact k H2 (Same.refl H2)
theorem scAf:FnScope ["self","log","n","row"] ["self","log","n"] (defScope sAf):=.of (by decide +kernel)
theorem ok_af (F:Fun K "found" "Ahead.found" sAf f fd)(T:Txt mg)(C:Cls K (cl .ahd))(nH:NoAttr K (cl .ahd) "here")(nA:NoAttr K (cl .ahd) "away")(nR:NoAttr K (cl .ahd) "reach")
  (FW:Fun K "word_at" "word_at" sWa fW fdW) (bW:Binds K fdW ["entry","place"] []) (gW:mg "word_at"=some (.ref fW))
  (FS:Fun K "same_word" "same_word" sSw fS fdS) (bS:Binds K fdS ["entry","place","other","away"] []) (gS:mg "same_word"=some (.ref fS)):
  FnOk P w K mg base CX0 3 f fd ["self","log","n"] (spF ks cl .ahd d):=by
 have GS:FnOk P w K mg base CX0 2 fS fdS ["entry","place","other","away"] spSw:=ok_sw FS T FW bW gW
 refine F.ok scAf (fun vs H Q E h=>?_) (fun cdv A outer s H vs Q E hr h=>?_)
 ·obtain⟨p,t,n,q,es,rfl,_⟩:=h
  rfl
 ·obtain⟨p,t,n,q,es,rfl,hk,hd,ho,hi,hq,L,l1,hn,k⟩:=h
  cases q<;>try cases hk
  rename_i F I G J R
  obtain⟨i0,j0,r1⟩:=ho
  obtain⟨dx,a,b,fs,h1,h2,h3,h4,h5,h8,h9⟩:=hq
  obtain⟨qs,ht,hE⟩:=id L
  refine⟨_,pss_cons (ps_for PassesOwn.never rfl (pi_rangeD rfl T.range (pa_cons (pe_op op_sub (pv 2) pe_int) (pa_cons (pe_op op_sub (pe_callB (call_max2 rfl) (by rfl) T.max PyProof.Rows.boot_max (pa_cons (pe_op op_sub (pv 2) (pe_fld (pv 0) rfl)) (pa_cons pe_int pa_nil))) pe_int) (pa_cons (pe_un un_neg pe_int) pa_nil)))) (pg_name (i:=3) scAf.nd rfl (Or.inl rfl))
    (pss_one (ps_if (pt_val (pe_call GS hr rfl gS FS.kp bS .nil pass0 (pa_cons (pe_ix ix_tup (pv 1) (pv 2) (fun _ _=>rfl)) (pa_cons (pe_fld (pv 0) rfl) (pa_cons (pe_ix ix_tup (pv 1) (pv 3) (fun _ _=>rfl)) (pa_cons (pe_fld (pv 0) rfl) pa_nil)))))) (pss_one (ps_ret (pe_tup (pa_cons (pv 3) (pa_cons (pv 2) pa_nil))))) pss_nil)))
   (pss_one (ps_ret pe_non)),?_⟩
  refine⟨_,rfl,_,_,rfl,rfl,_,rfl,_,rfl,p,_,dx,_,_,rfl,h1,C,nR,h4,_,_,rfl,rfl,_,_,rfl,_,_,rfl,rfl,_,rfl,?_⟩
  have hmax:(if (0:Int) > (n:Int)-(R:Int) then(0:Int) else(n:Int)-(R:Int))=((n-R:Nat):Int):=by
   split<;>omega
  rw[hmax]
  refine⟨_,_,rfl,⟨by omega,by omega,by omega,by omega⟩,?_⟩
  unfold foundM at k
  refine for_down (lo:=(n:Int)-1) (n:=((n:Int)-1-(((n-R:Nat):Int)-1)).toNat) (fun i σ H2=>∃v:Option V,H2=H/\σ=[some (.ref p),some (.ref t),some (.int n),v]/\∀m,n-i<=m->m<n->behP es n F I G J m=false)
   ⟨none,rfl,rfl,fun m m1 m2=>by omega⟩ ?_ ?_
  ·rintro i σ H2 hi2 ⟨v,rfl,rfl,hno⟩
   have em:(n:Int)-1-(i:Int)=((n-1-i:Nat):Int):=by omega
   rw[em]
   obtain⟨q,z,x1,x2,x3⟩:=ent_at hE (i:=(n:Int)) (by omega) (by omega)
   obtain⟨q',z',y1,y2,y3⟩:=ent_at hE (i:=((n-1-i:Nat):Int)) (by omega) (by omega)
   rw[Int.toNat_natCast] at x2 x3 y2 y3
   refine⟨_,rfl,_,rfl,t,_,_,_,rfl,rfl,SqT.of ht,x1,_,rfl,p,_,dx,_,_,rfl,h1,C,nH,h2,_,rfl,_,rfl,t,_,_,_,rfl,rfl,SqT.of ht,y1,_,rfl,p,_,dx,_,_,rfl,h1,C,nA,h3,?_⟩
   refine⟨q,z,a,q',z',b,_,_,F,I,G,J,rfl,x2,x3,h8,i0,y2,y3,h9,j0,_,rfl,?_⟩
   refine ite2 (fun hy=>?_) (fun hno'=>?_)
   ·refine⟨_,rfl,_,rfl,(by show 2<=sizeLine;decide),fun c hc=>?_⟩
    have f1:Lst (behP es n F I G J) (n-R) n (some (n-1-i)):=⟨by omega,by omega,hy,fun j j1 j2=>hno j (by omega) j2⟩
    rw[lst_to f1] at k
    exact k c _ ((Same.refl H2).upd_free hc) upd_same
   ·refine⟨_,rfl,rfl,fun m m1 m2=>?_⟩
    by_cases e:n-i<=m
    ·exact hno m e m2
    ·have e':m=n-1-i:=by omega
     rw[e']
     exact Bool.not_eq_true _ |>.mp hno'
  ·rintro σ H2 ⟨v,rfl,rfl,hno⟩
   have f1:Lst (behP es n F I G J) (n-R) n none:=fun m m1 m2=>hno m (by omega) m2
   rw[lst_to f1] at k
   exact k H2 (Same.refl H2)
end
end QL
namespace QL
open PySem L2
theorem any_int (rows:List Nat)(n:Nat):((rows.map fun(m:Nat)=>PyData.int (m:Int)).any fun d=>PyData.eqv d (.int (n:Int)))=decide (n∈rows):=by
 induction rows with
 |nil=>rfl
 |cons a r ih=>
  rw[List.map_cons,List.any_cons,ih,PyData.eqv]
  by_cases e:n=a
  ·subst e
   simp
  ·have e1:((a:Int)==(n:Int))=false:=beq_eq_false_iff_ne.mpr (by omega)
   rw[e1,Bool.false_or]
   have:n∈a::r↔n∈r:=by
    rw[List.mem_cons]
    exact⟨fun z=>z.elim (fun z=>absurd z e) id,.inr⟩
   exact(decide_eq_decide.mpr this).symm
theorem nats_at {K:W.Frag}{H:Hp}:∀ns:List Nat,DsAt K H (vN ns) (ns.map fun(m:Nat)=>PyData.int (m:Int))
 | []=>.nil
 |n::ns=>.cons (.int n) (nats_at ns)
theorem nats_lay:∀ns:List Nat,PyData.canLayAll0 (ns.map fun(m:Nat)=>PyData.int (m:Int))=true
 | []=>rfl
 |n::ns=>by
  rw[List.map_cons,PyData.canLayAll0,nats_lay ns]
  rfl
theorem int_ok (n:Int):DOk (.int n):=⟨rfl,by rw[PyData.depth];decide⟩
theorem rng_nil (a:Nat):rng a (a+0)=[]:=by
 unfold rng
 have e:a+0-a=0:=by omega
 rw[e]
 rfl
theorem vN_len (rows:List Nat):(vN rows).length=rows.length:=List.length_map ..
section
variable {P:Program} {w:World} {K:W.Frag} {mg:Str->Option Value} {base:Heap} {ks:Kd->Bool} {cl:Kd->Addr} {d lev:Nat}
theorem scTb:FnScope ["self"] ["self"] (defScope sTb):=.of (by decide +kernel)
theorem ok_tb (F:Fun K "back" "Times.back" sTb f fd)(C:Cls K (cl .tim))(nR:NoAttr K (cl .tim) "reach")(nI:NoAttr K (cl .tim) "inner")(T:Tab P w K mg base ks cl d lev):FnOk P w K mg base CX0 (lev+1) f fd ["self"] (spB ks cl .tim (d+1)):=by
 refine F.ok scTb (fun vs H Q E h=>?_) (fun cdv A outer s H vs Q E hr h=>?_)
 ·obtain⟨p,q,rfl,_⟩:=h
  rfl
 ·obtain⟨p,q,rfl,hk,hd,hi,hq,k⟩:=h
  cases q<;>try cases hk
  rename_i R L q
  obtain⟨dx,fs,c,h1,h2,h3,h4,h5,h6⟩:=hq
  refine⟨_,pss_one (ps_ret (pe_op op_sub (pe_op op_add (pe_methD0 (CX:=CX0) (pe_fld (pv 0) rfl) hr pass0) (pe_fld (pv 0) rfl)) pe_int)),?_⟩
  obtain⟨dx',fs',f',fd',g1,g2,g3,g4,g5,g6⟩:=T.back h6 hi.2
  have hd':q.dep<d:=Nat.lt_of_succ_lt_succ hd
  refine⟨_,rfl,p,_,dx,_,_,rfl,h1,C,nI,h4,c,_,dx',fs',f',fd',_,_,rfl,g1,g2,g3,g4,g5,g6,c,q,rfl,rfl,hd',hi.2,h6,?_⟩
  exact⟨_,rfl,p,_,dx,_,_,rfl,h1,C,nR,h2,_,_,rfl,rfl,_,_,rfl,rfl,k⟩
theorem scTo:FnScope ["self"] ["self"] (defScope sTo):=.of (by decide +kernel)
theorem ok_to (F:Fun K "on" "Times.on" sTo f fd)(C:Cls K (cl .tim))(nI:NoAttr K (cl .tim) "inner")(T:Tab P w K mg base ks cl d lev):FnOk P w K mg base CX0 (lev+1) f fd ["self"] (spO ks cl .tim (d+1)):=by
 refine F.ok scTo (fun vs H Q E h=>?_) (fun cdv A outer s H vs Q E hr h=>?_)
 ·obtain⟨p,q,rfl,_⟩:=h
  rfl
 ·obtain⟨p,q,rfl,hk,hd,hi,hq,k⟩:=h
  cases q<;>try cases hk
  rename_i R L q
  obtain⟨dx,fs,c,h1,h2,h3,h4,h5,h6⟩:=hq
  refine⟨_,pss_one (ps_ret (pe_methD0 (CX:=CX0) (pe_fld (pv 0) rfl) hr pass0)),?_⟩
  obtain⟨dx',fs',f',fd',g1,g2,g3,g4,g5,g6⟩:=T.on h6 hi.2
  have hd':q.dep<d:=Nat.lt_of_succ_lt_succ hd
  exact⟨_,rfl,p,_,dx,_,_,rfl,h1,C,nI,h4,c,_,dx',fs',f',fd',_,_,rfl,g1,g2,g3,g4,g5,g6,c,q,rfl,rfl,hd',hi.2,h6,k⟩
theorem scTf:FnScope ["self","log","n","start","rows"] ["self","log","n"] (defScope sTf):=.of (by decide +kernel)
def scopeT:Scope:=⟨.function,[(".0",.local),("row",.local),("log",.free),("self",.free)],false,false,[]⟩
theorem scT:BlkScope (defScope sTf) ["self","log","n","start","rows"] ["row"] ["self","log"] [0,1] scopeT:=.of (by decide +kernel)
theorem ok_tf (F:Fun K "found" "Times.found" sTf f fd)(TX:Txt mg)(C:Cls K (cl .tim))(nR:NoAttr K (cl .tim) "reach")(nL:NoAttr K (cl .tim) "least")(nI:NoAttr K (cl .tim) "inner")(T:Tab P w K mg base ks cl d lev):FnOk P w K mg base CX0 (lev+1) f fd ["self","log","n"] (spF ks cl .tim (d+1)):=by
 refine F.ok scTf (fun vs H Q E h=>?_) (fun cdv A outer s H vs Q E hr h=>?_)
 ·obtain⟨p,t,n,q,es,rfl,_⟩:=h
  rfl
 ·obtain⟨p,t,n,q,es,rfl,hk,hd,ho,hi,hq,L,l1,hn,k⟩:=h
  cases q<;>try cases hk
  rename_i R M q
  obtain⟨r1,r2,m1,ho'⟩:=ho
  obtain⟨dx,fs,c,h1,h2,h3,h4,h5,h6⟩:=hq
  have hu:=hr.units
  have hd':q.dep<d:=Nat.lt_of_succ_lt_succ hd
  refine⟨_,pss_cons (ps_set (i:=3) scTf.nd rfl (Or.inl rfl) (pe_callB (call_max2 rfl) (by rfl) TX.max PyProof.Rows.boot_max (pa_cons (pe_op op_add (pe_op op_sub (pv 2) (pe_fld (pv 0) rfl)) pe_int) (pa_cons pe_int pa_nil))))
   (pss_cons (ps_setlc (i:=4) scT rfl rfl rfl (pi_range2 rfl TX.range (pa_cons (pv 3) (pa_cons (pe_op op_add (pv 2) pe_int) pa_nil))) (fun fp C s1 H1=>pg_name (i:=0) scT.nd rfl (Or.inl rfl))
    (fun fp C s1 H1=>pts_one (pt_cmp (pc_notN (pe_methDK (P:=P) (w:=w) (K:=K) (mg:=mg) (base:=base) (CX:=CX0) rfl rfl rfl rfl rfl (pe_fldK (K:=K) rfl (pv 1) rfl) hr pass0 (pa_cons (pv 2) (pa_cons (pv 0) pa_nil)))))) (fun fp C s1 H1=>pv 0) scTf.nd rfl rfl rfl)
   (pss_one (ps_ret (pe_ifExp (PW.pt (pw_and (pt_cmpR (op_inD hu) (pv 2) (pv 4) (by with_unfolding_all rfl)) (pw_and1 (pt_cmpR op_ge (pe_callB call_len_seq (by rfl) TX.len PySem.boot_len (pa_cons (pv 4) pa_nil)) (pe_fld (pv 0) rfl) (nomark _)))))
    (pe_callTy call_tuple_of (by rfl) TX.tuple PyProof.Rows.boot_tuple (pa_cons (pv 4) pa_nil)) pe_non)))),?_⟩
  refine⟨_,rfl,_,rfl,p,_,dx,_,_,rfl,h1,C,nR,h2,_,_,rfl,rfl,_,_,rfl,rfl,_,_,rfl,?_⟩
  have hmax:(if (0:Int) > (n:Int)-(R:Int)+1 then(0:Int) else(n:Int)-(R:Int)+1)=((n+1-R:Nat):Int):=by
   split<;>omega
  rw[hmax]
  refine⟨_,rfl,_,rfl,_,_,rfl,rfl,_,_,rfl,⟨by omega,by omega,by omega,by omega⟩,fun D hD=>?_⟩
  refine lc_range (lo:=((n+1-R:Nat):Int)) (n:=((n:Int)+1-((n+1-R:Nat):Int)).toNat) (fun j ys H3=>Same H H3/\H3 D=some (.lst ys)/\ys=vN ((rng (n+1-R) (n+1-R+j)).filter fun m=>(foundM es q m).isSome)) (Nat.le_of_lt (small1000 (by omega)))
   ⟨(Same.refl H).upd_free hD,upd_same,by rw[rng_nil];rfl⟩ (fun j ys H3 h=>by rw[h.2.2,vN_len];exact Nat.le_trans (List.length_filter_le ..) (by rw[rng_len];omega)) ?_ ?_
  ·rintro j ys H3 N M' hj ⟨u1,u2,rfl⟩ hN hM
   have em:((n+1-R:Nat):Int)+(j:Int)=((n+1-R+j:Nat):Int):=by omega
   rw[em]
   have hm:n+1-R+j<es.length:=by omega
   have hr2:rng (n+1-R) (n+1-R+(j+1))=rng (n+1-R) (n+1-R+j)++[n+1-R+j]:=by
    unfold rng
    have e1:n+1-R+(j+1)-(n+1-R)=(n+1-R+j-(n+1-R))+1:=by omega
    rw[e1,List.range_succ,List.map_append]
    have e2:n+1-R+j-(n+1-R)=j:=by omega
    rw[e2]
    rfl
   obtain⟨dx',fs',f',fd',g1,g2,g3,g4,g5,g6⟩:=T.found (QAt.same u1 h6) hi.2
   refine⟨_,rfl,p,_,dx,_,_,rfl,u1 _ _ h1,C,nI,h4,c,_,dx',fs',f',fd',_,_,rfl,g1,g2,g3,g4,g5,g6,_,rfl,_,rfl,c,t,n+1-R+j,q,es,rfl,rfl,hd',ho',hi.2,QAt.same u1 h6,L.same u1,l1,hm,?_⟩
   cases hf:foundM es q (n+1-R+j) with
   |none=>
    intro H4 u4
    refine⟨_,rfl,iteNS rfl ?_⟩
    refine hM H4 ⟨u1.trans u4,u4 _ _ u2,?_⟩
    rw[hr2,List.filter_append]
    have e0:[n+1-R+j].filter (fun m=>(foundM es q m).isSome)=[]:=by simp[hf]
    rw[e0,List.append_nil]
   |some rows=>
    intro a H4 u4 ha
    refine⟨_,rfl,?_⟩
    have nn:¬(V.ref a=V.non):=fun z=>by cases z
    rw[decide_eq_false nn]
    refine iteT ⟨_,rfl,?_⟩
    have e0:vN ((rng (n+1-R) (n+1-R+(j+1))).filter fun m=>(foundM es q m).isSome)=vN ((rng (n+1-R) (n+1-R+j)).filter fun m=>(foundM es q m).isSome)++[V.int ((n+1-R+j:Nat):Int)]:=by
     rw[hr2,List.filter_append]
     have e0:[n+1-R+j].filter (fun m=>(foundM es q m).isSome)=[n+1-R+j]:=by simp[hf]
     rw[e0]
     unfold vN
     rw[List.map_append]
     rfl
    exact hN _ H4 (u4 _ _ u2) ⟨(u1.trans u4).upd_free hD,upd_same,e0.symm⟩
  ·rintro ys H3 ⟨u1,u2,rfl⟩
   have e3:n+1-R+((n:Int)+1-((n+1-R:Nat):Int)).toNat=n+1:=by omega
   rw[e3] at u2
   unfold foundM at k
   generalize hrows:(rng (n+1-R) (n+1)).filter (fun m=>(foundM es q m).isSome)=rows at k u2
   have hlen:rows.length<=1000:=by
    rw[<- hrows]
    exact Nat.le_trans (List.length_filter_le ..) (by rw[rng_len];omega)
   refine⟨_,rfl,_,rfl,D,_,.int (n:Int),_,rfl,.inl (SqL.of u2),nats_at rows,.int n,int_ok n,nats_lay rows,_,rfl,?_⟩
   rw[show(if false=true then !((rows.map fun(m:Nat)=>PyData.int (m:Int)).any fun d=>PyData.eqv d (.int (n:Int))) else((rows.map fun(m:Nat)=>PyData.int (m:Int)).any fun d=>PyData.eqv d (.int (n:Int))))=decide (n∈rows) from by rw[if_neg Bool.false_ne_true,any_int]]
   by_cases hin:n∈rows
   ·rw[decide_eq_true hin]
    refine iteT ⟨_,rfl,D,_,rfl,.inl (SqL.of u2),_,rfl,p,_,dx,_,_,rfl,u1 _ _ h1,C,nL,h3,_,_,rfl,rfl,_,rfl,?_⟩
    rw[vN_len]
    by_cases hle:M<=rows.length
    ·have e1:decide ((M:Int)<=(rows.length:Int))=true:=decide_eq_true (by omega)
     rw[e1]
     rw[if_pos ⟨hin,hle⟩] at k
     refine iteT ⟨_,rfl,D,_,rfl,.inl ⟨SqL.of u2,fun a ha=>?_⟩⟩
     exact k a _ (u1.upd_free (u1.free ha)) upd_same
    ·have e1:decide ((M:Int)<=(rows.length:Int))=false:=decide_eq_false (by omega)
     rw[e1]
     rw[if_neg (fun z=>hle z.2)] at k
     exact iteF (k H3 u1)
   ·rw[decide_eq_false hin]
    rw[if_neg (fun z=>hin z.1)] at k
    exact iteF (iteF (k H3 u1))
theorem scNb:FnScope ["self"] ["self"] (defScope sNb):=.of (by decide +kernel)
theorem ok_nb (F:Fun K "back" "Not.back" sNb f fd)(C:Cls K (cl .non))(nO:NoAttr K (cl .non) "one")(T:Tab P w K mg base ks cl d lev):FnOk P w K mg base CX0 (lev+1) f fd ["self"] (spB ks cl .non (d+1)):=by
 refine F.ok scNb (fun vs H Q E h=>?_) (fun cdv A outer s H vs Q E hr h=>?_)
 ·obtain⟨p,q,rfl,_⟩:=h
  rfl
 ·obtain⟨p,q,rfl,hk,hd,hi,hq,k⟩:=h
  cases q<;>try cases hk
  rename_i q
  obtain⟨dx,fs,c,h1,h2,h3,h4⟩:=hq
  refine⟨_,pss_one (ps_ret (pe_methD0 (CX:=CX0) (pe_fld (pv 0) rfl) hr pass0)),?_⟩
  obtain⟨dx',fs',f',fd',g1,g2,g3,g4,g5,g6⟩:=T.back h4 hi.2
  have hd':q.dep<d:=Nat.lt_of_succ_lt_succ hd
  exact⟨_,rfl,p,_,dx,_,_,rfl,h1,C,nO,h2,c,_,dx',fs',f',fd',_,_,rfl,g1,g2,g3,g4,g5,g6,c,q,rfl,rfl,hd',hi.2,h4,k⟩
theorem scNo:FnScope ["self"] ["self"] (defScope sNo):=.of (by decide +kernel)
theorem ok_no (F:Fun K "on" "Not.on" sNo f fd)(C:Cls K (cl .non))(nO:NoAttr K (cl .non) "one")(T:Tab P w K mg base ks cl d lev):FnOk P w K mg base CX0 (lev+1) f fd ["self"] (spO ks cl .non (d+1)):=by
 refine F.ok scNo (fun vs H Q E h=>?_) (fun cdv A outer s H vs Q E hr h=>?_)
 ·obtain⟨p,q,rfl,_⟩:=h
  rfl
 ·obtain⟨p,q,rfl,hk,hd,hi,hq,k⟩:=h
  cases q<;>try cases hk
  rename_i q
  obtain⟨dx,fs,c,h1,h2,h3,h4⟩:=hq
  refine⟨_,pss_one (ps_ret (pe_methD0 (CX:=CX0) (pe_fld (pv 0) rfl) hr pass0)),?_⟩
  obtain⟨dx',fs',f',fd',g1,g2,g3,g4,g5,g6⟩:=T.on h4 hi.2
  have hd':q.dep<d:=Nat.lt_of_succ_lt_succ hd
  exact⟨_,rfl,p,_,dx,_,_,rfl,h1,C,nO,h2,c,_,dx',fs',f',fd',_,_,rfl,g1,g2,g3,g4,g5,g6,c,q,rfl,rfl,hd',hi.2,h4,k⟩
theorem scNf:FnScope ["self","log","n"] ["self","log","n"] (defScope sNf):=.of (by decide +kernel)
theorem ok_nf (F:Fun K "found" "Not.found" sNf f fd)(C:Cls K (cl .non))(nO:NoAttr K (cl .non) "one")(T:Tab P w K mg base ks cl d lev):FnOk P w K mg base CX0 (lev+1) f fd ["self","log","n"] (spF ks cl .non (d+1)):=by
 refine F.ok scNf (fun vs H Q E h=>?_) (fun cdv A outer s H vs Q E hr h=>?_)
 ·obtain⟨p,t,n,q,es,rfl,_⟩:=h
  rfl
 ·obtain⟨p,t,n,q,es,rfl,hk,hd,ho,hi,hq,L,l1,hn,k⟩:=h
  cases q<;>try cases hk
  rename_i q
  obtain⟨dx,fs,c,h1,h2,h3,h4⟩:=hq
  refine⟨_,pss_one (ps_ret (pe_ifExp (pt_cmp (pc_isN (pe_methD (CX:=CX0) (pe_fld (pv 0) rfl) hr pass0 (pa_cons (pv 1) (pa_cons (pv 2) pa_nil))))) (pe_tup pa_nil) pe_non)),?_⟩
  obtain⟨dx',fs',f',fd',g1,g2,g3,g4,g5,g6⟩:=T.found h4 hi.2
  have hd':q.dep<d:=Nat.lt_of_succ_lt_succ hd
  refine⟨_,rfl,p,_,dx,_,_,rfl,h1,C,nO,h2,c,_,dx',fs',f',fd',_,_,rfl,g1,g2,g3,g4,g5,g6,_,rfl,_,rfl,c,t,n,q,es,rfl,rfl,hd',ho,hi.2,h4,L,l1,hn,?_⟩
  unfold foundM at k
  cases hf:foundM es q n with
  |none=>
   rw[hf] at k
   intro H4 u4
   refine⟨_,rfl,iteT ⟨Nat.zero_le _,fun a ha=>?_⟩⟩
   exact k a _ (u4.upd_free (u4.free ha)) upd_same
  |some rows=>
   rw[hf] at k
   intro a H4 u4 ha
   refine⟨_,rfl,?_⟩
   have nn:¬(V.ref a=V.non):=fun z=>by cases z
   rw[decide_eq_false nn]
   exact iteF (k H4 u4)
end
end QL
namespace QL
open PySem L2
theorem iteTK {c:Bool}{A B:Prop}(h:c=true)(a:A):if c=true then A else B:=by
 rw[if_pos h]
 exact a
theorem iteFK {c:Bool}{A B:Prop}(h:c=false)(b:B):if c=true then A else B:=by
 rw[h]
 exact iteF b
def AAt (H:Hp):Qn->Addr->Prop
 |.row F,p=>H p=some (.tup [.str (Str.ofString "row"),.int F])
 |.wit F I W,p=>H p=some (.tup [.str (Str.ofString "with"),.int F,.int I,.str W])
 |.beh F I G J R,p=>H p=some (.tup [.str (Str.ofString "behind"),.int F,.int I,.int G,.int J,.int R])
 |.ahd F I G J R,p=>H p=some (.tup [.str (Str.ofString "ahead"),.int F,.int I,.int G,.int J,.int R])
 |.tim K C q,p=>∃c,H p=some (.tup [.str (Str.ofString "times"),.int K,.int C,.ref c])/\AAt H q c
 |.bot q r,p=>∃c e,H p=some (.tup [.str (Str.ofString "both"),.ref c,.ref e])/\AAt H q c/\AAt H r e
 |.eit q r,p=>∃c e,H p=some (.tup [.str (Str.ofString "either"),.ref c,.ref e])/\AAt H q c/\AAt H r e
 |.non q,p=>∃c,H p=some (.tup [.str (Str.ofString "not"),.ref c])/\AAt H q c
theorem AAt.same {H H':Hp}(s:Same H H'):∀{q:Qn} {p:Addr},AAt H q p->AAt H' q p
 |.row _,_,h=>s _ _ h
 |.wit _ _ _,_,h=>s _ _ h
 |.beh _ _ _ _ _,_,h=>s _ _ h
 |.ahd _ _ _ _ _,_,h=>s _ _ h
 |.tim _ _ _,_,⟨c,h1,h2⟩=>⟨c,s _ _ h1,AAt.same s h2⟩
 |.bot _ _,_,⟨c,e,h1,h2,h3⟩=>⟨c,e,s _ _ h1,AAt.same s h2,AAt.same s h3⟩
 |.eit _ _,_,⟨c,e,h1,h2,h3⟩=>⟨c,e,s _ _ h1,AAt.same s h2,AAt.same s h3⟩
 |.non _,_,⟨c,h1,h2⟩=>⟨c,s _ _ h1,AAt.same s h2⟩
def Old (H1 H:Hp)(p:Addr):Prop:=∀b o,H1 b=some o->b≠p/\H b=some o
def Kept (H H':Hp)(p:Addr):Prop:=∀b o,H b=some o->b≠p->H' b=some o
theorem Old.then {H1 H H':Hp}{p:Addr}(h:Old H1 H p)(k:Kept H H' p):Same H1 H':=fun b o e=>k b o (h b o e).2 (h b o e).1
theorem Old.new {H:Hp}{x dx:Addr}{C:Addr}{fs:List (Str×V)}(nx:H x=none)(ndx:H dx=none):Old H (upd (upd H dx (.own x)) x (.ins C dx fs)) x:=fun b o e=>⟨ne_of_none e nx,by
 rw[upd_ne (ne_of_none e nx),upd_ne (ne_of_none e ndx)]
 exact e⟩
def spRi (cl:Kd->Addr):Sp:=fun vs H Q _=>∃(p dx:Addr) (F:Int),vs=[.ref p,.int F]/\H p=some (.ins (cl .row) dx [])/\∀H',QAt cl H' (.row F) p->Kept H H' p->Q .non H'
def spWi (cl:Kd->Addr):Sp:=fun vs H Q _=>∃(p dx:Addr) (F I:Int) (W:Str),vs=[.ref p,.int F,.int I,.str W]/\H p=some (.ins (cl .wit) dx [])/\∀H',QAt cl H' (.wit F I W) p->Kept H H' p->Q .non H'
def spFi (C:Addr):Sp:=fun vs H Q _=>∃(p dx:Addr) (F I G J:Int) (R:Nat),vs=[.ref p,.int F,.int I,.int G,.int J,.int R]/\H p=some (.ins C dx [])/\∀H',FarAt C H' p F I G J R->Kept H H' p->Q .non H'
def spTi (cl:Kd->Addr):Sp:=fun vs H Q _=>∃(p dx c:Addr) (R M:Nat) (q:Qn) (H1:Hp),vs=[.ref p,.int R,.int M,.ref c]/\H p=some (.ins (cl .tim) dx [])/\QAt cl H1 q c/\Old H1 H p/\∀H',QAt cl H' (.tim R M q) p->Kept H H' p->Q .non H'
def spNi (cl:Kd->Addr):Sp:=fun vs H Q _=>∃(p dx c:Addr) (q:Qn) (H1:Hp),vs=[.ref p,.ref c]/\H p=some (.ins (cl .non) dx [])/\QAt cl H1 q c/\Old H1 H p/\∀H',QAt cl H' (.non q) p->Kept H H' p->Q .non H'
section
variable {P:Program} {w:World} {K:W.Frag} {mg:Str->Option Value} {base:Heap} {ks:Kd->Bool} {cl:Kd->Addr}
theorem scRi:FnScope ["self","letter"] ["self","letter"] (defScope sRi):=.of (by decide +kernel)
theorem ok_ri (F:Fun K "__init__" "Row.__init__" sRi f fd)(C:Cls K (cl .row))(nW:NoAttr K (cl .row) "wanted"):FnOk P w K mg base CX0 1 f fd ["self","letter"] (spRi cl):=by
 refine F.ok scRi (fun vs H Q E h=>?_) (fun cdv A outer s H vs Q E hr h=>?_)
 ·obtain⟨p,dx,F,rfl,_⟩:=h
  rfl
 ·obtain⟨p,dx,F,rfl,hp,k⟩:=h
  refine⟨_,pss_one (ps_fld (pv 0) (pv 1) rfl),?_⟩
  refine⟨_,rfl,_,rfl,p,_,dx,_,rfl,hp,C,nW,(by show 0<1000;decide),?_⟩
  refine k _ ⟨dx,_,upd_same,?_,NoMeth.nil.put (by decide +kernel) (by decide +kernel) (by decide +kernel)⟩ fun c o e hc=>?_
  ·rw[lookup_putF,if_pos rfl]
  ·rw[upd_ne hc]
   exact e
theorem scWi:FnScope ["self","letter","gap","word"] ["self","letter","gap","word"] (defScope sWi):=.of (by decide +kernel)
theorem ok_wi (F:Fun K "__init__" "With.__init__" sWi f fd)(C:Cls K (cl .wit))(nH:NoAttr K (cl .wit) "here")(nW:NoAttr K (cl .wit) "wanted"):FnOk P w K mg base CX0 1 f fd ["self","letter","gap","word"] (spWi cl):=by
 refine F.ok scWi (fun vs H Q E h=>?_) (fun cdv A outer s H vs Q E hr h=>?_)
 ·obtain⟨p,dx,F,I,W,rfl,_⟩:=h
  rfl
 ·obtain⟨p,dx,F,I,W,rfl,hp,k⟩:=h
  refine⟨_,pss_cons (ps_fld (pv 0) (pe_tup (pa_cons (pv 1) (pa_cons (pv 2) pa_nil))) rfl) (pss_one (ps_fld (pv 0) (pv 3) rfl)),?_⟩
  refine⟨_,rfl,_,rfl,(by show 2<=sizeLine;decide),fun a ha=>?_⟩
  have npa:p≠a:=ne_of_none hp ha
  refine⟨_,rfl,p,_,dx,_,rfl,(by rw[upd_ne npa];exact hp),C,nH,(by show 0<1000;decide),?_⟩
  refine⟨_,rfl,_,rfl,p,_,dx,_,rfl,upd_same,C,nW,(by show 1<1000;decide),?_⟩
  refine k _ ⟨dx,a,_,upd_same,?_,?_,(NoMeth.nil.put (by decide +kernel) (by decide +kernel) (by decide +kernel)).put (by decide +kernel) (by decide +kernel) (by decide +kernel),?_⟩ fun c o e hc=>?_
  ·rw[lookup_putF,if_neg (by decide +kernel),lookup_putF,if_pos rfl]
  ·rw[lookup_putF,if_pos rfl]
  ·rw[upd_ne (Ne.symm npa),upd_ne (Ne.symm npa),upd_same]
  ·rw[upd_ne hc,upd_ne hc,upd_ne (ne_of_none e ha)]
   exact e
theorem far_body {X:Cx}{C:Addr}{body:List Stmt}{t:TS}{H:Hp}{p dx:Addr}{F I G J:Int}{R:Nat}{Q:VK}(hK:X.K=K)(CC:Cls K C)(nH:NoAttr K C "here")(nA:NoAttr K C "away")(nR:NoAttr K C "reach")(hp:H p=some (.ins C dx []))
  (k:∀H',FarAt C H' p F I G J R->Kept H H' p->Q .non H')
  (ht:t=tSeq (sFld K (tVar 0) (tTup (tCons (tVar 1) (tCons (tVar 2) tNil))) "here") (tSeq (sFld K (tVar 0) (tTup (tCons (tVar 3) (tCons (tVar 4) tNil))) "away") (sFld K (tVar 0) (tVar 5) "reach"))):
  t { nx:=fun _ H'=>Q .non H',rt:=Q } [some (.ref p),some (.int F),some (.int I),some (.int G),some (.int J),some (.int R)] H:=by
 subst ht
 refine⟨_,rfl,_,rfl,(by show 2<=sizeLine;decide),fun a ha=>?_⟩
 have npa:p≠a:=ne_of_none hp ha
 refine⟨_,rfl,p,C,dx,_,rfl,(by rw[upd_ne npa];exact hp),CC,nH,(by show 0<1000;decide),?_⟩
 refine⟨_,rfl,_,rfl,(by show 2<=sizeLine;decide),fun b hb=>?_⟩
 have npb:p≠b:=fun e=>by rw[<- e,upd_same] at hb;cases hb
 have nab:a≠b:=fun e=>by rw[<- e,upd_ne (Ne.symm npa),upd_same] at hb;cases hb
 have hbH:H b=none:=by rw[upd_ne (Ne.symm npb),upd_ne (Ne.symm nab)] at hb;exact hb
 refine⟨_,rfl,p,C,dx,_,rfl,(by rw[upd_ne npb];exact upd_same),CC,nA,(by show 1<1000;decide),?_⟩
 refine⟨_,rfl,_,rfl,p,C,dx,_,rfl,upd_same,CC,nR,?_,?_⟩
 ·have:=length_putF "away" (.ref b) (putF "here" (.ref a) [])
  have e:(putF "here" (.ref a) []:List (Str×V)).length=1:=rfl
  omega
 refine k _ ⟨dx,a,b,_,upd_same,?_,?_,?_,((NoMeth.nil.put (by decide +kernel) (by decide +kernel) (by decide +kernel)).put (by decide +kernel) (by decide +kernel) (by decide +kernel)).put (by decide +kernel) (by decide +kernel) (by decide +kernel),?_,?_⟩ fun c o e hc=>?_
 ·rw[lookup_putF,if_neg (by decide +kernel),lookup_putF,if_neg (by decide +kernel),lookup_putF,if_pos rfl]
 ·rw[lookup_putF,if_neg (by decide +kernel),lookup_putF,if_pos rfl]
 ·rw[lookup_putF,if_pos rfl]
 ·rw[upd_ne (Ne.symm npa),upd_ne (Ne.symm npa),upd_ne nab,upd_ne (Ne.symm npa),upd_same]
 ·rw[upd_ne (Ne.symm npb),upd_ne (Ne.symm npb),upd_same]
 ·have na:=ne_of_none e ha
  have nb:=ne_of_none e hbH
  rw[upd_ne hc,upd_ne hc,upd_ne nb,upd_ne hc,upd_ne na]
  exact e
theorem scHi:FnScope ["self","letter","gap","other","there","reach"] ["self","letter","gap","other","there","reach"] (defScope sHi):=.of (by decide +kernel)
theorem ok_hi (F:Fun K "__init__" "Behind.__init__" sHi f fd)(CC:Cls K C)(nH:NoAttr K C "here")(nA:NoAttr K C "away")(nR:NoAttr K C "reach"):FnOk P w K mg base CX0 1 f fd ["self","letter","gap","other","there","reach"] (spFi C):=by
 refine F.ok scHi (fun vs H Q E h=>?_) (fun cdv A outer s H vs Q E hr h=>?_)
 ·obtain⟨p,dx,F,I,G,J,R,rfl,_⟩:=h
  rfl
 ·obtain⟨p,dx,F,I,G,J,R,rfl,hp,k⟩:=h
  exact⟨_,pss_cons (ps_fld (pv 0) (pe_tup (pa_cons (pv 1) (pa_cons (pv 2) pa_nil))) rfl) (pss_cons (ps_fld (pv 0) (pe_tup (pa_cons (pv 3) (pa_cons (pv 4) pa_nil))) rfl) (pss_one (ps_fld (pv 0) (pv 5) rfl))),far_body (X:=(cxOf CX0 P w K mg base _ _ _ f cdv A outer s H E).nox) (body:=[]) rfl CC nH nA nR hp k rfl⟩
theorem scAi:FnScope ["self","letter","gap","other","there","reach"] ["self","letter","gap","other","there","reach"] (defScope sAi):=.of (by decide +kernel)
theorem ok_ai (F:Fun K "__init__" "Ahead.__init__" sAi f fd)(CC:Cls K C)(nH:NoAttr K C "here")(nA:NoAttr K C "away")(nR:NoAttr K C "reach"):FnOk P w K mg base CX0 1 f fd ["self","letter","gap","other","there","reach"] (spFi C):=by
 refine F.ok scAi (fun vs H Q E h=>?_) (fun cdv A outer s H vs Q E hr h=>?_)
 ·obtain⟨p,dx,F,I,G,J,R,rfl,_⟩:=h
  rfl
 ·obtain⟨p,dx,F,I,G,J,R,rfl,hp,k⟩:=h
  exact⟨_,pss_cons (ps_fld (pv 0) (pe_tup (pa_cons (pv 1) (pa_cons (pv 2) pa_nil))) rfl) (pss_cons (ps_fld (pv 0) (pe_tup (pa_cons (pv 3) (pa_cons (pv 4) pa_nil))) rfl) (pss_one (ps_fld (pv 0) (pv 5) rfl))),far_body (X:=(cxOf CX0 P w K mg base _ _ _ f cdv A outer s H E).nox) (body:=[]) rfl CC nH nA nR hp k rfl⟩
theorem scNi:FnScope ["self","one"] ["self","one"] (defScope sNi):=.of (by decide +kernel)
theorem ok_ni (F:Fun K "__init__" "Not.__init__" sNi f fd)(C:Cls K (cl .non))(nO:NoAttr K (cl .non) "one"):FnOk P w K mg base CX0 1 f fd ["self","one"] (spNi cl):=by
 refine F.ok scNi (fun vs H Q E h=>?_) (fun cdv A outer s H vs Q E hr h=>?_)
 ·obtain⟨p,dx,c,q,H1,rfl,_⟩:=h
  rfl
 ·obtain⟨p,dx,c,q,H1,rfl,hp,hq,ho,k⟩:=h
  refine⟨_,pss_one (ps_fld (pv 0) (pv 1) rfl),?_⟩
  refine⟨_,rfl,_,rfl,p,_,dx,_,rfl,hp,C,nO,(by show 0<1000;decide),?_⟩
  have kp:Kept H (upd H p (.ins (cl .non) dx (putF "one" (.ref c) []))) p:=fun b o e hb=>by
   rw[upd_ne hb]
   exact e
  refine k _ ⟨dx,_,c,upd_same,?_,NoMeth.nil.put (by decide +kernel) (by decide +kernel) (by decide +kernel),QAt.same (ho.then kp) hq⟩ kp
  rw[lookup_putF,if_pos rfl]
theorem scTi:FnScope ["self","reach","least","question"] ["self","reach","least","question"] (defScope sTi):=.of (by decide +kernel)
theorem ok_ti (F:Fun K "__init__" "Times.__init__" sTi f fd)(C:Cls K (cl .tim))(nR:NoAttr K (cl .tim) "reach")(nL:NoAttr K (cl .tim) "least")(nI:NoAttr K (cl .tim) "inner"):FnOk P w K mg base CX0 1 f fd ["self","reach","least","question"] (spTi cl):=by
 refine F.ok scTi (fun vs H Q E h=>?_) (fun cdv A outer s H vs Q E hr h=>?_)
 ·obtain⟨p,dx,c,R,M,q,H1,rfl,_⟩:=h
  rfl
 ·obtain⟨p,dx,c,R,M,q,H1,rfl,hp,hq,ho,k⟩:=h
  refine⟨_,pss_cons (ps_fld (pv 0) (pv 1) rfl) (pss_cons (ps_fld (pv 0) (pv 2) rfl) (pss_one (ps_fld (pv 0) (pv 3) rfl))),?_⟩
  refine⟨_,rfl,_,rfl,p,_,dx,_,rfl,hp,C,nR,(by show 0<1000;decide),?_⟩
  refine⟨_,rfl,_,rfl,p,_,dx,_,rfl,upd_same,C,nL,(by show 1<1000;decide),?_⟩
  refine⟨_,rfl,_,rfl,p,_,dx,_,rfl,upd_same,C,nI,?_,?_⟩
  ·have:=length_putF "least" (.int M) (putF "reach" (.int R) [])
   have e:(putF "reach" (.int R) []:List (Str×V)).length=1:=rfl
   omega
  generalize hH':upd _ p _=H'
  have kp:Kept H H' p:=fun b o e hb=>by
   rw[<- hH',upd_ne hb,upd_ne hb,upd_ne hb]
   exact e
  refine k _ ⟨dx,_,c,by rw[<- hH'];exact upd_same,?_,?_,?_,((NoMeth.nil.put (by decide +kernel) (by decide +kernel) (by decide +kernel)).put (by decide +kernel) (by decide +kernel) (by decide +kernel)).put (by decide +kernel) (by decide +kernel) (by decide +kernel),QAt.same (ho.then kp) hq⟩ kp
  ·rw[lookup_putF,if_neg (by decide +kernel),lookup_putF,if_neg (by decide +kernel),lookup_putF,if_pos rfl]
  ·rw[lookup_putF,if_neg (by decide +kernel),lookup_putF,if_pos rfl]
  ·rw[lookup_putF,if_pos rfl]
end
end QL
namespace L2
open PySem PySem.Spec PyProof.Rows
theorem call_strA {X:Cx}:CallR X (.type "str") (fun xs H Q=>(∃n:Int,xs=[.int n]/\n.natAbs.log2<1920/\Q (.str (Str.ofString (toString n))) H)\/∃z,xs=[.str z]/\Q (.str z) H):=by
 intro pins s σ H xs us Q I r h
 rcases h with h|⟨z,rfl,q⟩
 ·exact call_strI pins s σ H xs us Q I r h
 ·obtain⟨u,rfl,rx⟩:=vals1 r
  obtain⟨t,rfl⟩:=rx
  exact PySem.P.str_of_str ⟨.str _,H,I,⟨_,rfl⟩,q⟩
end L2
namespace SL
open PySem L2
theorem dig_lead:∀n:Nat,0<n->∃c r,Nat.toDigits 10 n=c::r/\c≠'0':=by
 intro n
 induction n using Nat.strongRecOn with
 |ind n ih=>
  intro h
  by_cases hn:n<10
  ·rw[Nat.toDigits_of_lt_base hn]
   refine⟨_,_,rfl,?_⟩
   have:∀m:Nat,m<10->0<m->m.digitChar≠'0':=by decide
   exact this n hn h
  ·rw[Nat.toDigits_of_base_le (by decide) (by omega)]
   obtain⟨c,r,e,hc⟩:=ih (n / 10) (by omega) (by omega)
   exact⟨c,_,by rw[e];rfl,hc⟩
theorem num_isNum {n:Nat}(h:n<10 ^ 9):isNum (Str.ofString (toString (n:Int)))=true:=by
 have hs:=W.KIN.signs_num n
 have hl:(Str.ofString (toString (n:Int))).length<=9:=PyProof.Rows.toString_length_le (by omega) (by decide) (by omega)
 have h1:1<=(Str.ofString (toString (n:Int))).length:=W.KLn.one_le (by omega)
 have hm:madeM FIG (Str.ofString (toString (n:Int)))=true:=made_of_mem fun c hc=>by
  rw[hs] at hc
  obtain⟨ch,hch,e⟩:=List.mem_map.mp hc
  have r:=Nat.isDigit_of_mem_toDigits (by decide) (by decide) hch
  unfold Char.isDigit at r
  simp only[Bool.and_eq_true,decide_eq_true_eq] at r
  have r2:ch.toNat<=57:=r.2
  have r1:48<=ch.toNat:=r.1
  have fig:∀c:Nat,c<58->48<=c->c∈FIG.cps.toList:=by decide +kernel
  exact fig c (by omega) (by omega)
 unfold isNum
 rw[decide_eq_true ⟨h1,hl⟩,hm,Bool.true_and,Bool.true_and,Bool.or_eq_true]
 by_cases h0:n=0
 ·subst h0
  exact .inl (by decide +kernel)
 ·refine .inr ?_
  obtain⟨c,r,e,hc⟩:=dig_lead n (by omega)
  have eh:hd (Str.ofString (toString (n:Int)))=c.toNat:=by
   unfold hd
   rw[hs,e]
   rfl
  have hne:¬(⟨#[hd (Str.ofString (toString (n:Int)))]⟩:Str)=Str.ofString "0":=fun z=>by
   rw[eh] at z
   have z2:c.toNat=48:=one_inj z
   exact hc (Char.ext (UInt32.toNat_inj.mp (by simpa using z2)))
  rw[decide_eq_false hne]
  rfl
theorem num_isNumI {m:Int}(h0:0<=m)(h1:m<10 ^ 9):isNum (Str.ofString (toString m))=true:=by
 obtain⟨k,rfl⟩:=Int.eq_ofNat_of_zero_le h0
 exact num_isNum (by omega)
theorem sort_isNum {z:Str}(h:isNum z=true):sortM z=some .num:=by
 unfold sortM
 rw[if_pos h]
end SL
namespace QL
open PySem L2
def SP:Str:=⟨#[32]⟩
def nS (n:Int):Str:=Str.ofString (toString n)
inductive Nk where
 |le|ga|co
def Nk.str:Nk->Str
 |.le=>Str.ofString "letter" | .ga=>Str.ofString "gap" | .co=>Str.ofString "count"
def Nk.lo:Nk->Int
 |.co=>1|_=>0
def Nk.hi:Nk->Int
 |.le=>8 | .ga=>7 | .co=>20
inductive Pa where
 |num (k:Nk) (n:Int)|wrd (W:Str)|que (q:Qn)
def Qn.word:Qn->Str
 |.row _=>Str.ofString "row" | .wit _ _ _=>Str.ofString "with" | .beh _ _ _ _ _=>Str.ofString "behind" | .ahd _ _ _ _ _=>Str.ofString "ahead"
 |.tim _ _ _=>Str.ofString "times" | .bot _ _=>Str.ofString "both" | .eit _ _=>Str.ofString "either" | .non _=>Str.ofString "not"
def Qn.parts:Qn->List Pa
 |.row F=>[.num .le F] | .wit F I W=>[.num .le F,.num .ga I,.wrd W]
 |.beh F I G J R=>[.num .le F,.num .ga I,.num .le G,.num .ga J,.num .co R] | .ahd F I G J R=>[.num .le F,.num .ga I,.num .le G,.num .ga J,.num .co R]
 |.tim K C q=>[.num .co K,.num .co C,.que q] | .bot q r=>[.que q,.que r] | .eit q r=>[.que q,.que r] | .non q=>[.que q]
def Qn.pcs:Qn->List Str
 |.row F=>[Str.ofString "row",nS F] | .wit F I W=>[Str.ofString "with",nS F,nS I,W]
 |.beh F I G J R=>[Str.ofString "behind",nS F,nS I,nS G,nS J,nS R] | .ahd F I G J R=>[Str.ofString "ahead",nS F,nS I,nS G,nS J,nS R]
 |.tim K C q=>Str.ofString "times"::nS K::nS C::q.pcs | .bot q r=>Str.ofString "both"::(q.pcs++r.pcs) | .eit q r=>Str.ofString "either"::(q.pcs++r.pcs) | .non q=>Str.ofString "not"::q.pcs
def Pa.pcs:Pa->List Str
 |.num _ n=>[nS n] | .wrd W=>[W] | .que q=>q.pcs
def Pa.kind:Pa->Str
 |.num k _=>k.str | .wrd _=>Str.ofString "word" | .que _=>Str.ofString "question"
theorem pcs_eq (q:Qn):q.pcs=q.word::q.parts.flatMap Pa.pcs:=by
 cases q<;>simp[Qn.pcs,Qn.word,Qn.parts,Pa.pcs]
theorem pcs_pos (q:Qn):1<=q.pcs.length:=by
 rw[pcs_eq,List.length_cons]
 omega
def Qn.Ok2:Bool->Qn->Prop
 |_,.row F=>0<=F/\F<=8
 |_,.wit F I W=>(0<=F/\F<=8)/\(0<=I/\I<=7)/\SL.Wd W
 |_,.beh F I G J R=>(0<=F/\F<=8)/\(0<=I/\I<=7)/\(0<=G/\G<=8)/\(0<=J/\J<=7)/\1<=R/\R<=20
 |_,.ahd F I G J R=>(0<=F/\F<=8)/\(0<=I/\I<=7)/\(0<=G/\G<=8)/\(0<=J/\J<=7)/\1<=R/\R<=20
 |wi,.tim K C q=>wi=false/\(1<=K/\K<=20)/\(1<=C/\C<=20)/\q.Ok2 true
 |wi,.bot q r=>q.Ok2 wi/\r.Ok2 wi
 |wi,.eit q r=>q.Ok2 wi/\r.Ok2 wi
 |wi,.non q=>q.Ok2 wi
theorem Qn.Ok2.ok:∀{wi:Bool} {q:Qn},q.Ok2 wi->q.Ok
 |_,.row _,_=>True.intro
 |_,.wit _ _ _,h=>⟨h.2.1.1,h.2.2.tn.tx⟩
 |_,.beh _ _ _ _ _,h=>⟨h.2.1.1,h.2.2.2.1.1,by have:=h.2.2.2.2.2;omega⟩
 |_,.ahd _ _ _ _ _,h=>⟨h.2.1.1,h.2.2.2.1.1,by have:=h.2.2.2.2.2;omega⟩
 |_,.tim _ _ q,h=>⟨h.2.1.1,by have:=h.2.1.2;omega,by have:=h.2.2.1.2;omega,h.2.2.2.ok⟩
 |_,.bot q r,h=>⟨h.1.ok,h.2.ok⟩
 |_,.eit q r,h=>⟨h.1.ok,h.2.ok⟩
 |wi,.non q,h=>Qn.Ok2.ok (wi:=wi) (q:=q) h
def Pa.Ok2 (wi:Bool):Pa->Prop
 |.num k n=>k.lo<=n/\n<=k.hi | .wrd W=>SL.Wd W | .que q=>q.Ok2 wi
def Qn.wit' (wi:Bool):Qn->Bool
 |.tim _ _ _=>true|_=>wi
theorem parts_ok:∀{wi:Bool} {q:Qn},q.Ok2 wi->∀p∈q.parts,p.Ok2 (q.wit' wi)
 |_,.row _,h,p,hp=>by
  simp only[Qn.parts,List.mem_cons,List.not_mem_nil,or_false] at hp
  subst hp
  exact h
 |_,.wit _ _ _,h,p,hp=>by
  simp only[Qn.parts,List.mem_cons,List.not_mem_nil,or_false] at hp
  rcases hp with rfl|rfl|rfl
  ·exact h.1
  ·exact h.2.1
  ·exact h.2.2
 |_,.beh _ _ _ _ R,h,p,hp=>by
  simp only[Qn.parts,List.mem_cons,List.not_mem_nil,or_false] at hp
  rcases hp with rfl|rfl|rfl|rfl|rfl
  ·exact h.1
  ·exact h.2.1
  ·exact h.2.2.1
  ·exact h.2.2.2.1
  ·exact⟨by show(1:Int)<=R;have:=h.2.2.2.2.1;omega,by show(R:Int)<=20;have:=h.2.2.2.2.2;omega⟩
 |_,.ahd _ _ _ _ R,h,p,hp=>by
  simp only[Qn.parts,List.mem_cons,List.not_mem_nil,or_false] at hp
  rcases hp with rfl|rfl|rfl|rfl|rfl
  ·exact h.1
  ·exact h.2.1
  ·exact h.2.2.1
  ·exact h.2.2.2.1
  ·exact⟨by show(1:Int)<=R;have:=h.2.2.2.2.1;omega,by show(R:Int)<=20;have:=h.2.2.2.2.2;omega⟩
 |_,.tim K C q,h,p,hp=>by
  simp only[Qn.parts,List.mem_cons,List.not_mem_nil,or_false] at hp
  rcases hp with rfl|rfl|rfl
  ·exact⟨by show(1:Int)<=K;have:=h.2.1.1;omega,by show(K:Int)<=20;have:=h.2.1.2;omega⟩
  ·exact⟨by show(1:Int)<=C;have:=h.2.2.1.1;omega,by show(C:Int)<=20;have:=h.2.2.1.2;omega⟩
  ·exact h.2.2.2
 |_,.bot _ _,h,p,hp=>by
  simp only[Qn.parts,List.mem_cons,List.not_mem_nil,or_false] at hp
  rcases hp with rfl|rfl
  ·exact h.1
  ·exact h.2
 |_,.eit _ _,h,p,hp=>by
  simp only[Qn.parts,List.mem_cons,List.not_mem_nil,or_false] at hp
  rcases hp with rfl|rfl
  ·exact h.1
  ·exact h.2
 |_,.non _,h,p,hp=>by
  simp only[Qn.parts,List.mem_cons,List.not_mem_nil,or_false] at hp
  subst hp
  exact h
def Pa.dep:Pa->Nat
 |.que q=>q.dep+1|_=>0
theorem parts_dep (q:Qn):∀p∈q.parts,p.dep<=q.dep:=by
 intro p hp
 cases q<;>simp only[Qn.parts,List.mem_cons,List.not_mem_nil,or_false] at hp<;>(rcases hp with rfl|rfl|rfl|rfl|rfl|rfl)<;>simp only[Pa.dep,Qn.dep]<;>omega
theorem nS_num {n:Int}(h0:0<=n)(h1:n<=20):SL.isNum (nS n)=true:=SL.num_isNumI h0 (by omega)
theorem nk_pos (k:Nk):0<=k.lo:=by cases k<;>decide
theorem nk_top (k:Nk):k.hi<=20:=by cases k<;>decide
theorem word_tn:∀q:Qn,SL.Tn 60 q.word
 |.row _=>(SL.txK (by decide +kernel):SL.Tn 60 (Str.ofString "row"))
 |.wit _ _ _=>(SL.txK (by decide +kernel):SL.Tn 60 (Str.ofString "with"))
 |.beh _ _ _ _ _=>(SL.txK (by decide +kernel):SL.Tn 60 (Str.ofString "behind"))
 |.ahd _ _ _ _ _=>(SL.txK (by decide +kernel):SL.Tn 60 (Str.ofString "ahead"))
 |.tim _ _ _=>(SL.txK (by decide +kernel):SL.Tn 60 (Str.ofString "times"))
 |.bot _ _=>(SL.txK (by decide +kernel):SL.Tn 60 (Str.ofString "both"))
 |.eit _ _=>(SL.txK (by decide +kernel):SL.Tn 60 (Str.ofString "either"))
 |.non _=>(SL.txK (by decide +kernel):SL.Tn 60 (Str.ofString "not"))
theorem pcs_tn:∀{wi:Bool} {q:Qn},q.Ok2 wi->∀p∈q.pcs,SL.Tn 60 p:=by
 have nt:∀{n:Int},0<=n->n<=20->SL.Tn 60 (nS n):=fun h0 h1=>(SL.Wd.item (by unfold SL.isItem;rw[nS_num h0 h1];rfl)).tn
 intro wi q
 induction q generalizing wi with
 |row F=>
  intro h p hp
  simp only[Qn.pcs,List.mem_cons,List.not_mem_nil,or_false] at hp
  rcases hp with rfl|rfl
  ·exact word_tn (.row 0)
  ·exact nt h.1 (by have:=h.2;omega)
 |wit F I W=>
  intro h p hp
  simp only[Qn.pcs,List.mem_cons,List.not_mem_nil,or_false] at hp
  rcases hp with rfl|rfl|rfl|rfl
  ·exact word_tn (.wit 0 0 Str.empty)
  ·exact nt h.1.1 (by have:=h.1.2;omega)
  ·exact nt h.2.1.1 (by have:=h.2.1.2;omega)
  ·exact h.2.2.tn
 |beh F I G J R=>
  intro h p hp
  simp only[Qn.pcs,List.mem_cons,List.not_mem_nil,or_false] at hp
  rcases hp with rfl|rfl|rfl|rfl|rfl|rfl
  ·exact word_tn (.beh 0 0 0 0 0)
  ·exact nt h.1.1 (by have:=h.1.2;omega)
  ·exact nt h.2.1.1 (by have:=h.2.1.2;omega)
  ·exact nt h.2.2.1.1 (by have:=h.2.2.1.2;omega)
  ·exact nt h.2.2.2.1.1 (by have:=h.2.2.2.1.2;omega)
  ·exact nt (by omega) (by have:=h.2.2.2.2.2;omega)
 |ahd F I G J R=>
  intro h p hp
  simp only[Qn.pcs,List.mem_cons,List.not_mem_nil,or_false] at hp
  rcases hp with rfl|rfl|rfl|rfl|rfl|rfl
  ·exact word_tn (.ahd 0 0 0 0 0)
  ·exact nt h.1.1 (by have:=h.1.2;omega)
  ·exact nt h.2.1.1 (by have:=h.2.1.2;omega)
  ·exact nt h.2.2.1.1 (by have:=h.2.2.1.2;omega)
  ·exact nt h.2.2.2.1.1 (by have:=h.2.2.2.1.2;omega)
  ·exact nt (by omega) (by have:=h.2.2.2.2.2;omega)
 |tim K C q ih=>
  intro h p hp
  simp only[Qn.pcs,List.mem_cons] at hp
  rcases hp with rfl|rfl|rfl|hp
  ·exact word_tn (.tim 0 0 (.row 0))
  ·exact nt (by omega) (by have:=h.2.1.2;omega)
  ·exact nt (by omega) (by have:=h.2.2.1.2;omega)
  ·exact ih h.2.2.2 p hp
 |bot q r ih1 ih2=>
  intro h p hp
  simp only[Qn.pcs,List.mem_cons,List.mem_append] at hp
  rcases hp with rfl|hp|hp
  ·exact word_tn (.bot (.row 0) (.row 0))
  ·exact ih1 h.1 p hp
  ·exact ih2 h.2 p hp
 |eit q r ih1 ih2=>
  intro h p hp
  simp only[Qn.pcs,List.mem_cons,List.mem_append] at hp
  rcases hp with rfl|hp|hp
  ·exact word_tn (.eit (.row 0) (.row 0))
  ·exact ih1 h.1 p hp
  ·exact ih2 h.2 p hp
 |non q ih=>
  intro h p hp
  simp only[Qn.pcs,List.mem_cons] at hp
  rcases hp with rfl|hp
  ·exact word_tn (.non (.row 0))
  ·exact ih h p hp
theorem join_app:∀(xs ys:List Str),xs≠[]->ys≠[]->Str.join SP (xs++ys)=Str.join SP xs++SP++Str.join SP ys
 | [],_,h,_=>absurd rfl h
 | [x],ys,_,h=>by
  cases ys with
  |nil=>exact absurd rfl h
  |cons y r=>rfl
 |x::x'::r,ys,_,h=>by
  have ih:=join_app (x'::r) ys (by nofun) h
  show x++SP++Str.join SP ((x'::r)++ys)=(x++SP++Str.join SP (x'::r))++SP++Str.join SP ys
  rw[ih]
  refine Str.ext' ?_
  simp only[Str.cps_append,Array.append_assoc]
theorem join_flat:∀(xss:List (List Str)),(∀xs∈xss,xs≠[])->Str.join SP (xss.map (Str.join SP))=Str.join SP xss.flatten
 | [],_=>rfl
 | [xs],_=>by
  show Str.join SP xs=Str.join SP (xs++[])
  rw[List.append_nil]
 |xs::ys::r,h=>by
  have ih:=join_flat (ys::r) fun z hz=>h z (List.mem_cons_of_mem _ hz)
  have hy:ys≠[]:=h ys (by simp)
  rw[List.flatten_cons,join_app _ _ (h xs List.mem_cons_self) (by
   rw[List.flatten_cons]
   intro e
   exact hy (List.append_eq_nil_iff.mp e).1),<- ih]
  rfl
def Pa.tx (p:Pa):Str:=Str.join SP p.pcs
def Qn.tx (q:Qn):Str:=Str.join SP q.pcs
theorem pa_pcs (p:Pa):p.pcs≠[]:=by
 cases p with
 |num k n=>nofun
 |wrd W=>nofun
 |que q=>
  intro e
  have:=pcs_pos q
  rw[show q.pcs=[] from e] at this
  exact absurd this (by decide)
theorem tx_eq (q:Qn):Str.join SP (q.word::q.parts.map Pa.tx)=q.tx:=by
 unfold Qn.tx
 rw[pcs_eq]
 have h:=join_flat ([q.word]::q.parts.map Pa.pcs) (fun xs hx=>by
  rcases List.mem_cons.mp hx with rfl|hx
  ·nofun
  ·obtain⟨p,_,rfl⟩:=List.mem_map.mp hx
   exact pa_pcs p)
 rw[List.map_cons,List.map_map] at h
 exact h
theorem split_tx {wi:Bool}{q:Qn}(h:q.Ok2 wi):Txt.split q.tx SP=q.pcs:=by
 unfold SP
 rw[SL.split_spl _ (by decide)]
 exact SL.spl_join q.pcs [] (fun e=>by have:=pcs_pos q;rw[e] at this;exact absurd this (by decide)) fun x hx k hk=>((pcs_tn h x hx).2 k hk).2
end QL
namespace QL
open PySem L2
def spPo2:Sp:=fun vs H Q _=>∃(c o:Int),vs=[.int c,.int o]/\∀(l:Addr) (ws:List Str) (H':Hp),Same H H'->H' l=some (.lst (ws.map V.str))->ws.length=5->(∀x∈ws,SL.Wd x)->Q (.ref l) H'
section
variable {P:Program} {w:World} {K:W.Frag} {mg:Str->Option Value} {base:Heap}
theorem ok_po2 (F:Fun K "_law_pool" "_law_pool" sPo f fd)(T:Txt mg)(FM:Fun K "_law_mix" "_law_mix" sMi fM fdM)(bM:Binds K fdM ["_law_cell","_law_k"] [])(gM:mg "_law_mix"=some (.ref fM)):
  FnOk P w K mg base CX0 2 f fd ["_law_cell","_law_other"] spPo2:=by
 have GM:FnOk P w K mg base CX0 1 fM fdM ["_law_cell","_law_k"] spMi:=ok_mi FM
 refine F.ok scPo (fun vs H Q E h=>?_) (fun cdv A outer s H vs Q E hr h=>?_)
 ·obtain⟨c,o,rfl,_⟩:=h
  rfl
 ·obtain⟨c,o,rfl,k⟩:=h
  refine⟨_,pss_cons (ps_set (i:=2) scPo.nd rfl (Or.inl rfl) pe_str)
   (pss_cons (ps_set (i:=3) scPo.nd rfl (Or.inl rfl) (pe_op op_add pe_int (pe_op op_mod (pv 0) pe_int)))
   (pss_cons (ps_set (i:=4) scPo.nd rfl (Or.inl rfl) (pe_ix ix_str (pv 2) (pe_op op_mod (pe_op op_fdiv (pv 0) pe_int) pe_int) (fun _ _=>rfl)))
   (pss_cons (ps_for PassesOwn.never rfl (pi_range1 rfl T.range (pa_cons (pe_op op_sub (pv 3) pe_int) pa_nil)) (pg_name (i:=5) scPo.nd rfl (Or.inl rfl))
    (pss_one (ps_set (i:=4) scPo.nd rfl (Or.inl rfl) (pe_op op_add_str (pv 4) (pe_ix ix_str (pe_op op_add_str (pv 2) pe_str) (pe_op op_mod (pe_call GM hr rfl gM FM.kp bM .nil pass0 (pa_cons (pv 0) (pa_cons (pe_op op_add (pv 5) pe_int) pa_nil))) pe_int) (fun _ _=>rfl))))))
   (pss_cons (ps_set (i:=6) scPo.nd rfl (Or.inl rfl) (pe_op op_mod (pv 1) (pv 3)))
   (pss_cons (ps_set (i:=7) scPo.nd rfl (Or.inl rfl) (pe_op op_mod (pe_op op_fdiv (pv 1) pe_int) pe_int))
   (pss_cons (ps_cut (ps_if (pt_cmpR op_eq (pe_ix ix_str (pv 2) (pv 7) (fun _ _=>rfl)) (pe_ix ix_str (pv 4) (pv 6) (fun _ _=>rfl)) (nomark _)) (pss_one (ps_set (i:=7) scPo.nd rfl (Or.inl rfl) (pe_op op_mod (pe_op op_add (pv 7) pe_int) pe_int))) pss_nil))
   (pss_cons (ps_set (i:=8) scPo.nd rfl (Or.inl rfl) (pe_callTy call_str_int (by rfl) T.str PyProof.Rows.boot_str (pa_cons (pe_op op_mod (pe_op op_fdiv (pv 1) pe_int) pe_int) pa_nil)))
   (pss_cons (ps_cut (ps_set (i:=9) scPo.nd rfl (Or.inl rfl) (pe_ix ix_list (pe_lst (pa_cons (pe_op op_add_str (pe_op op_add_str (pe_op op_add_str (pe_op op_add_str pe_str (pv 4)) pe_str) (pv 8)) pe_str) (pa_cons pe_str pa_nil))) (pe_op op_mod (pv 1) pe_int) (fun _ _=>rfl))))
   (pss_one (ps_ret (pe_lst (pa_cons (pv 4) (pa_cons (pe_op op_add_str (pe_op op_add_str (pe_slice sl_str (pv 4) po_none (po_some (pv 6))) (pe_ix ix_str (pv 2) (pv 7) (fun _ _=>rfl))) (pe_slice sl_str (pv 4) (po_some (pe_op op_add (pv 6) pe_int)) po_none))
    (pa_cons (pv 8) (pa_cons (pv 9) (pa_cons (pe_op op_add_str (pe_slice sl_str (pv 4) po_none (po_some pe_int)) pe_str) pa_nil)))))))))))))))),?_⟩
  have nam36:Str.ofString "abcdefghijklmnopqrstuvwxyz"++Str.ofString "0123456789"=SL.NAM:=by decide +kernel
  have dig:Tx 10 (Str.ofString "0123456789"):=txK (by decide +kernel)
  have sml:Tx 26 (Str.ofString "abcdefghijklmnopqrstuvwxyz"):=txK (by decide +kernel)
  have e26:(Str.ofString "abcdefghijklmnopqrstuvwxyz").length=26:=by decide +kernel
  have e36:(Str.ofString "abcdefghijklmnopqrstuvwxyz"++Str.ofString "0123456789").length=36:=by decide +kernel
  obtain⟨ch,hch,ech⟩:=atI_some (Str.ofString "abcdefghijklmnopqrstuvwxyz").cps.toList (c / 12%26) (by omega) (by rw[cps_len,e26];omega)
  refine⟨_,rfl,_,_,rfl,rfl,(by show(0:Int)<12;decide),_,_,rfl,rfl,?_⟩
  refine⟨_,rfl,_,rfl,_,_,rfl,rfl,⟨by decide,by decide⟩,_,_,rfl,rfl,(by show(0:Int)<26;decide),_,_,ch,rfl,rfl,len_sm sml (by decide),ech,?_⟩
  refine⟨_,rfl,_,_,rfl,rfl,_,rfl,by omega,by omega,?_⟩
  refine for_range (n:=(1+c%12-1).toNat) (fun i σ H2=>∃(nm:Str) (v:Option V),H2=H/\σ=[some (.int c),some (.int o),some (.str (Str.ofString "abcdefghijklmnopqrstuvwxyz")),some (.int (1+c%12)),some (.str nm),v,none,none,none,none]/\Tx (i+1) nm/\nm.length=i+1/\∃y,nm=⟨#[ch]⟩++y/\SL.madeM SL.NAM y=true/\y.length=i)
   ⟨⟨#[ch]⟩,none,rfl,rfl,sml.sign ech,rfl,Str.empty,Str.ext' (by rw[Str.cps_append];rfl),rfl,rfl⟩ ?_ ?_
  ·rintro i σ H2 hi ⟨nm,v,rfl,rfl,tn,ln,y,ey,my,ly⟩
   refine⟨_,rfl,_,rfl,_,_,rfl,rfl,len2_sm sml dig (by decide),_,rfl,_,rfl,_,_,rfl,rfl,c,_,rfl,by omega,by omega,fun z z0=>?_⟩
   obtain⟨ch2,hch2,ech2⟩:=atI_some (Str.ofString "abcdefghijklmnopqrstuvwxyz"++Str.ofString "0123456789").cps.toList (z%36) (by omega) (by rw[cps_len,e36];omega)
   have tc:Tx 1 (⟨#[ch2]⟩:Str):=(sml.app dig).sign ech2
   refine⟨_,_,rfl,rfl,(by show(0:Int)<36;decide),_,_,ch2,rfl,rfl,len_sm (sml.app dig) (by decide),ech2,_,_,rfl,rfl,len2_sm tn tc (by omega),?_⟩
   refine⟨nm++⟨#[ch2]⟩,_,rfl,rfl,tn.app tc,?_,y++⟨#[ch2]⟩,?_,SL.made_app my (SL.made_one (by rw[nam36] at hch2;exact hch2)),?_⟩
   ·rw[Str.length_append,ln]
    rfl
   ·rw[ey]
    refine Str.ext' ?_
    simp only[Str.cps_append,Array.append_assoc]
   ·rw[Str.length_append,ly]
    rfl
  ·rintro σ H2 ⟨nm,v,rfl,rfl,tn,ln,y,ey,my,ly⟩
   have hNm:SL.isItem nm=true:=by
    unfold SL.isItem
    rw[ey,SL.name_of hch my (by omega),Bool.or_true]
   have mNm:=(SL.item_mark hNm).2.2
   have tn':Tx 12 nm:=tn.mono (by omega)
   have lz:(nm.length:Int)=1+c%12:=by omega
   refine⟨_,rfl,_,rfl,_,_,rfl,rfl,(by omega),?_⟩
   refine⟨_,rfl,_,_,rfl,rfl,⟨by decide,by decide⟩,_,_,rfl,rfl,(by show(0:Int)<26;decide),?_⟩
   have a0:0<=o%(1+c%12):=Int.emod_nonneg _ (by omega)
   have a1:o%(1+c%12)<nm.length:=by rw[lz];exact Int.emod_lt_of_pos _ (by omega)
   refine⟨fun σ' H'=>∃t:Int,0<=t/\t<26/\H'=H2/\σ'=[some (.int c),some (.int o),some (.str (Str.ofString "abcdefghijklmnopqrstuvwxyz")),some (.int (1+c%12)),some (.str nm),v,some (.int (o%(1+c%12))),some (.int t),none,none],?_,?_⟩
   ·obtain⟨ch3,_,ech3⟩:=atI_some (Str.ofString "abcdefghijklmnopqrstuvwxyz").cps.toList (o / 12%26) (by omega) (by rw[cps_len,e26];omega)
    obtain⟨ch4,_,ech4⟩:=atI_some nm.cps.toList (o%(1+c%12)) a0 (by rw[cps_len];exact a1)
    refine⟨_,rfl,_,rfl,_,_,ch3,rfl,rfl,len_sm sml (by decide),ech3,_,rfl,_,rfl,_,_,ch4,rfl,rfl,len_sm tn' (by decide),ech4,rfl,_,rfl,?_⟩
    refine ifb ?_ ?_
    ·exact⟨_,rfl,_,_,rfl,rfl,_,_,rfl,rfl,(by show(0:Int)<26;decide),(o / 12%26+1)%26,by omega,by omega,rfl,rfl⟩
    ·exact⟨o / 12%26,by omega,by omega,rfl,rfl⟩
   rintro σ' H' ⟨t,t0,t1,rfl,rfl⟩
   have nu:=Tx.num (m:=o / 7%1000000000) (by omega) (by omega)
   have nuI:=SL.num_isNumI (m:=o / 7%1000000000) (by omega) (by omega)
   refine⟨_,rfl,_,_,rfl,rfl,⟨by decide,by decide⟩,_,_,rfl,rfl,(by show(0:Int)<1000000000;decide),_,rfl,log_ok (by omega) (by omega),?_⟩
   generalize hnum:Str.ofString (toString (o / 7%1000000000))=num at nu nuI
   have hNu:SL.isItem num=true:=by
    unfold SL.isItem
    rw[nuI]
    rfl
   have tl:Tx 1 (Str.ofString "["):=txK (by decide +kernel)
   have tr:Tx 1 (Str.ofString "]"):=txK (by decide +kernel)
   have tc:Tx 1 (Str.ofString ","):=txK (by decide +kernel)
   have te:Tx 1 (Str.ofString "="):=txK (by decide +kernel)
   have tb:Tx 2 (Str.ofString "[]"):=txK (by decide +kernel)
   refine⟨fun σ' H3=>∃it:Str,SL.Wd it/\Same H' H3/\σ'=[some (.int c),some (.int o),some (.str (Str.ofString "abcdefghijklmnopqrstuvwxyz")),some (.int (1+c%12)),some (.str nm),v,some (.int (o%(1+c%12))),some (.int t),some (.str num),some (.str it)],?_,?_⟩
   ·refine⟨_,rfl,_,_,rfl,rfl,len2_sm tl tn' (by decide),_,_,rfl,rfl,len2_sm (tl.app tn') tc (by decide),_,rfl,_,_,rfl,rfl,len2_sm ((tl.app tn').app tc) nu (by decide),_,_,rfl,rfl,len2_sm (((tl.app tn').app tc).app nu) tr (by decide),(by show 2<=sizeLine;decide),fun l hl=>?_⟩
    have s1:=(Same.refl H').upd_free (o:=.lst [V.str (Str.ofString "["++nm++Str.ofString ","++num++Str.ofString "]"),V.str (Str.ofString "[]")]) hl
    obtain⟨x,hx,ex⟩:=atI_some [V.str (Str.ofString "["++nm++Str.ofString ","++num++Str.ofString "]"),V.str (Str.ofString "[]")] (o%2) (by omega) (by show o%2<2;omega)
    obtain⟨it,rfl,ti⟩:∃it:Str,x=.str it/\SL.Wd it:=by
     simp only[List.mem_cons,List.not_mem_nil,or_false] at hx
     rcases hx with rfl|rfl
     ·refine⟨_,rfl,.lis [nm,num] (by show 2<=4;decide) (fun x hx=>?_) ?_⟩
      ·simp only[List.mem_cons,List.not_mem_nil,or_false] at hx
       rcases hx with rfl|rfl
       ·exact hNm
       ·exact hNu
      ·unfold SL.lisOf
       show _=Str.ofString "["++(nm++Str.ofString ","++num)++Str.ofString "]"
       refine Str.ext' ?_
       simp only[Str.cps_append,Array.append_assoc]
     ·exact⟨_,rfl,.lis [] (by decide) (fun x hx=>by simp at hx) (by decide +kernel)⟩
    exact⟨_,rfl,_,_,rfl,rfl,(by show(0:Int)<2;decide),l,_,_,_,rfl,rfl,SqL.of upd_same,ex,it,ti,s1,rfl⟩
   rintro σ' H3 ⟨it,ti,s3,rfl⟩
   obtain⟨ch5,hch5,ech5⟩:=atI_some (Str.ofString "abcdefghijklmnopqrstuvwxyz").cps.toList t t0 (by rw[cps_len,e26];omega)
   have tch:Tx 1 (⟨#[ch5]⟩:Str):=sml.sign ech5
   have ta:=tn'.slice none (some (o%(1+c%12)))
   have tz:=tn'.slice (some (o%(1+c%12)+1)) none
   have t11:=tn'.slice none (some 11)
   refine⟨_,rfl,_,rfl,_,rfl,_,rfl,nm,rfl,len_sm tn' (by decide),_,rfl,_,rfl,_,_,ch5,rfl,rfl,len_sm sml (by decide),ech5,_,_,rfl,rfl,len2_sm ta tch (by decide),?_⟩
   refine⟨_,rfl,_,rfl,_,_,rfl,rfl,_,rfl,nm,rfl,len_sm tn' (by decide),_,_,rfl,rfl,len2_sm (ta.app tch) tz (by decide),_,rfl,_,rfl,_,rfl,_,rfl,nm,rfl,len_sm tn' (by decide),_,_,rfl,rfl,len2_sm t11 te (by decide),(by show 5<=sizeLine;decide),fun l hl=>?_⟩
   refine k l [nm,Txt.slice nm none (some (o%(1+c%12)))++⟨#[ch5]⟩++Txt.slice nm (some (o%(1+c%12)+1)) none,num,it,Txt.slice nm none (some 11)++Str.ofString "="] _ (s3.upd_free (s3.free hl)) upd_same rfl fun x hx=>?_
   simp only[List.mem_cons,List.not_mem_nil,or_false] at hx
   rcases hx with rfl|rfl|rfl|rfl|rfl
   ·exact SL.Wd.item hNm
   ·refine .mar ⟨?_,?_,?_⟩
    ·rw[Str.length_append,Str.length_append]
     show 1<=_+1+_
     omega
    ·rw[Str.length_append,Str.length_append,SL.sl_to_len a0 (by omega),SL.sl_from_len (by omega) (by omega)]
     show _+1+_<=12
     omega
    ·exact SL.made_app (SL.made_app (SL.made_of_mem fun d hd=>SL.made_mem mNm d (SL.sl_mem d hd)) (SL.made_one (by have q:=SL.made_mem (S:=SL.MAR) (z:=SL.SMA) (by decide +kernel);exact q ch5 hch5))) (SL.made_of_mem fun d hd=>SL.made_mem mNm d (SL.sl_mem d hd))
   ·exact SL.Wd.item hNu
   ·exact ti
   ·refine .mar ⟨?_,?_,SL.made_app (SL.made_of_mem fun d hd=>SL.made_mem mNm d (SL.sl_mem d hd)) (by decide +kernel)⟩
    ·rw[Str.length_append]
     show 1<=_+1
     omega
    ·rw[Str.length_append]
     show _+1<=12
     by_cases q:11<=nm.length
     ·rw[SL.sl_to_len (by decide) (by omega)]
      decide
     ·have:=Txt.slice_le nm none (some 11)
      omega
end
end QL
namespace QL
open PySem L2
def spCo:Sp:=fun vs H Q _=>∃(c k:Int),vs=[.int c,.int k]/\0<=k/\k<=900/\∀(R:Nat) (H':Hp),1<=R->R<=20->Same H H'->Q (.int (R:Nat)) H'
def spSh:Sp:=fun vs H Q _=>∃(c:Int) (a b:Addr) (ns:List Int) (ws:List Str),vs=[.int c,.ref a,.ref b]/\H a=some (.lst (ns.map V.int))/\ns.length=3/\(∀x∈ns,0<=x/\x<=8)/\H b=some (.lst (ws.map V.str))/\ws.length=5/\(∀x∈ws,SL.Wd x)∧
 ∀(p:Addr) (q:Qn) (H':Hp),Same H H'->AAt H' q p->q.dep=0->(∀wi,q.Ok2 wi)->q.pcs.length<=6->Q (.ref p) H'
theorem pick7 (y:Int)(hy:0<=y):∃g:Int,0<=g/\g<=7/\atI [V.int 0,V.int 0,V.int 1,V.int 2,V.int 7] (y%5)=some (.int g):=by
 obtain⟨x,hx,ex⟩:=atI_some [V.int 0,V.int 0,V.int 1,V.int 2,V.int 7] (y%5) (by omega) (by show y%5<5;omega)
 simp only[List.mem_cons,List.not_mem_nil,or_false] at hx
 rcases hx with rfl|rfl|rfl|rfl|rfl
 ·exact⟨_,by decide,by decide,ex⟩
 ·exact⟨_,by decide,by decide,ex⟩
 ·exact⟨_,by decide,by decide,ex⟩
 ·exact⟨_,by decide,by decide,ex⟩
 ·exact⟨_,by decide,by decide,ex⟩
section
variable {P:Program} {w:World} {K:W.Frag} {mg:Str->Option Value} {base:Heap} {ks:Kd->Bool} {cl:Kd->Addr}
theorem scCo:FnScope ["_law_cell","_law_k"] ["_law_cell","_law_k"] (defScope sCo):=.of (by decide +kernel)
theorem ok_co (F:Fun K "_law_count" "_law_count" sCo f fd)(FM:Fun K "_law_mix" "_law_mix" sMi fM fdM)(bM:Binds K fdM ["_law_cell","_law_k"] [])(gM:mg "_law_mix"=some (.ref fM)):
  FnOk P w K mg base CX0 2 f fd ["_law_cell","_law_k"] spCo:=by
 have GM:FnOk P w K mg base CX0 1 fM fdM ["_law_cell","_law_k"] spMi:=ok_mi FM
 refine F.ok scCo (fun vs H Q E h=>?_) (fun cdv A outer s H vs Q E hr h=>?_)
 ·obtain⟨c,k,rfl,_⟩:=h
  rfl
 ·obtain⟨c,k,rfl,k0,k1,kk⟩:=h
  refine⟨_,pss_one (ps_ret (pe_op op_add pe_int (pe_op op_mod (pe_call GM hr rfl gM FM.kp bM .nil pass0 (pa_cons (pv 0) (pa_cons (pv 1) pa_nil))) (pe_ix ix_list (pe_lst (pa_cons pe_int (pa_cons pe_int pa_nil))) (pe_op op_fdiv (pe_op op_mod (pe_call GM hr rfl gM FM.kp bM .nil pass0 (pa_cons (pv 0) (pa_cons (pe_op op_add (pv 1) pe_int) pa_nil))) pe_int) pe_int) (fun _ _=>rfl))))),?_⟩
  refine⟨_,rfl,_,rfl,c,k,rfl,k0,by omega,fun z z0=>⟨(by show 2<=sizeLine;decide),fun l hl=>?_⟩⟩
  refine⟨_,rfl,_,rfl,_,_,rfl,rfl,c,_,rfl,by omega,by omega,fun y y0=>⟨_,_,rfl,rfl,(by show(0:Int)<4;decide),_,_,rfl,rfl,⟨by decide,by decide⟩,?_⟩⟩
  obtain⟨x,hx,ex⟩:=atI_some [V.int 3,V.int 20] (y%4 / 3) (by omega) (by show y%4 / 3<2;omega)
  obtain⟨r,rfl,r0,r1⟩:∃r:Int,x=.int r/\0<r/\r<=20:=by
   simp only[List.mem_cons,List.not_mem_nil,or_false] at hx
   rcases hx with rfl|rfl
   ·exact⟨3,rfl,by decide,by decide⟩
   ·exact⟨20,rfl,by decide,by decide⟩
  have m0:=Int.emod_nonneg z (Int.ne_of_gt r0)
  have m1:=Int.emod_lt_of_pos z r0
  refine⟨l,_,_,_,rfl,rfl,SqL.of upd_same,ex,_,_,rfl,rfl,r0,_,_,rfl,rfl,?_⟩
  have e:1+z%r=(((1+z%r).toNat:Nat):Int):=by omega
  have q:=kk (1+z%r).toNat _ (by omega) (by omega) ((Same.refl H).upd_free (o:=.lst [.int 3,.int 20]) hl)
  rw[<- e] at q
  exact q
theorem scSh:FnScope ["_law_cell","_law_letters_here","_law_pool_here","_law_kind","_law_letter",pGap,"_law_other"] ["_law_cell","_law_letters_here","_law_pool_here"] (defScope sSh):=.of (by decide +kernel)
theorem ok_sh (F:Fun K "_law_short" "_law_short" sSh f fd)(FM:Fun K "_law_mix" "_law_mix" sMi fM fdM)(bM:Binds K fdM ["_law_cell","_law_k"] [])(gM:mg "_law_mix"=some (.ref fM))
  (FC:Fun K "_law_count" "_law_count" sCo fC fdC) (bC:Binds K fdC ["_law_cell","_law_k"] []) (gC:mg "_law_count"=some (.ref fC)):
  FnOk P w K mg base CX0 3 f fd ["_law_cell","_law_letters_here","_law_pool_here"] spSh:=by
 have GM:FnOk P w K mg base CX0 1 fM fdM ["_law_cell","_law_k"] spMi:=ok_mi FM
 have GC:FnOk P w K mg base CX0 2 fC fdC ["_law_cell","_law_k"] spCo:=ok_co FC FM bM gM
 refine F.ok scSh (fun vs H Q E h=>?_) (fun cdv A outer s H vs Q E hr h=>?_)
 ·obtain⟨c,a,b,ns,ws,rfl,_⟩:=h
  rfl
 ·obtain⟨c,a,b,ns,ws,rfl,hA,nl,nb,hB,wl,wt,k⟩:=h
  have hr1:Room 1 _:=hr.mono (by decide)
  refine⟨_,pss_cons (ps_cut (ps_set (i:=3) scSh.nd rfl (Or.inl rfl) (pe_ix ix_list (pe_lst (pa_cons pe_str (pa_cons pe_str (pa_cons pe_str (pa_cons pe_str pa_nil))))) (pe_op op_mod (pe_op op_mod (pv 0) pe_int) pe_int) (fun _ _=>rfl))))
   (pss_cons (ps_cut (ps_set (i:=4) scSh.nd rfl (Or.inl rfl) (pe_ix ix_list (pv 1) (pe_op op_mod (pe_call GM hr1 rfl gM FM.kp bM .nil pass0 (pa_cons (pv 0) (pa_cons pe_int pa_nil))) pe_int) (fun _ _=>rfl))))
   (pss_cons (ps_cut (ps_set (i:=5) scSh.nd rfl (Or.inl rfl) (pe_ix ix_list (pe_lst (pa_cons pe_int (pa_cons pe_int (pa_cons pe_int (pa_cons pe_int (pa_cons pe_int pa_nil)))))) (pe_op op_mod (pe_call GM hr1 rfl gM FM.kp bM .nil pass0 (pa_cons (pv 0) (pa_cons pe_int pa_nil))) pe_int) (fun _ _=>rfl))))
   (pss_cons (ps_if (pt_cmpR op_eq (pv 3) pe_str (nomark _)) (pss_one (ps_ret (pe_tup (pa_cons (pv 3) (pa_cons (pv 4) pa_nil))))) pss_nil)
   (pss_cons (ps_if (pt_cmpR op_eq (pv 3) pe_str (nomark _)) (pss_one (ps_ret (pe_tup (pa_cons (pv 3) (pa_cons (pv 4) (pa_cons (pv 5) (pa_cons (pe_ix ix_list (pv 2) (pe_op op_mod (pe_call GM hr1 rfl gM FM.kp bM .nil pass0 (pa_cons (pv 0) (pa_cons pe_int pa_nil))) pe_int) (fun _ _=>rfl)) pa_nil))))))) pss_nil)
   (pss_cons (ps_cut (ps_set (i:=6) scSh.nd rfl (Or.inl rfl) (pe_ix ix_list (pv 1) (pe_op op_mod (pe_call GM hr1 rfl gM FM.kp bM .nil pass0 (pa_cons (pv 0) (pa_cons pe_int pa_nil))) pe_int) (fun _ _=>rfl))))
   (pss_one (ps_ret (pe_tup (pa_cons (pv 3) (pa_cons (pv 4) (pa_cons (pv 5) (pa_cons (pv 6) (pa_cons (pe_ix ix_list (pe_lst (pa_cons pe_int (pa_cons pe_int (pa_cons pe_int (pa_cons pe_int (pa_cons pe_int pa_nil)))))) (pe_op op_mod (pe_call GM hr1 rfl gM FM.kp bM .nil pass0 (pa_cons (pv 0) (pa_cons pe_int pa_nil))) pe_int) (fun _ _=>rfl))
    (pa_cons (pe_call GC hr rfl gC FC.kp bC .nil pass0 (pa_cons (pv 0) (pa_cons pe_int pa_nil))) pa_nil)))))))))))))),?_⟩
  refine⟨fun σ' H'=>∃kd:String,(kd="row"\/kd="with"\/kd="behind"\/kd="ahead")/\Same H H'/\σ'=[some (.int c),some (.ref a),some (.ref b),some (.str (Str.ofString kd)),none,none,none],?_,?_⟩
  ·refine⟨(by show 4<=sizeLine;decide),fun l hl=>?_⟩
   obtain⟨x,hx,ex⟩:=atI_some [V.str (Str.ofString "row"),V.str (Str.ofString "with"),V.str (Str.ofString "behind"),V.str (Str.ofString "ahead")] (c%8%4) (by omega) (by show c%8%4<4;omega)
   obtain⟨kd,rfl,hkd⟩:∃kd:String,x=.str (Str.ofString kd)/\(kd="row"\/kd="with"\/kd="behind"\/kd="ahead"):=by
    simp only[List.mem_cons,List.not_mem_nil,or_false] at hx
    rcases hx with rfl|rfl|rfl|rfl
    ·exact⟨_,rfl,.inl rfl⟩
    ·exact⟨_,rfl,.inr (.inl rfl)⟩
    ·exact⟨_,rfl,.inr (.inr (.inl rfl))⟩
    ·exact⟨_,rfl,.inr (.inr (.inr rfl))⟩
   exact⟨_,rfl,_,_,rfl,rfl,(by show(0:Int)<8;decide),_,_,rfl,rfl,(by show(0:Int)<4;decide),l,_,_,_,rfl,rfl,SqL.of upd_same,ex,kd,hkd,(Same.refl H).upd_free hl,rfl⟩
  rintro σ' H1 ⟨kd,hkd,s1,rfl⟩
  refine⟨fun σ' H'=>∃F:Int,(0<=F/\F<=8)/\H'=H1/\σ'=[some (.int c),some (.ref a),some (.ref b),some (.str (Str.ofString kd)),some (.int F),none,none],?_,?_⟩
  ·refine⟨_,rfl,_,rfl,c,1,rfl,by decide,by decide,fun z z0=>?_⟩
   obtain⟨x,hx,ex⟩:=atI_some (ns.map V.int) (z%2) (by omega) (by rw[List.length_map,nl];omega)
   obtain⟨F,hF,rfl⟩:=List.mem_map.mp hx
   exact⟨_,_,rfl,rfl,(by show(0:Int)<2;decide),a,_,_,_,rfl,rfl,SqL.of (s1 _ _ hA),ex,F,nb F hF,rfl,rfl⟩
  rintro σ' H' ⟨F,bF,rfl,rfl⟩
  refine⟨fun σ' H2=>∃I:Int,(0<=I/\I<=7)/\Same H' H2/\σ'=[some (.int c),some (.ref a),some (.ref b),some (.str (Str.ofString kd)),some (.int F),some (.int I),none],?_,?_⟩
  ·refine⟨(by show 5<=sizeLine;decide),fun l hl=>?_⟩
   refine⟨_,rfl,c,2,rfl,by decide,by decide,fun y y0=>⟨_,_,rfl,rfl,(by show(0:Int)<5;decide),?_⟩⟩
   obtain⟨g,g0,g7,eg⟩:=pick7 y y0
   exact⟨l,_,_,_,rfl,rfl,SqL.of upd_same,eg,g,⟨g0,g7⟩,(Same.refl H').upd_free hl,rfl⟩
  rintro σ' H2 ⟨I,i0,s2,rfl⟩
  have t2:=s1.trans s2
  refine⟨_,rfl,rfl,_,rfl,?_⟩
  rcases hkd with rfl|hkd
  ·refine iteTK (by decide +kernel) ?_
   refine⟨_,rfl,_,rfl,(by show 2<=sizeLine;decide),fun p hp=>?_⟩
   exact k p (.row F) _ (t2.upd_free (t2.free hp)) upd_same rfl (fun _=>bF) (by show 2<=6;decide)
  have n1:decide (V.str (Str.ofString kd)=V.str (Str.ofString "row"))=false:=by
   rcases hkd with rfl|rfl|rfl<;>decide +kernel
  refine iteFK n1 ?_
  refine⟨_,rfl,rfl,_,rfl,?_⟩
  rcases hkd with rfl|hkd
  ·refine iteTK (by decide +kernel) ?_
   refine⟨_,rfl,_,rfl,_,rfl,_,rfl,_,rfl,c,3,rfl,by decide,by decide,fun z z0=>⟨_,_,rfl,rfl,(by show(0:Int)<5;decide),?_⟩⟩
   obtain⟨x,hx,ex⟩:=atI_some (ws.map V.str) (z%5) (by omega) (by rw[List.length_map,wl];omega)
   obtain⟨W,hW,rfl⟩:=List.mem_map.mp hx
   refine⟨b,_,_,_,rfl,rfl,SqL.of (t2 _ _ hB),ex,(by show 4<=sizeLine;decide),fun p hp=>?_⟩
   exact k p (.wit F I W) _ (t2.upd_free (t2.free hp)) upd_same rfl (fun _=>⟨bF,i0,wt W hW⟩) (by show 4<=6;decide)
  have n2:decide (V.str (Str.ofString kd)=V.str (Str.ofString "with"))=false:=by
   rcases hkd with rfl|rfl<;>decide +kernel
  refine iteFK n2 ?_
  refine⟨fun σ' H'=>∃G:Int,(0<=G/\G<=8)/\H'=H2/\σ'=[some (.int c),some (.ref a),some (.ref b),some (.str (Str.ofString kd)),some (.int F),some (.int I),some (.int G)],?_,?_⟩
  ·refine⟨_,rfl,_,rfl,c,4,rfl,by decide,by decide,fun z z0=>?_⟩
   obtain⟨x,hx,ex⟩:=atI_some (ns.map V.int) (z%2) (by omega) (by rw[List.length_map,nl];omega)
   obtain⟨G,hG,rfl⟩:=List.mem_map.mp hx
   exact⟨_,_,rfl,rfl,(by show(0:Int)<2;decide),a,_,_,_,rfl,rfl,SqL.of (t2 _ _ hA),ex,G,nb G hG,rfl,rfl⟩
  rintro σ' H3 ⟨G,bG,rfl,rfl⟩
  refine⟨_,rfl,_,rfl,_,rfl,_,rfl,(by show 5<=sizeLine;decide),fun l hl=>?_⟩
  have s3:=t2.upd_free (o:=.lst [.int 0,.int 0,.int 1,.int 2,.int 7]) (t2.free hl)
  refine⟨_,rfl,c,5,rfl,by decide,by decide,fun y y0=>⟨_,_,rfl,rfl,(by show(0:Int)<5;decide),?_⟩⟩
  obtain⟨J,j0,j7,eg⟩:=pick7 y y0
  refine⟨l,_,_,_,rfl,rfl,SqL.of upd_same,eg,_,rfl,c,6,rfl,by decide,by decide,fun R H4 r1 r2 s4=>⟨(by show 6<=sizeLine;decide),fun p hp=>?_⟩⟩
  have t4:=s3.trans s4
  rcases hkd with rfl|rfl
  ·exact k p (.beh F I G J R) _ (t4.upd_free (t4.free hp)) upd_same rfl (fun _=>⟨bF,i0,bG,⟨j0,j7⟩,r1,r2⟩) (by show 6<=6;decide)
  ·exact k p (.ahd F I G J R) _ (t4.upd_free (t4.free hp)) upd_same rfl (fun _=>⟨bF,i0,bG,⟨j0,j7⟩,r1,r2⟩) (by show 6<=6;decide)
structure Mk4 (P:Program)(w:World)(K:W.Frag)(mg:Str->Option Value)(base:Heap)(cl:Kd->Addr)(fR fW fH fA:Addr)(dR dW dH dA:FuncData):Prop where
 mR:Mk K (cl .row) fR
 mW:Mk K (cl .wit) fW
 mH:Mk K (cl .beh) fH
 mA:Mk K (cl .ahd) fA
 gR:mg "Row"=some (.ref (cl .row))
 gW:mg "With"=some (.ref (cl .wit))
 gH:mg "Behind"=some (.ref (cl .beh))
 gA:mg "Ahead"=some (.ref (cl .ahd))
 bR:Binds K dR ["self","letter"] []
 bW:Binds K dW ["self","letter","gap","word"] []
 bH:Binds K dH ["self","letter","gap","other","there","reach"] []
 bA:Binds K dA ["self","letter","gap","other","there","reach"] []
 oR:FnOk P w K mg base CX0 1 fR dR ["self","letter"] (spRi cl)
 oW:FnOk P w K mg base CX0 1 fW dW ["self","letter","gap","word"] (spWi cl)
 oH:FnOk P w K mg base CX0 1 fH dH ["self","letter","gap","other","there","reach"] (spFi (cl .beh))
 oA:FnOk P w K mg base CX0 1 fA dA ["self","letter","gap","other","there","reach"] (spFi (cl .ahd))
end
end QL
namespace QL
open PySem L2
structure Txt2 (mg:Str->Option Value):Prop where
 sorted:mg "sorted"=none
 set:mg "set"=none
theorem vN_eq (rows:List Nat):vN rows=(rows.map fun(m:Nat)=>(m:Int)).map V.int:=by
 unfold vN
 rw[List.map_map]
 rfl
theorem found_lt {es:List Ent}:∀(q:Qn) (n:Nat) (rows:List Nat),n<es.length->foundM es q n=some rows->∀m∈rows,m<es.length
 |.row F,n,rows,hn,h,m,hm=>by
  unfold foundM at h
  split at h
  ·cases h
   rw[List.mem_singleton.mp hm]
   exact hn
  ·cases h
 |.wit F I W,n,rows,hn,h,m,hm=>by
  unfold foundM at h
  split at h
  ·cases h
   rw[List.mem_singleton.mp hm]
   exact hn
  ·cases h
 |.beh F I G J R,n,rows,hn,h,m,hm=>by
  unfold foundM at h
  obtain⟨x,hx,e⟩:=Option.map_eq_some_iff.mp h
  subst e
  have F:=fst_is (behP es n F I G J) (min (n+R+1) es.length-(n+1)) (n+1)
  rw[hx] at F
  have:=F.1
  have:=F.2.1
  simp only[List.mem_cons,List.not_mem_nil,or_false] at hm
  rcases hm with rfl|rfl<;>omega
 |.ahd F I G J R,n,rows,hn,h,m,hm=>by
  unfold foundM at h
  obtain⟨x,hx,e⟩:=Option.map_eq_some_iff.mp h
  subst e
  have F:=lst_is (behP es n F I G J) (n-R) (n-(n-R))
  rw[hx] at F
  have:=F.1
  have:=F.2.1
  simp only[List.mem_cons,List.not_mem_nil,or_false] at hm
  rcases hm with rfl|rfl<;>omega
 |.tim K C q,n,rows,hn,h,m,hm=>by
  unfold foundM at h
  split at h
  ·cases h
   have:=(mem_rng.mp (List.mem_filter.mp hm).1).2
   omega
  ·cases h
 |.bot q r,n,rows,hn,h,m,hm=>by
  unfold foundM at h
  split at h
  ·cases h
   exact List.mem_range.mp (List.mem_filter.mp hm).1
  ·cases h
 |.eit q r,n,rows,hn,h,m,hm=>by
  unfold foundM at h
  split at h
  ·rename_i a ha
   cases h
   exact found_lt q n _ hn ha m hm
  ·exact found_lt r n rows hn h m hm
 |.non q,n,rows,hn,h,m,hm=>by
  unfold foundM at h
  split at h
  ·cases h
   cases hm
  ·cases h
def both (L:Nat)(a b:List Nat):List Nat:=(List.range L).filter fun m=>decide (m∈a)||decide (m∈b)
theorem both_mem {L:Nat}{a b:List Nat}(ha:∀m∈a,m<L)(hb:∀m∈b,m<L)(m:Nat):m∈both L a b↔m∈a++b:=by
 unfold both
 rw[List.mem_filter,List.mem_range,List.mem_append]
 constructor
 ·rintro⟨_,h⟩
  simpa using h
 ·intro h
  exact⟨h.elim (ha m) (hb m),by simpa using h⟩
theorem both_len (L:Nat)(a b:List Nat):(both L a b).length<=L:=Nat.le_trans (List.length_filter_le ..) (by rw[List.length_range];exact Nat.le_refl _)
theorem both_lt (L:Nat)(a b:List Nat):(both L a b).Pairwise (· < ·):=List.pairwise_lt_range.filter _
def zs (rows:List Nat):List Int:=rows.map fun(m:Nat)=>(m:Int)
theorem zs_lt {rows:List Nat}(h:rows.Pairwise (· < ·)):(zs rows).Pairwise (· < ·):=by
 unfold zs
 rw[List.pairwise_map]
 exact h.imp fun h=>by omega
theorem zs_mem {rows:List Nat}{k:Int}:k∈zs rows↔∃m∈rows,(m:Int)=k:=List.mem_map
theorem both_perm {L:Nat}{a b:List Nat}(ha:∀m∈a,m<L)(hb:∀m∈b,m<L){σ:List Int}(nd:σ.Nodup)(hm:∀k,k∈σ↔k∈zs (a++b)):σ.Perm (zs (both L a b)):=by
 refine(List.perm_ext_iff_of_nodup nd ((zs_lt (both_lt L a b)).imp fun h=>by omega)).mpr fun k=>?_
 rw[hm,zs_mem,zs_mem]
 constructor
 ·rintro⟨m,h1,h2⟩
  exact⟨m,(both_mem ha hb m).mpr h1,h2⟩
 ·rintro⟨m,h1,h2⟩
  exact⟨m,(both_mem ha hb m).mp h1,h2⟩
theorem both_sorted {L:Nat}{a b:List Nat}(ha:∀m∈a,m<L)(hb:∀m∈b,m<L){σ ns:List Int}(nd:σ.Nodup)(hm:∀k,k∈σ↔k∈zs (a++b))(hp:ns.Perm σ)(hs:ns.Pairwise (· <= ·)):ns.map V.int=vN (both L a b):=by
 rw[vN_eq]
 refine congrArg _ ?_
 exact List.Perm.eq_of_pairwise (le:=fun(x y:Int)=>x<=y) (fun x y _ _ h1 h2=>Int.le_antisymm h1 h2) hs ((zs_lt (both_lt L a b)).imp fun h=>by omega) (hp.trans (both_perm ha hb nd hm))
theorem vN_app (a b:List Nat):vN a++vN b=(zs (a++b)).map V.int:=by
 rw[vN_eq,vN_eq]
 unfold zs
 rw[List.map_append,List.map_append]
theorem zs_len (a:List Nat):(zs a).length=a.length:=List.length_map ..
theorem found_bot {es:List Ent}{q r:Qn}{n:Nat}{a b:List Nat}(h1:foundM es q n=some a)(h2:foundM es r n=some b):foundM es (.bot q r) n=some (both es.length a b):=by
 show(match foundM es q n,foundM es r n with
  |some a,some b=>some ((List.range es.length).filter fun m=>decide (m∈a)||decide (m∈b))
  |_,_=>none)=_
 rw[h1,h2]
 rfl
theorem found_bot1 {es:List Ent}{q r:Qn}{n:Nat}(h1:foundM es q n=none):foundM es (.bot q r) n=none:=by
 show(match foundM es q n,foundM es r n with
  |some a,some b=>some ((List.range es.length).filter fun m=>decide (m∈a)||decide (m∈b))
  |_,_=>none)=_
 rw[h1]
theorem found_bot2 {es:List Ent}{q r:Qn}{n:Nat}(h1:foundM es r n=none):foundM es (.bot q r) n=none:=by
 show(match foundM es q n,foundM es r n with
  |some a,some b=>some ((List.range es.length).filter fun m=>decide (m∈a)||decide (m∈b))
  |_,_=>none)=_
 rw[h1]
 cases foundM es q n<;>rfl
theorem found_short {es:List Ent}:∀(q:Qn) (n:Nat) (rows:List Nat),n<es.length->foundM es q n=some rows->rows.length<=es.length+2
 |.row F,n,rows,hn,h=>by
  unfold foundM at h
  split at h
  ·cases h
   show 1<=_
   omega
  ·cases h
 |.wit F I W,n,rows,hn,h=>by
  unfold foundM at h
  split at h
  ·cases h
   show 1<=_
   omega
  ·cases h
 |.beh F I G J R,n,rows,hn,h=>by
  unfold foundM at h
  obtain⟨m,_,e⟩:=Option.map_eq_some_iff.mp h
  subst e
  show 2<=_
  omega
 |.ahd F I G J R,n,rows,hn,h=>by
  unfold foundM at h
  obtain⟨m,_,e⟩:=Option.map_eq_some_iff.mp h
  subst e
  show 2<=_
  omega
 |.tim K C q,n,rows,hn,h=>by
  unfold foundM at h
  split at h
  ·cases h
   exact Nat.le_trans (List.length_filter_le ..) (by rw[rng_len];omega)
  ·cases h
 |.bot q r,n,rows,hn,h=>by
  unfold foundM at h
  split at h
  ·cases h
   exact Nat.le_trans (List.length_filter_le ..) (by rw[List.length_range];omega)
  ·cases h
 |.eit q r,n,rows,hn,h=>by
  unfold foundM at h
  split at h
  ·rename_i a ha
   cases h
   exact found_short q n _ hn ha
  ·exact found_short r n rows hn h
 |.non q,n,rows,hn,h=>by
  unfold foundM at h
  split at h
  ·cases h
   exact Nat.zero_le _
  ·cases h
section
variable {P:Program} {w:World} {K:W.Frag} {mg:Str->Option Value} {base:Heap} {ks:Kd->Bool} {cl:Kd->Addr} {d lev:Nat}
theorem joint_of {k:Kd}{H:Hp}{p:Addr}{q:Qn}(hk:q.kd=k)(h:k=.bot\/k=.eit)(hq:QAt cl H q p)(hi:q.In ks)(hd:q.dep<d+1):∃(a b:Qn) (dx:Addr) (fs:List (Str×V)) (c e:Addr),H p=some (.ins (cl k) dx fs)/\fs.lookup ("one":Str)=some (.ref c)/\fs.lookup ("other":Str)=some (.ref e)∧
  QAt cl H a c/\QAt cl H b e/\a.In ks/\b.In ks/\a.dep<d/\b.dep<d/\backM q=max (backM a) (backM b)/\onM q=max (onM a) (onM b):=by
 rcases h with rfl|rfl
 ·cases q<;>try cases hk
  rename_i a b
  obtain⟨dx,fs,c,e,h1,h2,h3,h4,h5,h6⟩:=hq
  have hd':max a.dep b.dep+1<d+1:=hd
  exact⟨a,b,dx,fs,c,e,h1,h2,h3,h5,h6,hi.2.1,hi.2.2,by omega,by omega,rfl,rfl⟩
 ·cases q<;>try cases hk
  rename_i a b
  obtain⟨dx,fs,c,e,h1,h2,h3,h4,h5,h6⟩:=hq
  have hd':max a.dep b.dep+1<d+1:=hd
  exact⟨a,b,dx,fs,c,e,h1,h2,h3,h5,h6,hi.2.1,hi.2.2,by omega,by omega,rfl,rfl⟩
theorem max_is (i j:Int):(if j > i then j else i)=max i j:=by
 split<;>omega
theorem scJb:FnScope ["self"] ["self"] (defScope sJb):=.of (by decide +kernel)
theorem ok_jb {k:Kd}(F:Fun K "back" "Joint.back" sJb f fd)(TX:Txt mg)(C:Cls K (cl k))(hj:k=.bot\/k=.eit)(nO:NoAttr K (cl k) "one")(nR:NoAttr K (cl k) "other")(T:Tab P w K mg base ks cl d lev):FnOk P w K mg base CX0 (lev+1) f fd ["self"] (spB ks cl k (d+1)):=by
 refine F.ok scJb (fun vs H Q E h=>?_) (fun cdv A outer s H vs Q E hr h=>?_)
 ·obtain⟨p,q,rfl,_⟩:=h
  rfl
 ·obtain⟨p,q,rfl,hk,hd,hi,hq,k⟩:=h
  obtain⟨a,b,dx,fs,c,e,h1,h2,h3,h5,h6,ia,ib,da,db,eb,eo⟩:=joint_of hk hj hq hi hd
  refine⟨_,pss_one (ps_ret (pe_callB (call_max2 rfl) (by rfl) TX.max PyProof.Rows.boot_max (pa_cons (pe_methD0 (CX:=CX0) (pe_fld (pv 0) rfl) hr pass0) (pa_cons (pe_methD0 (CX:=CX0) (pe_fld (pv 0) rfl) hr pass0) pa_nil)))),?_⟩
  obtain⟨x1,x2,x3,x4,g1,g2,g3,g4,g5,g6⟩:=T.back h5 ia
  obtain⟨y1,y2,y3,y4,l1,l2,l3,l4,l5,l6⟩:=T.back h6 ib
  refine⟨_,rfl,p,_,dx,_,_,rfl,h1,C,nO,h2,c,_,x1,x2,x3,x4,_,_,rfl,g1,g2,g3,g4,g5,g6,c,a,rfl,rfl,da,ia,h5,_,rfl,p,_,dx,_,_,rfl,h1,C,nR,h3,e,_,y1,y2,y3,y4,_,_,rfl,l1,l2,l3,l4,l5,l6,e,b,rfl,rfl,db,ib,h6,_,_,rfl,?_⟩
  rw[eb] at k
  rw[max_is]
  exact k
theorem scJo:FnScope ["self"] ["self"] (defScope sJo):=.of (by decide +kernel)
theorem ok_jo {k:Kd}(F:Fun K "on" "Joint.on" sJo f fd)(TX:Txt mg)(C:Cls K (cl k))(hj:k=.bot\/k=.eit)(nO:NoAttr K (cl k) "one")(nR:NoAttr K (cl k) "other")(T:Tab P w K mg base ks cl d lev):FnOk P w K mg base CX0 (lev+1) f fd ["self"] (spO ks cl k (d+1)):=by
 refine F.ok scJo (fun vs H Q E h=>?_) (fun cdv A outer s H vs Q E hr h=>?_)
 ·obtain⟨p,q,rfl,_⟩:=h
  rfl
 ·obtain⟨p,q,rfl,hk,hd,hi,hq,k⟩:=h
  obtain⟨a,b,dx,fs,c,e,h1,h2,h3,h5,h6,ia,ib,da,db,eb,eo⟩:=joint_of hk hj hq hi hd
  refine⟨_,pss_one (ps_ret (pe_callB (call_max2 rfl) (by rfl) TX.max PyProof.Rows.boot_max (pa_cons (pe_methD0 (CX:=CX0) (pe_fld (pv 0) rfl) hr pass0) (pa_cons (pe_methD0 (CX:=CX0) (pe_fld (pv 0) rfl) hr pass0) pa_nil)))),?_⟩
  obtain⟨x1,x2,x3,x4,g1,g2,g3,g4,g5,g6⟩:=T.on h5 ia
  obtain⟨y1,y2,y3,y4,l1,l2,l3,l4,l5,l6⟩:=T.on h6 ib
  refine⟨_,rfl,p,_,dx,_,_,rfl,h1,C,nO,h2,c,_,x1,x2,x3,x4,_,_,rfl,g1,g2,g3,g4,g5,g6,c,a,rfl,rfl,da,ia,h5,_,rfl,p,_,dx,_,_,rfl,h1,C,nR,h3,e,_,y1,y2,y3,y4,_,_,rfl,l1,l2,l3,l4,l5,l6,e,b,rfl,rfl,db,ib,h6,_,_,rfl,?_⟩
  rw[eo] at k
  rw[max_is]
  exact k
theorem scBf:FnScope ["self","log","n","rows","others"] ["self","log","n"] (defScope sBf):=.of (by decide +kernel)
theorem ok_bf (F:Fun K "found" "Both.found" sBf f fd)(TX:Txt mg)(T2:Txt2 mg)(C:Cls K (cl .bot))(nO:NoAttr K (cl .bot) "one")(nR:NoAttr K (cl .bot) "other")(T:Tab P w K mg base ks cl d lev):FnOk P w K mg base CX0 (lev+1) f fd ["self","log","n"] (spF ks cl .bot (d+1)):=by
 refine F.ok scBf (fun vs H Q E h=>?_) (fun cdv A outer s H vs Q E hr h=>?_)
 ·obtain⟨p,t,n,q,es,rfl,_⟩:=h
  rfl
 ·obtain⟨p,t,n,q,es,rfl,hk,hd,ho,hi,hq,L,l1,hn,k⟩:=h
  cases q<;>try cases hk
  rename_i qa qb
  obtain⟨dx,fs,c,e,h1,h2,h3,h4,h5,h6⟩:=hq
  have hd':max qa.dep qb.dep+1<d+1:=hd
  have da:qa.dep<d:=by omega
  have db:qb.dep<d:=by omega
  refine⟨_,pss_cons (ps_set (i:=3) scBf.nd rfl (Or.inl rfl) (pe_methD (CX:=CX0) (pe_fld (pv 0) rfl) hr pass0 (pa_cons (pv 1) (pa_cons (pv 2) pa_nil))))
   (pss_cons (ps_set (i:=4) scBf.nd rfl (Or.inl rfl) (pe_methD (CX:=CX0) (pe_fld (pv 0) rfl) hr pass0 (pa_cons (pv 1) (pa_cons (pv 2) pa_nil))))
   (pss_cons (ps_if (PW.pt (pw_or (pt_cmp (pc_isN (pv 3))) (pw_or1 (pt_cmp (pc_isN (pv 4)))))) (pss_one (ps_ret pe_non)) pss_nil)
   (pss_one (ps_ret (pe_callTy call_tuple_of (by rfl) TX.tuple PyProof.Rows.boot_tuple (pa_cons (pe_callB (call_sortedS rfl (P:=P) (w:=w) rfl rfl) (by rfl) T2.sorted PyProof.Rows.boot_sorted (pa_cons (pe_callTy (call_setR rfl (P:=P) (w:=w) rfl rfl) (by rfl) T2.set PyProof.Rows.boot_set (pa_cons (pe_op op_catA (pv 3) (pv 4)) pa_nil)) pa_nil)) pa_nil)))))),?_⟩
  obtain⟨x1,x2,x3,x4,g1,g2,g3,g4,g5,g6⟩:=T.found h5 hi.2.1
  refine⟨_,rfl,p,_,dx,_,_,rfl,h1,C,nO,h2,c,_,x1,x2,x3,x4,_,_,rfl,g1,g2,g3,g4,g5,g6,_,rfl,_,rfl,c,t,n,qa,es,rfl,rfl,da,ho.1,hi.2.1,h5,L,l1,hn,?_⟩
  cases hfa:foundM es qa n with
  |none=>
   rw[found_bot1 hfa] at k
   intro H4 u4
   obtain⟨y1,y2,y3,y4,l1',l2,l3,l4,l5,l6⟩:=T.found (QAt.same u4 h6) hi.2.2
   refine⟨_,rfl,p,_,dx,_,_,rfl,u4 _ _ h1,C,nR,h3,e,_,y1,y2,y3,y4,_,_,rfl,l1',l2,l3,l4,l5,l6,_,rfl,_,rfl,e,t,n,qb,es,rfl,rfl,db,ho.2,hi.2.2,QAt.same u4 h6,L.same u4,l1,hn,?_⟩
   cases hfb:foundM es qb n with
   |none=>
    intro H5 u5
    exact⟨_,rfl,_,rfl,iteT (iteT (k H5 (u4.trans u5)))⟩
   |some b=>
    intro ab H5 u5 _
    exact⟨_,rfl,_,rfl,iteT (iteT (k H5 (u4.trans u5)))⟩
  |some a=>
   intro aa H4 u4 haa
   obtain⟨y1,y2,y3,y4,l1',l2,l3,l4,l5,l6⟩:=T.found (QAt.same u4 h6) hi.2.2
   refine⟨_,rfl,p,_,dx,_,_,rfl,u4 _ _ h1,C,nR,h3,e,_,y1,y2,y3,y4,_,_,rfl,l1',l2,l3,l4,l5,l6,_,rfl,_,rfl,e,t,n,qb,es,rfl,rfl,db,ho.2,hi.2.2,QAt.same u4 h6,L.same u4,l1,hn,?_⟩
   cases hfb:foundM es qb n with
   |none=>
    rw[found_bot2 hfb] at k
    intro H5 u5
    exact⟨_,rfl,_,rfl,iteF ⟨_,rfl,_,rfl,iteT (k H5 (u4.trans u5))⟩⟩
   |some b=>
    rw[found_bot hfa hfb] at k
    intro ab H5 u5 hab
    refine⟨_,rfl,_,rfl,iteF ⟨_,rfl,_,rfl,iteF ?_⟩⟩
    have ha:=found_lt qa n a hn hfa
    have hb:=found_lt qb n b hn hfb
    have la:=found_short qa n a hn hfa
    have lb:=found_short qb n b hn hfb
    have hla:=vN_len a
    have hlb:=vN_len b
    refine⟨_,rfl,_,rfl,aa,ab,_,_,rfl,rfl,u5 _ _ haa,hab,Nat.le_of_lt (small1000 (by omega)),fun pc H6 u6 hc=>?_⟩
    rw[vN_app] at hc
    refine⟨pc,zs (a++b),rfl,.inr (SqT.of hc),by rw[zs_len,List.length_append];omega,fun sa σ hsa nd hm _=>?_⟩
    have hp:=both_perm ha hb nd hm
    have h64:σ.length<64:=by
     have:=hp.length_eq
     rw[zs_len] at this
     have:=both_len es.length a b
     omega
    have u7:Same H6 (upd H6 sa (IS P w sa σ)):=(Same.refl H6).upd_free hsa
    refine⟨sa,σ,rfl,upd_same,h64,fun l ns hl hpn hs=>?_⟩
    have u8:Same (upd H6 sa (IS P w sa σ)) (upd (upd H6 sa (IS P w sa σ)) l (.lst (ns.map V.int))):=(Same.refl _).upd_free hl
    rw[both_sorted ha hb nd hm hpn hs] at u8 ⊢
    refine⟨l,_,rfl,.inl ⟨SqL.of upd_same,fun lt hlt=>?_⟩⟩
    exact k lt _ ((((u4.trans u5).trans u6).trans (u7.trans u8)).upd_free ((((u4.trans u5).trans u6).trans (u7.trans u8)).free hlt)) upd_same
theorem scEf:FnScope ["self","log","n","rows"] ["self","log","n"] (defScope sEf):=.of (by decide +kernel)
theorem ok_ef (F:Fun K "found" "Either.found" sEf f fd)(C:Cls K (cl .eit))(nO:NoAttr K (cl .eit) "one")(nR:NoAttr K (cl .eit) "other")(T:Tab P w K mg base ks cl d lev):FnOk P w K mg base CX0 (lev+1) f fd ["self","log","n"] (spF ks cl .eit (d+1)):=by
 refine F.ok scEf (fun vs H Q E h=>?_) (fun cdv A outer s H vs Q E hr h=>?_)
 ·obtain⟨p,t,n,q,es,rfl,_⟩:=h
  rfl
 ·obtain⟨p,t,n,q,es,rfl,hk,hd,ho,hi,hq,L,l1,hn,k⟩:=h
  cases q<;>try cases hk
  rename_i qa qb
  obtain⟨dx,fs,c,e,h1,h2,h3,h4,h5,h6⟩:=hq
  have hd':max qa.dep qb.dep+1<d+1:=hd
  have da:qa.dep<d:=by omega
  have db:qb.dep<d:=by omega
  refine⟨_,pss_cons (ps_set (i:=3) scEf.nd rfl (Or.inl rfl) (pe_methD (CX:=CX0) (pe_fld (pv 0) rfl) hr pass0 (pa_cons (pv 1) (pa_cons (pv 2) pa_nil))))
   (pss_one (ps_ret (pe_ifExp (pt_cmp (pc_isN (pv 3))) (pe_methD (CX:=CX0) (pe_fld (pv 0) rfl) hr pass0 (pa_cons (pv 1) (pa_cons (pv 2) pa_nil))) (pv 3)))),?_⟩
  obtain⟨x1,x2,x3,x4,g1,g2,g3,g4,g5,g6⟩:=T.found h5 hi.2.1
  refine⟨_,rfl,p,_,dx,_,_,rfl,h1,C,nO,h2,c,_,x1,x2,x3,x4,_,_,rfl,g1,g2,g3,g4,g5,g6,_,rfl,_,rfl,c,t,n,qa,es,rfl,rfl,da,ho.1,hi.2.1,h5,L,l1,hn,?_⟩
  unfold foundM at k
  cases hfa:foundM es qa n with
  |none=>
   rw[hfa] at k
   intro H4 u4
   obtain⟨y1,y2,y3,y4,l1',l2,l3,l4,l5,l6⟩:=T.found (QAt.same u4 h6) hi.2.2
   refine⟨_,rfl,_,rfl,iteT ⟨_,rfl,p,_,dx,_,_,rfl,u4 _ _ h1,C,nR,h3,e,_,y1,y2,y3,y4,_,_,rfl,l1',l2,l3,l4,l5,l6,_,rfl,_,rfl,e,t,n,qb,es,rfl,rfl,db,ho.2,hi.2.2,QAt.same u4 h6,L.same u4,l1,hn,?_⟩⟩
   replace k:Told H Q (foundM es qb n):=k
   cases hfb:foundM es qb n with
   |none=>
    rw[hfb] at k
    intro H5 u5
    exact k H5 (u4.trans u5)
   |some b=>
    rw[hfb] at k
    intro ab H5 u5 hab
    exact k ab H5 (u4.trans u5) hab
  |some a=>
   rw[hfa] at k
   intro aa H4 u4 haa
   exact⟨_,rfl,_,rfl,iteF ⟨_,rfl,k aa H4 u4 haa⟩⟩
def jq (b:Bool)(q r:Qn):Qn:=if b then .bot q r else .eit q r
def jk (b:Bool):Kd:=if b then .bot else .eit
def spJi (cl:Kd->Addr)(b:Bool):Sp:=fun vs H Q _=>∃(p dx c e:Addr) (q r:Qn) (H1:Hp),vs=[.ref p,.ref c,.ref e]/\H p=some (.ins (cl (jk b)) dx [])/\QAt cl H1 q c/\QAt cl H1 r e/\Old H1 H p/\∀H',QAt cl H' (jq b q r) p->Kept H H' p->Q .non H'
theorem scJi:FnScope ["self","one","other"] ["self","one","other"] (defScope sJi):=.of (by decide +kernel)
theorem ok_ji (b:Bool)(F:Fun K "__init__" "Joint.__init__" sJi f fd)(C:Cls K (cl (jk b)))(nO:NoAttr K (cl (jk b)) "one")(nR:NoAttr K (cl (jk b)) "other"):FnOk P w K mg base CX0 1 f fd ["self","one","other"] (spJi cl b):=by
 refine F.ok scJi (fun vs H Q E h=>?_) (fun cdv A outer s H vs Q E hr h=>?_)
 ·obtain⟨p,dx,c,e,q,r,H1,rfl,_⟩:=h
  rfl
 ·obtain⟨p,dx,c,e,q,r,H1,rfl,hp,hq,hq',ho,k⟩:=h
  refine⟨_,pss_cons (ps_fld (pv 0) (pv 1) rfl) (pss_one (ps_fld (pv 0) (pv 2) rfl)),?_⟩
  refine⟨_,rfl,_,rfl,p,_,dx,_,rfl,hp,C,nO,(by show 0<1000;decide),?_⟩
  refine⟨_,rfl,_,rfl,p,_,dx,_,rfl,upd_same,C,nR,(by show 1<1000;decide),?_⟩
  generalize hH':upd _ p _=H'
  have kp:Kept H H' p:=fun b o e hb=>by
   rw[<- hH',upd_ne hb,upd_ne hb]
   exact e
  have at':∃fs:List (Str×V),H' p=some (.ins (cl (jk b)) dx fs)/\fs.lookup ("one":Str)=some (.ref c)/\fs.lookup ("other":Str)=some (.ref e)/\NoMeth fs:=by
   refine⟨_,by rw[<- hH'];exact upd_same,?_,?_,(NoMeth.nil.put (by decide +kernel) (by decide +kernel) (by decide +kernel)).put (by decide +kernel) (by decide +kernel) (by decide +kernel)⟩
   ·rw[lookup_putF,if_neg (by decide +kernel),lookup_putF,if_pos rfl]
   ·rw[lookup_putF,if_pos rfl]
  obtain⟨fs,a1,a2,a3,a4⟩:=at'
  refine k H' ?_ kp
  cases b with
  |true=>exact⟨dx,fs,c,e,a1,a2,a3,a4,QAt.same (ho.then kp) hq,QAt.same (ho.then kp) hq'⟩
  |false=>exact⟨dx,fs,c,e,a1,a2,a3,a4,QAt.same (ho.then kp) hq,QAt.same (ho.then kp) hq'⟩
end
end QL
namespace QL
open PySem L2
def ks:Kd->Bool
 |.row=>true
 |.wit=>true
 |.beh=>true
 |.ahd=>true
 |.tim=>true
 |.bot=>true
 |.eit=>true
 |.non=>true
abbrev clF (r w h a t b e n:Addr):Kd->Addr
 |.row=>r
 |.wit=>w
 |.beh=>h
 |.ahd=>a
 |.tim=>t
 |.bot=>b
 |.eit=>e
 |.non=>n
structure Prog (K:W.Frag)(mg:Str->Option Value)(cl:Kd->Addr)(fW fS:Addr)(dW dS:FuncData)(f_Qb f_Qo f_Rf f_Wf f_Ho f_Hf f_Ab f_Af f_Tb f_To f_Tf f_Jb f_Jo f_Bf f_Ef f_Nb f_No f_Nf:Addr)(d_Qb d_Qo d_Rf d_Wf d_Ho d_Hf d_Ab d_Af d_Tb d_To d_Tf d_Jb d_Jo d_Bf d_Ef d_Nb d_No d_Nf:FuncData):Prop where
 T:Txt mg
 FW:Fun K "word_at" "word_at" sWa fW dW
 bW:Binds K dW ["entry","place"] []
 gW:mg "word_at"=some (.ref fW)
 FS:Fun K "same_word" "same_word" sSw fS dS
 bS:Binds K dS ["entry","place","other","away"] []
 gS:mg "same_word"=some (.ref fS)
 T2:Txt2 mg
 c_row:Cls K (cl .row)
 n_row_wanted:NoAttr K (cl .row) "wanted"
 c_wit:Cls K (cl .wit)
 n_wit_here:NoAttr K (cl .wit) "here"
 n_wit_wanted:NoAttr K (cl .wit) "wanted"
 c_beh:Cls K (cl .beh)
 n_beh_here:NoAttr K (cl .beh) "here"
 n_beh_away:NoAttr K (cl .beh) "away"
 n_beh_reach:NoAttr K (cl .beh) "reach"
 c_ahd:Cls K (cl .ahd)
 n_ahd_here:NoAttr K (cl .ahd) "here"
 n_ahd_away:NoAttr K (cl .ahd) "away"
 n_ahd_reach:NoAttr K (cl .ahd) "reach"
 c_tim:Cls K (cl .tim)
 n_tim_reach:NoAttr K (cl .tim) "reach"
 n_tim_least:NoAttr K (cl .tim) "least"
 n_tim_inner:NoAttr K (cl .tim) "inner"
 c_bot:Cls K (cl .bot)
 n_bot_one:NoAttr K (cl .bot) "one"
 n_bot_other:NoAttr K (cl .bot) "other"
 c_eit:Cls K (cl .eit)
 n_eit_one:NoAttr K (cl .eit) "one"
 n_eit_other:NoAttr K (cl .eit) "other"
 c_non:Cls K (cl .non)
 n_non_one:NoAttr K (cl .non) "one"
 F_Qb:Fun K "back" "Question.back" sBk f_Qb d_Qb
 b_Qb:Binds K d_Qb ["self"] []
 F_Qo:Fun K "on" "Question.on" sOn f_Qo d_Qo
 b_Qo:Binds K d_Qo ["self"] []
 F_Rf:Fun K "found" "Row.found" sRf f_Rf d_Rf
 b_Rf:Binds K d_Rf ["self","log","n"] []
 F_Wf:Fun K "found" "With.found" sWf f_Wf d_Wf
 b_Wf:Binds K d_Wf ["self","log","n"] []
 F_Ho:Fun K "on" "Behind.on" sHo f_Ho d_Ho
 b_Ho:Binds K d_Ho ["self"] []
 F_Hf:Fun K "found" "Behind.found" sHf f_Hf d_Hf
 b_Hf:Binds K d_Hf ["self","log","n"] []
 F_Ab:Fun K "back" "Ahead.back" sAb f_Ab d_Ab
 b_Ab:Binds K d_Ab ["self"] []
 F_Af:Fun K "found" "Ahead.found" sAf f_Af d_Af
 b_Af:Binds K d_Af ["self","log","n"] []
 F_Tb:Fun K "back" "Times.back" sTb f_Tb d_Tb
 b_Tb:Binds K d_Tb ["self"] []
 F_To:Fun K "on" "Times.on" sTo f_To d_To
 b_To:Binds K d_To ["self"] []
 F_Tf:Fun K "found" "Times.found" sTf f_Tf d_Tf
 b_Tf:Binds K d_Tf ["self","log","n"] []
 F_Jb:Fun K "back" "Joint.back" sJb f_Jb d_Jb
 b_Jb:Binds K d_Jb ["self"] []
 F_Jo:Fun K "on" "Joint.on" sJo f_Jo d_Jo
 b_Jo:Binds K d_Jo ["self"] []
 F_Bf:Fun K "found" "Both.found" sBf f_Bf d_Bf
 b_Bf:Binds K d_Bf ["self","log","n"] []
 F_Ef:Fun K "found" "Either.found" sEf f_Ef d_Ef
 b_Ef:Binds K d_Ef ["self","log","n"] []
 F_Nb:Fun K "back" "Not.back" sNb f_Nb d_Nb
 b_Nb:Binds K d_Nb ["self"] []
 F_No:Fun K "on" "Not.on" sNo f_No d_No
 b_No:Binds K d_No ["self"] []
 F_Nf:Fun K "found" "Not.found" sNf f_Nf d_Nf
 b_Nf:Binds K d_Nf ["self","log","n"] []
 m_row_back:Meth K (cl .row) "back" f_Qb
 m_row_on:Meth K (cl .row) "on" f_Qo
 m_row_found:Meth K (cl .row) "found" f_Rf
 m_wit_back:Meth K (cl .wit) "back" f_Qb
 m_wit_on:Meth K (cl .wit) "on" f_Qo
 m_wit_found:Meth K (cl .wit) "found" f_Wf
 m_beh_back:Meth K (cl .beh) "back" f_Qb
 m_beh_on:Meth K (cl .beh) "on" f_Ho
 m_beh_found:Meth K (cl .beh) "found" f_Hf
 m_ahd_back:Meth K (cl .ahd) "back" f_Ab
 m_ahd_on:Meth K (cl .ahd) "on" f_Qo
 m_ahd_found:Meth K (cl .ahd) "found" f_Af
 m_tim_back:Meth K (cl .tim) "back" f_Tb
 m_tim_on:Meth K (cl .tim) "on" f_To
 m_tim_found:Meth K (cl .tim) "found" f_Tf
 m_bot_back:Meth K (cl .bot) "back" f_Jb
 m_bot_on:Meth K (cl .bot) "on" f_Jo
 m_bot_found:Meth K (cl .bot) "found" f_Bf
 m_eit_back:Meth K (cl .eit) "back" f_Jb
 m_eit_on:Meth K (cl .eit) "on" f_Jo
 m_eit_found:Meth K (cl .eit) "found" f_Ef
 m_non_back:Meth K (cl .non) "back" f_Nb
 m_non_on:Meth K (cl .non) "on" f_No
 m_non_found:Meth K (cl .non) "found" f_Nf
section
variable {P:Program} {w:World} {K:W.Frag} {mg:Str->Option Value} {base:Heap} {cl:Kd->Addr}
theorem vacF {k:Kd}{lev:Nat}{f:Addr}{fd:FuncData}{ps:List Str}:FnOk P w K mg base CX0 lev f fd ps (spF ks cl k 0):=vac fun vs H Q E h=>by
 obtain⟨p,t,n,q,es,_,_,hd,_⟩:=h
 exact Nat.not_lt_zero _ hd
theorem vacB {k:Kd}{lev:Nat}{f:Addr}{fd:FuncData}{ps:List Str}:FnOk P w K mg base CX0 lev f fd ps (spB ks cl k 0):=vac fun vs H Q E h=>by
 obtain⟨p,q,_,_,hd,_⟩:=h
 exact Nat.not_lt_zero _ hd
theorem vacO {k:Kd}{lev:Nat}{f:Addr}{fd:FuncData}{ps:List Str}:FnOk P w K mg base CX0 lev f fd ps (spO ks cl k 0):=vac fun vs H Q E h=>by
 obtain⟨p,q,_,_,hd,_⟩:=h
 exact Nat.not_lt_zero _ hd
theorem tab {fW fS f_Qb f_Qo f_Rf f_Wf f_Ho f_Hf f_Ab f_Af f_Tb f_To f_Tf f_Jb f_Jo f_Bf f_Ef f_Nb f_No f_Nf:Addr}{dW dS d_Qb d_Qo d_Rf d_Wf d_Ho d_Hf d_Ab d_Af d_Tb d_To d_Tf d_Jb d_Jo d_Bf d_Ef d_Nb d_No d_Nf:FuncData}(X:Prog K mg cl fW fS dW dS f_Qb f_Qo f_Rf f_Wf f_Ho f_Hf f_Ab f_Af f_Tb f_To f_Tf f_Jb f_Jo f_Bf f_Ef f_Nb f_No f_Nf d_Qb d_Qo d_Rf d_Wf d_Ho d_Hf d_Ab d_Af d_Tb d_To d_Tf d_Jb d_Jo d_Bf d_Ef d_Nb d_No d_Nf):∀d:Nat,Tab P w K mg base ks cl d (d+3)
 |0=>fun k hk=>by
  cases k with
  |row=>exact⟨X.c_row,⟨f_Rf,d_Rf,X.m_row_found,X.b_Rf,vacF⟩,⟨f_Qb,d_Qb,X.m_row_back,X.b_Qb,vacB⟩,⟨f_Qo,d_Qo,X.m_row_on,X.b_Qo,vacO⟩⟩
  |wit=>exact⟨X.c_wit,⟨f_Wf,d_Wf,X.m_wit_found,X.b_Wf,vacF⟩,⟨f_Qb,d_Qb,X.m_wit_back,X.b_Qb,vacB⟩,⟨f_Qo,d_Qo,X.m_wit_on,X.b_Qo,vacO⟩⟩
  |beh=>exact⟨X.c_beh,⟨f_Hf,d_Hf,X.m_beh_found,X.b_Hf,vacF⟩,⟨f_Qb,d_Qb,X.m_beh_back,X.b_Qb,vacB⟩,⟨f_Ho,d_Ho,X.m_beh_on,X.b_Ho,vacO⟩⟩
  |ahd=>exact⟨X.c_ahd,⟨f_Af,d_Af,X.m_ahd_found,X.b_Af,vacF⟩,⟨f_Ab,d_Ab,X.m_ahd_back,X.b_Ab,vacB⟩,⟨f_Qo,d_Qo,X.m_ahd_on,X.b_Qo,vacO⟩⟩
  |tim=>exact⟨X.c_tim,⟨f_Tf,d_Tf,X.m_tim_found,X.b_Tf,vacF⟩,⟨f_Tb,d_Tb,X.m_tim_back,X.b_Tb,vacB⟩,⟨f_To,d_To,X.m_tim_on,X.b_To,vacO⟩⟩
  |bot=>exact⟨X.c_bot,⟨f_Bf,d_Bf,X.m_bot_found,X.b_Bf,vacF⟩,⟨f_Jb,d_Jb,X.m_bot_back,X.b_Jb,vacB⟩,⟨f_Jo,d_Jo,X.m_bot_on,X.b_Jo,vacO⟩⟩
  |eit=>exact⟨X.c_eit,⟨f_Ef,d_Ef,X.m_eit_found,X.b_Ef,vacF⟩,⟨f_Jb,d_Jb,X.m_eit_back,X.b_Jb,vacB⟩,⟨f_Jo,d_Jo,X.m_eit_on,X.b_Jo,vacO⟩⟩
  |non=>exact⟨X.c_non,⟨f_Nf,d_Nf,X.m_non_found,X.b_Nf,vacF⟩,⟨f_Nb,d_Nb,X.m_non_back,X.b_Nb,vacB⟩,⟨f_No,d_No,X.m_non_on,X.b_No,vacO⟩⟩
 |d+1=>fun k hk=>by
  have TB:Tab P w K mg base ks cl d (d+3):=tab X d
  cases k with
  |row=>exact⟨X.c_row,⟨f_Rf,d_Rf,X.m_row_found,X.b_Rf,(ok_rf X.F_Rf X.c_row X.n_row_wanted).mono (by omega)⟩,⟨f_Qb,d_Qb,X.m_row_back,X.b_Qb,(ok_bk X.F_Qb (.inl rfl)).mono (by omega)⟩,⟨f_Qo,d_Qo,X.m_row_on,X.b_Qo,(ok_on X.F_Qo (.inl rfl)).mono (by omega)⟩⟩
  |wit=>exact⟨X.c_wit,⟨f_Wf,d_Wf,X.m_wit_found,X.b_Wf,(ok_wf X.F_Wf X.T X.c_wit X.n_wit_here X.n_wit_wanted X.FW X.bW X.gW).mono (by omega)⟩,⟨f_Qb,d_Qb,X.m_wit_back,X.b_Qb,(ok_bk X.F_Qb (.inr (.inl rfl))).mono (by omega)⟩,⟨f_Qo,d_Qo,X.m_wit_on,X.b_Qo,(ok_on X.F_Qo (.inr (.inl rfl))).mono (by omega)⟩⟩
  |beh=>exact⟨X.c_beh,⟨f_Hf,d_Hf,X.m_beh_found,X.b_Hf,(ok_hf X.F_Hf X.T X.c_beh X.n_beh_here X.n_beh_away X.n_beh_reach X.FW X.bW X.gW X.FS X.bS X.gS).mono (by omega)⟩,⟨f_Qb,d_Qb,X.m_beh_back,X.b_Qb,(ok_bk X.F_Qb (.inr (.inr rfl))).mono (by omega)⟩,⟨f_Ho,d_Ho,X.m_beh_on,X.b_Ho,(ok_ho X.F_Ho X.c_beh X.n_beh_reach).mono (by omega)⟩⟩
  |ahd=>exact⟨X.c_ahd,⟨f_Af,d_Af,X.m_ahd_found,X.b_Af,(ok_af X.F_Af X.T X.c_ahd X.n_ahd_here X.n_ahd_away X.n_ahd_reach X.FW X.bW X.gW X.FS X.bS X.gS).mono (by omega)⟩,⟨f_Ab,d_Ab,X.m_ahd_back,X.b_Ab,(ok_ab X.F_Ab X.c_ahd X.n_ahd_reach).mono (by omega)⟩,⟨f_Qo,d_Qo,X.m_ahd_on,X.b_Qo,(ok_on X.F_Qo (.inr (.inr rfl))).mono (by omega)⟩⟩
  |tim=>exact⟨X.c_tim,⟨f_Tf,d_Tf,X.m_tim_found,X.b_Tf,ok_tf X.F_Tf X.T X.c_tim X.n_tim_reach X.n_tim_least X.n_tim_inner TB⟩,⟨f_Tb,d_Tb,X.m_tim_back,X.b_Tb,ok_tb X.F_Tb X.c_tim X.n_tim_reach X.n_tim_inner TB⟩,⟨f_To,d_To,X.m_tim_on,X.b_To,ok_to X.F_To X.c_tim X.n_tim_inner TB⟩⟩
  |bot=>exact⟨X.c_bot,⟨f_Bf,d_Bf,X.m_bot_found,X.b_Bf,ok_bf X.F_Bf X.T X.T2 X.c_bot X.n_bot_one X.n_bot_other TB⟩,⟨f_Jb,d_Jb,X.m_bot_back,X.b_Jb,ok_jb X.F_Jb X.T X.c_bot (Or.inl rfl) X.n_bot_one X.n_bot_other TB⟩,⟨f_Jo,d_Jo,X.m_bot_on,X.b_Jo,ok_jo X.F_Jo X.T X.c_bot (Or.inl rfl) X.n_bot_one X.n_bot_other TB⟩⟩
  |eit=>exact⟨X.c_eit,⟨f_Ef,d_Ef,X.m_eit_found,X.b_Ef,ok_ef X.F_Ef X.c_eit X.n_eit_one X.n_eit_other TB⟩,⟨f_Jb,d_Jb,X.m_eit_back,X.b_Jb,ok_jb X.F_Jb X.T X.c_eit (Or.inr rfl) X.n_eit_one X.n_eit_other TB⟩,⟨f_Jo,d_Jo,X.m_eit_on,X.b_Jo,ok_jo X.F_Jo X.T X.c_eit (Or.inr rfl) X.n_eit_one X.n_eit_other TB⟩⟩
  |non=>exact⟨X.c_non,⟨f_Nf,d_Nf,X.m_non_found,X.b_Nf,ok_nf X.F_Nf X.c_non X.n_non_one TB⟩,⟨f_Nb,d_Nb,X.m_non_back,X.b_Nb,ok_nb X.F_Nb X.c_non X.n_non_one TB⟩,⟨f_No,d_No,X.m_non_on,X.b_No,ok_no X.F_No X.c_non X.n_non_one TB⟩⟩
end
end QL
namespace QL
open PySem L2
theorem AAt.tsame {H H':Hp}(s:TSame H H'):∀{q:Qn} {p:Addr},AAt H q p->AAt H' q p
 |.row _,_,h=>s _ _ h
 |.wit _ _ _,_,h=>s _ _ h
 |.beh _ _ _ _ _,_,h=>s _ _ h
 |.ahd _ _ _ _ _,_,h=>s _ _ h
 |.tim _ _ _,_,⟨c,h1,h2⟩=>⟨c,s _ _ h1,AAt.tsame s h2⟩
 |.bot _ _,_,⟨c,e,h1,h2,h3⟩=>⟨c,e,s _ _ h1,AAt.tsame s h2,AAt.tsame s h3⟩
 |.eit _ _,_,⟨c,e,h1,h2,h3⟩=>⟨c,e,s _ _ h1,AAt.tsame s h2,AAt.tsame s h3⟩
 |.non _,_,⟨c,h1,h2⟩=>⟨c,s _ _ h1,AAt.tsame s h2⟩
theorem str_ok {z:Str}{n:Nat}(h:Tx n z):DOk (.str z):=⟨h.ok,by rw[PyData.depth];decide⟩
def spNr:Sp:=fun vs H Q _=>∃(p:Addr) (q:Qn) (wi:Bool),vs=[.ref p,.bl wi]/\AAt H q p/\q.dep=0/\(∀w,q.Ok2 w)/\q.pcs.length<=6/\∀(p':Addr) (q':Qn) (H':Hp),Same H H'->AAt H' q' p'->q'.dep=0->(∀w,q'.Ok2 w)->q'.pcs.length<=6->Q (.ref p') H'
section
variable {P:Program} {w:World} {K:W.Frag} {mg:Str->Option Value} {base:Heap} {cl:Kd->Addr}
theorem scNr:FnScope ["_law_asked","_law_within"] ["_law_asked","_law_within"] (defScope sNr):=.of (by decide +kernel)
theorem ok_nr (F:Fun K "_law_nearer" "_law_nearer" sNr f fd):FnOk P w K mg base CX0 1 f fd ["_law_asked","_law_within"] spNr:=by
 refine F.ok scNr (fun vs H Q E h=>?_) (fun cdv A outer s H vs Q E hr h=>?_)
 ·obtain⟨p,q,wi,rfl,_⟩:=h
  rfl
 ·obtain⟨p,q,wi,rfl,hA,hd,hok,hpl,k⟩:=h
  have hu:=hr.units
  refine⟨_,pss_cons (ps_if (PW.pt (pw_and (pt_val (pv 1)) (pw_and1 (pt_cmpR (op_inD hu) (pe_ix ix_tup (pv 0) pe_int (fun _ _=>rfl)) (pe_lst (pa_cons pe_str (pa_cons pe_str pa_nil))) (by with_unfolding_all rfl)))))
    (pss_one (ps_ret (pe_op op_catA (pe_slice sl_tupA (pv 0) po_none (po_some pe_int)) (pe_tup (pa_cons (pe_op op_add pe_int (pe_op op_mod (pe_ix ix_tup (pv 0) pe_int (fun _ _=>rfl)) pe_int)) pa_nil))))) pss_nil)
   (pss_one (ps_ret (pv 0))),?_⟩
  cases wi with
  |false=>exact⟨_,rfl,false,rfl,iteF (iteF ⟨_,rfl,k p q H (Same.refl H) hA hd hok hpl⟩)⟩
  |true=>
   refine⟨_,rfl,true,rfl,iteT ?_⟩
   have inn:∀(z:Str),PyData.canLayAll0 [PyData.str (Str.ofString "behind"),.str (Str.ofString "ahead")]=true:=fun z=>by decide +kernel
   have two:∀l,DsAt K (upd H l (.lst [.str (Str.ofString "behind"),.str (Str.ofString "ahead")])) [V.str (Str.ofString "behind"),.str (Str.ofString "ahead")] [PyData.str (Str.ofString "behind"),.str (Str.ofString "ahead")]:=fun l=>.cons (.str _) (.cons (.str _) .nil)
   cases q<;>cases hd
   ·rename_i F
    refine⟨_,rfl,p,_,_,_,rfl,rfl,SqT.of hA,rfl,(by show 2<=sizeLine;decide),fun l hl=>?_⟩
    refine⟨l,_,_,_,rfl,.inl (SqL.of upd_same),two l,.str _,by exact str_ok (n:=10) (txK (by decide +kernel)),inn Str.empty,_,rfl,?_⟩
    refine iteFK (by decide +kernel) ?_
    have s1:Same H (upd H l (.lst [.str (Str.ofString "behind"),.str (Str.ofString "ahead")])):=(Same.refl H).upd_free hl
    exact⟨_,rfl,k p (.row F) _ s1 (AAt.same (q:=.row F) s1 hA) rfl hok hpl⟩
   ·rename_i F I W
    refine⟨_,rfl,p,_,_,_,rfl,rfl,SqT.of hA,rfl,(by show 2<=sizeLine;decide),fun l hl=>?_⟩
    refine⟨l,_,_,_,rfl,.inl (SqL.of upd_same),two l,.str _,by exact str_ok (n:=10) (txK (by decide +kernel)),inn Str.empty,_,rfl,?_⟩
    refine iteFK (by decide +kernel) ?_
    have s1:Same H (upd H l (.lst [.str (Str.ofString "behind"),.str (Str.ofString "ahead")])):=(Same.refl H).upd_free hl
    exact⟨_,rfl,k p (.wit F I W) _ s1 (AAt.same (q:=.wit F I W) s1 hA) rfl hok hpl⟩
   ·rename_i F I G J R
    refine⟨_,rfl,p,_,_,_,rfl,rfl,SqT.of hA,rfl,(by show 2<=sizeLine;decide),fun l hl=>?_⟩
    refine⟨l,_,_,_,rfl,.inl (SqL.of upd_same),two l,.str _,by exact str_ok (n:=10) (txK (by decide +kernel)),inn Str.empty,_,rfl,?_⟩
    refine iteTK (by decide +kernel) ?_
    have s1:Same H (upd H l (.lst [.str (Str.ofString "behind"),.str (Str.ofString "ahead")])):=(Same.refl H).upd_free hl
    generalize upd H l (.lst [.str (Str.ofString "behind"),.str (Str.ofString "ahead")])=H1 at s1
    have hA1:=s1 _ _ hA
    refine⟨_,rfl,_,rfl,p,_,rfl,hA1,fun c H2 s2 hc=>?_⟩
    refine⟨_,rfl,p,_,_,_,rfl,rfl,SqT.of (s2 _ _ hA1),rfl,_,_,rfl,rfl,(by show(0:Int)<6;decide),_,_,rfl,rfl,(by show 1<=sizeLine;decide),fun d hd=>?_⟩
    have s3:Same H2 (upd H2 d (.tup [.int (1+(R:Int)%6)])):=(Same.refl H2).upd_free hd
    refine⟨c,d,_,_,rfl,rfl,s3 _ _ hc,upd_same,(by show 6<=sizeLine;decide),fun e H4 s4 he=>?_⟩
    have eR:(1+(R:Int)%6)=((1+R%6:Nat):Int):=by omega
    replace he:H4 e=some (.tup [.str (Str.ofString "behind"),.int F,.int I,.int G,.int J,.int (1+(R:Int)%6)]):=he
    rw[eR] at he
    exact k e (.beh F I G J (1+R%6)) H4 ((s1.trans s2).trans (s3.trans s4)) he rfl (fun w=>⟨(hok w).1,(hok w).2.1,(hok w).2.2.1,(hok w).2.2.2.1,by omega,by omega⟩) (by show 6<=6;decide)
   ·rename_i F I G J R
    refine⟨_,rfl,p,_,_,_,rfl,rfl,SqT.of hA,rfl,(by show 2<=sizeLine;decide),fun l hl=>?_⟩
    refine⟨l,_,_,_,rfl,.inl (SqL.of upd_same),two l,.str _,by exact str_ok (n:=10) (txK (by decide +kernel)),inn Str.empty,_,rfl,?_⟩
    refine iteTK (by decide +kernel) ?_
    have s1:Same H (upd H l (.lst [.str (Str.ofString "behind"),.str (Str.ofString "ahead")])):=(Same.refl H).upd_free hl
    generalize upd H l (.lst [.str (Str.ofString "behind"),.str (Str.ofString "ahead")])=H1 at s1
    have hA1:=s1 _ _ hA
    refine⟨_,rfl,_,rfl,p,_,rfl,hA1,fun c H2 s2 hc=>?_⟩
    refine⟨_,rfl,p,_,_,_,rfl,rfl,SqT.of (s2 _ _ hA1),rfl,_,_,rfl,rfl,(by show(0:Int)<6;decide),_,_,rfl,rfl,(by show 1<=sizeLine;decide),fun d hd=>?_⟩
    have s3:Same H2 (upd H2 d (.tup [.int (1+(R:Int)%6)])):=(Same.refl H2).upd_free hd
    refine⟨c,d,_,_,rfl,rfl,s3 _ _ hc,upd_same,(by show 6<=sizeLine;decide),fun e H4 s4 he=>?_⟩
    have eR:(1+(R:Int)%6)=((1+R%6:Nat):Int):=by omega
    replace he:H4 e=some (.tup [.str (Str.ofString "ahead"),.int F,.int I,.int G,.int J,.int (1+(R:Int)%6)]):=he
    rw[eR] at he
    exact k e (.ahd F I G J (1+R%6)) H4 ((s1.trans s2).trans (s3.trans s4)) he rfl (fun w=>⟨(hok w).1,(hok w).2.1,(hok w).2.2.1,(hok w).2.2.2.1,by omega,by omega⟩) (by show 6<=6;decide)
end
end QL
namespace QL
open PySem L2
theorem eqv_nilZ (cs:List Int):PyData.eqv (.list (cs.map PyData.int)) (.list [])=decide (cs=[]):=by
 cases cs with
 |nil=>rfl
 |cons a r=>rfl
theorem pop0 (n:Nat):seqIndex? 0 (n+1)=some 0:=by
 unfold seqIndex?
 have h:(0:Int)<((n+1:Nat):Int):=by omega
 simp[h]
def spGw (m:Nat):Sp:=fun vs H Q _=>∃(c a b:Addr) (wi:Bool) (cs ns:List Int) (ws:List Str),vs=[.ref c,.ref a,.ref b,.bl wi]/\H c=some (.lst (cs.map V.int))/\1<=cs.length/\cs.length<=m/\cs.length<=60/\c≠a/\c≠b/\H a=some (.lst (ns.map V.int))/\ns.length=3/\(∀x∈ns,0<=x/\x<=8)/\H b=some (.lst (ws.map V.str))/\ws.length=5/\(∀x∈ws,SL.Wd x)∧
 ∀(p:Addr) (q:Qn) (cs':List Int) (H':Hp),Kept H H' c->H' c=some (.lst (cs'.map V.int))->cs'.length<cs.length->AAt H' q p->q.dep<cs.length->q.Ok2 wi->q.pcs.length+7*cs'.length+1<=7*cs.length->Q (.ref p) H'
theorem Kept.trans {H H1 H2:Hp}{c:Addr}(a:Kept H H1 c)(b:Kept H1 H2 c):Kept H H2 c:=fun x o e n=>b x o (a x o e n) n
theorem Kept.same {H H1:Hp}{c:Addr}(a:Same H H1):Kept H H1 c:=fun x o e _=>a x o e
theorem Kept.tups {H H':Hp}{c:Addr}{ys:List V}(k:Kept H H' c)(h:H c=some (.lst ys)):TSame H H':=fun b xs e=>k b _ e fun z=>by
 subst z
 rw[h] at e
 cases e
section
variable {P:Program} {w:World} {K:W.Frag} {mg:Str->Option Value} {base:Heap} {cl:Kd->Addr}
theorem scGw:FnScope ["_law_cells","_law_letters_here","_law_pool_here","_law_within","_law_cell","_law_counts","_law_one","_law_other"] ["_law_cells","_law_letters_here","_law_pool_here","_law_within"] (defScope sGw):=.of (by decide +kernel)
theorem ok_gw (F:Fun K "_law_grown" "_law_grown" sGw f fd)(bF:Binds K fd ["_law_cells","_law_letters_here","_law_pool_here","_law_within"] [])(gF:mg "_law_grown"=some (.ref f))
  (FM:Fun K "_law_mix" "_law_mix" sMi fM dM) (bM:Binds K dM ["_law_cell","_law_k"] []) (gM:mg "_law_mix"=some (.ref fM))
  (FCo:Fun K "_law_count" "_law_count" sCo fC dC) (bCo:Binds K dC ["_law_cell","_law_k"] []) (gCo:mg "_law_count"=some (.ref fC))
  (FSh:Fun K "_law_short" "_law_short" sSh fS dS) (bSh:Binds K dS ["_law_cell","_law_letters_here","_law_pool_here"] []) (gSh:mg "_law_short"=some (.ref fS))
  (FNr:Fun K "_law_nearer" "_law_nearer" sNr fN dN) (bNr:Binds K dN ["_law_asked","_law_within"] []) (gNr:mg "_law_nearer"=some (.ref fN)):
  ∀m:Nat,FnOk P w K mg base CX0 (m+3) f fd ["_law_cells","_law_letters_here","_law_pool_here","_law_within"] (spGw m)
 |0=>vac fun vs H Q E h=>by
  obtain⟨c,a,b,wi,cs,ns,ws,_,_,h1,h2,_⟩:=h
  omega
 |m+1=>by
  have GG:FnOk P w K mg base CX0 (m+3) f fd ["_law_cells","_law_letters_here","_law_pool_here","_law_within"] (spGw m):=ok_gw F bF gF FM bM gM FCo bCo gCo FSh bSh gSh FNr bNr gNr m
  have GCo:FnOk P w K mg base CX0 2 fC dC ["_law_cell","_law_k"] spCo:=ok_co FCo FM bM gM
  have GSh:FnOk P w K mg base CX0 3 fS dS ["_law_cell","_law_letters_here","_law_pool_here"] spSh:=ok_sh FSh FM bM gM FCo bCo gCo
  have GNr:FnOk P w K mg base CX0 1 fN dN ["_law_asked","_law_within"] spNr:=ok_nr FNr
  refine F.ok (k:=m+3) scGw (fun vs H Q E h=>?_) (fun cdv A outer s H vs Q E hr h=>?_)
  ·obtain⟨c,a,b,wi,cs,ns,ws,rfl,_⟩:=h
   rfl
  ·obtain⟨c,a,b,wi,cs,ns,ws,rfl,hC,l1,l2,l3,ca,cb,hA,nl,nb,hB,wl,wt,k⟩:=h
   have hu:=hr.units
   have hr1:Room 1 _:=hr.mono (by omega)
   have hr2:Room 2 _:=hr.mono (by omega)
   have hr3:Room 3 _:=hr.mono (by omega)
   refine⟨_,pss_cons (ps_set (i:=4) scGw.nd rfl (Or.inl rfl) (pe_bm PySem.F.plainAttrs_list PySem.F.slot_list_pop PySem.F.type_list_pop mt_popAt (pv 0) (pa_cons pe_int pa_nil)))
    (pss_cons (ps_if (pt_cut (PW.pt (pw_or (pt_cmpR op_lt (pe_op op_mod (pv 4) pe_int) pe_int (nomark _)) (pw_or (pt_cmpR (op_eqD hu) (pv 0) (pe_lst pa_nil) (nomark _)) (pw_or1 (PW.pt (pw_and (pt_cmpR op_eq (pe_op op_mod (pv 4) pe_int) pe_int (nomark _)) (pw_and1 (pt_val (pv 3))))))))))
     (pss_one (ps_ret (pe_call GNr hr1 rfl gNr FNr.kp bNr .nil pass0 (pa_cons (pe_call GSh hr3 rfl gSh FSh.kp bSh .nil pass0 (pa_cons (pe_op op_fdiv (pv 4) pe_int) (pa_cons (pv 1) (pa_cons (pv 2) pa_nil)))) (pa_cons (pv 3) pa_nil))))) pss_nil)
    (pss_cons (ps_if (pt_cmpR op_eq (pe_op op_mod (pv 4) pe_int) pe_int (nomark _))
     (pss_cons (ps_set (i:=5) scGw.nd rfl (Or.inl rfl) (pe_tup (pa_cons (pe_call GCo hr2 rfl gCo FCo.kp bCo .nil pass0 (pa_cons (pe_op op_fdiv (pv 4) pe_int) (pa_cons pe_int pa_nil))) (pa_cons (pe_call GCo hr2 rfl gCo FCo.kp bCo .nil pass0 (pa_cons (pe_op op_fdiv (pv 4) pe_int) (pa_cons pe_int pa_nil))) pa_nil))))
     (pss_one (ps_ret (pe_tup (pa_cons pe_str (pa_cons (pe_ix ix_tup (pv 5) pe_int (fun _ _=>rfl)) (pa_cons (pe_ix ix_tup (pv 5) pe_int (fun _ _=>rfl)) (pa_cons (pe_call GG hr rfl gF F.kp bF .nil pass0 (pa_cons (pv 0) (pa_cons (pv 1) (pa_cons (pv 2) (pa_cons pe_bl pa_nil))))) pa_nil)))))))) pss_nil)
    (pss_cons (ps_if (pt_cmpR op_eq (pe_op op_mod (pv 4) pe_int) pe_int (nomark _))
     (pss_one (ps_ret (pe_tup (pa_cons pe_str (pa_cons (pe_call GG hr rfl gF F.kp bF .nil pass0 (pa_cons (pv 0) (pa_cons (pv 1) (pa_cons (pv 2) (pa_cons (pv 3) pa_nil))))) pa_nil))))) pss_nil)
    (pss_cons (ps_set (i:=6) scGw.nd rfl (Or.inl rfl) (pe_call GG hr rfl gF F.kp bF .nil pass0 (pa_cons (pv 0) (pa_cons (pv 1) (pa_cons (pv 2) (pa_cons (pv 3) pa_nil))))))
    (pss_cons (ps_set (i:=7) scGw.nd rfl (Or.inl rfl) (pe_call GNr hr1 rfl gNr FNr.kp bNr .nil pass0 (pa_cons (pe_call GSh hr3 rfl gSh FSh.kp bSh .nil pass0 (pa_cons (pe_op op_fdiv (pv 4) pe_int) (pa_cons (pv 1) (pa_cons (pv 2) pa_nil)))) (pa_cons (pv 3) pa_nil))))
    (pss_cons (ps_cut (ps_if (pt_cmpR (op_neD hu) (pv 0) (pe_lst pa_nil) (nomark _)) (pss_one (ps_set (i:=7) scGw.nd rfl (Or.inl rfl) (pe_call GG hr rfl gF F.kp bF .nil pass0 (pa_cons (pv 0) (pa_cons (pv 1) (pa_cons (pv 2) (pa_cons (pv 3) pa_nil))))))) pss_nil))
    (pss_one (ps_ret (pe_tup (pa_cons (pe_ix ix_list (pe_lst (pa_cons pe_str (pa_cons pe_str pa_nil))) (pe_op op_mod (pv 4) pe_int) (fun _ _=>rfl)) (pa_cons (pv 6) (pa_cons (pv 7) pa_nil)))))))))))),?_⟩
   obtain⟨c0,cs1,rfl⟩:∃c0 cs1,cs=c0::cs1:=by
    cases cs with
    |nil=>exact absurd l1 (by decide)
    |cons x y=>exact⟨x,y,rfl⟩
   rw[List.length_cons] at l1 l2 l3
   refine⟨_,rfl,.inl ⟨rfl,_,SqL.of hC⟩,c,_,_,0,_,rfl,rfl,hC,by decide,by decide,(by rw[List.length_map,List.length_cons];exact pop0 _),rfl,?_⟩
   have kp1:Kept H (upd H c (.lst (((c0::cs1).map V.int).eraseIdx 0))) c:=fun x o e n=>by
    rw[upd_ne n]
    exact e
   have hC1:upd H c (.lst (((c0::cs1).map V.int).eraseIdx 0)) c=some (.lst (cs1.map V.int)):=upd_same
   generalize upd H c (.lst (((c0::cs1).map V.int).eraseIdx 0))=H1 at kp1 hC1
   have hA1:=kp1 _ _ hA (Ne.symm ca)
   have hB1:=kp1 _ _ hB (Ne.symm cb)
   refine⟨fun b' H'=>Same H1 H'/\(b'=false->cs1≠[]/\(c0%8=4->wi=false)),?_,?_⟩
   ·refine⟨_,rfl,_,_,rfl,rfl,(by show(0:Int)<8;decide),_,_,rfl,rfl,_,rfl,?_⟩
    refine ifb ⟨Same.refl H1,fun z=>by cases z⟩ ?_
    refine⟨_,rfl,(by show 0<=sizeLine;decide),fun l hl=>?_⟩
    have s2:Same H1 (upd H1 l (.lst [])):=(Same.refl H1).upd_free hl
    refine⟨.list (cs1.map PyData.int),.list [],.lst (SqL.of (s2 _ _ hC1)) (ints_at cs1),.lst (SqL.of upd_same) .nil,intsL_ok cs1,intsL_ok [],_,rfl,?_⟩
    rw[eqv_nilZ]
    by_cases e:cs1=[]
    ·exact iteTK (by simp[e]) ⟨s2,fun z=>by cases z⟩
    ·refine iteFK (by simp[e]) ?_
     refine⟨_,rfl,_,_,rfl,rfl,(by show(0:Int)<8;decide),rfl,_,rfl,?_⟩
     exact ite2 (fun _=>⟨_,rfl,wi,rfl,s2,fun hw=>⟨e,fun _=>hw⟩⟩) (fun h4=>⟨s2,fun _=>⟨e,fun e4=>absurd (decide_eq_true (congrArg V.int e4)) h4⟩⟩)
   rintro b' H2 ⟨s2,hne⟩
   have kp2:=kp1.trans (Kept.same s2)
   have hC2:=s2 _ _ hC1
   have hA2:=s2 _ _ hA1
   have hB2:=s2 _ _ hB1
   cases b' with
   |true=>
    refine iteT ⟨_,rfl,_,_,rfl,rfl,⟨by decide,by decide⟩,_,rfl,_,rfl,_,a,b,ns,ws,rfl,hA2,nl,nb,hB2,wl,wt,fun p q H3 s3 hp hd hok hpl=>?_⟩
    refine⟨_,rfl,p,q,wi,rfl,hp,hd,hok,hpl,fun p' q' H4 s4 hp' hd' hok' hpl'=>?_⟩
    refine k p' q' cs1 H4 (kp2.trans (Kept.same (s3.trans s4))) (s4 _ _ (s3 _ _ hC2)) (Nat.lt_succ_self _) hp' ?_ (hok' wi) (by rw[List.length_cons];omega)
    rw[hd',List.length_cons]
    exact Nat.succ_pos _
   |false=>
    refine iteF ?_
    obtain⟨hne,hwi⟩:=hne rfl
    have l1':1<=cs1.length:=by
     cases cs1 with
     |nil=>exact absurd rfl hne
     |cons x y=>exact Nat.succ_le_succ (Nat.zero_le _)
    refine⟨_,rfl,_,_,rfl,rfl,(by show(0:Int)<8;decide),rfl,_,rfl,ite2 (fun h4=>?_) (fun _=>?_)⟩
    ·have hwf:wi=false:=hwi (by have q:=of_decide_eq_true h4;injection q)
     refine⟨_,rfl,_,_,rfl,rfl,⟨by decide,by decide⟩,_,1,rfl,by decide,by decide,fun R H3 r1 r2 s3=>?_⟩
     refine⟨_,rfl,_,_,rfl,rfl,⟨by decide,by decide⟩,_,4,rfl,by decide,by decide,fun M H4 m1 m2 s4=>?_⟩
     refine⟨(by show 2<=sizeLine;decide),fun pt hpt=>?_⟩
     have s5:Same H4 (upd H4 pt (.tup [.int (R:Nat),.int (M:Nat)])):=(Same.refl H4).upd_free hpt
     have hT5:upd H4 pt (.tup [.int (R:Nat),.int (M:Nat)]) pt=some (.tup [.int (R:Nat),.int (M:Nat)]):=upd_same
     generalize upd H4 pt (.tup [.int (R:Nat),.int (M:Nat)])=H5 at s5 hT5
     have t5:=(s3.trans s4).trans s5
     refine⟨_,rfl,pt,_,_,_,rfl,rfl,SqT.of hT5,rfl,_,rfl,pt,_,_,_,rfl,rfl,SqT.of hT5,rfl,_,rfl,_,rfl,_,rfl,c,a,b,true,cs1,ns,ws,rfl,t5 _ _ hC2,l1',by omega,by omega,ca,cb,t5 _ _ hA2,nl,nb,t5 _ _ hB2,wl,wt,fun p q cs' H6 kp6 hC6 lt6 hp hd hok hpl=>?_⟩
     refine⟨(by show 4<=sizeLine;decide),fun pp hpp=>?_⟩
     have s7:Same H6 (upd H6 pp (.tup [.str (Str.ofString "times"),.int (R:Nat),.int (M:Nat),.ref p])):=(Same.refl H6).upd_free hpp
     refine k pp (.tim R M q) cs' _ ((kp2.trans (Kept.same t5)).trans (kp6.trans (Kept.same s7))) (s7 _ _ hC6) (Nat.lt_succ_of_lt lt6) ⟨p,upd_same,AAt.same s7 hp⟩ ?_ ⟨hwf,⟨r1,r2⟩,⟨m1,m2⟩,hok⟩ (by show(Str.ofString "times"::nS R::nS M::q.pcs).length+_+_<=7*(cs1.length+1);rw[List.length_cons,List.length_cons,List.length_cons];omega)
     show q.dep+1<cs1.length+1
     omega
    refine⟨_,rfl,_,_,rfl,rfl,(by show(0:Int)<8;decide),rfl,_,rfl,ifb ?_ ?_⟩
    ·refine⟨_,rfl,_,rfl,_,rfl,_,rfl,c,a,b,wi,cs1,ns,ws,rfl,hC2,l1',by omega,by omega,ca,cb,hA2,nl,nb,hB2,wl,wt,fun p q cs' H6 kp6 hC6 lt6 hp hd hok hpl=>?_⟩
     refine⟨(by show 2<=sizeLine;decide),fun pp hpp=>?_⟩
     have s7:Same H6 (upd H6 pp (.tup [.str (Str.ofString "not"),.ref p])):=(Same.refl H6).upd_free hpp
     refine k pp (.non q) cs' _ (kp2.trans (kp6.trans (Kept.same s7))) (s7 _ _ hC6) (Nat.lt_succ_of_lt lt6) ⟨p,upd_same,AAt.same s7 hp⟩ ?_ hok (by show(Str.ofString "not"::q.pcs).length+_+_<=7*(cs1.length+1);rw[List.length_cons];omega)
     show q.dep+1<cs1.length+1
     omega
    refine⟨_,rfl,_,rfl,_,rfl,_,rfl,c,a,b,wi,cs1,ns,ws,rfl,hC2,l1',by omega,by omega,ca,cb,hA2,nl,nb,hB2,wl,wt,fun p1 q1 cs2 H3 kp3 hC3 lt3 hp1 hd1 hok1 hpl1=>?_⟩
    have hA3:=kp3 _ _ hA2 (Ne.symm ca)
    have hB3:=kp3 _ _ hB2 (Ne.symm cb)
    refine⟨_,rfl,_,_,rfl,rfl,⟨by decide,by decide⟩,_,rfl,_,rfl,_,a,b,ns,ws,rfl,hA3,nl,nb,hB3,wl,wt,fun p2 q2 H4 s4 hp2 hd2 hok2 hpl2=>?_⟩
    refine⟨_,rfl,p2,q2,wi,rfl,hp2,hd2,hok2,hpl2,fun p3 q3 H5 s5 hp3 hd3 hok3 hpl3=>?_⟩
    have s35:=s4.trans s5
    have hC5:=s35 _ _ hC3
    refine⟨fun σ' H'=>∃(p4:Addr) (q4:Qn) (cs3:List Int),Kept H5 H' c/\H' c=some (.lst (cs3.map V.int))/\cs3.length<=cs2.length/\AAt H' q4 p4/\q4.dep<=cs2.length/\q4.Ok2 wi/\q4.pcs.length+7*cs3.length<=7*cs2.length+6/\σ'=[some (.ref c),some (.ref a),some (.ref b),some (.bl wi),some (.int c0),none,some (.ref p1),some (.ref p4)],?_,?_⟩
    ·refine⟨_,rfl,(by show 0<=sizeLine;decide),fun l hl=>?_⟩
     have s6:Same H5 (upd H5 l (.lst [])):=(Same.refl H5).upd_free hl
     refine⟨.list (cs2.map PyData.int),.list [],.lst (SqL.of (s6 _ _ hC5)) (ints_at cs2),.lst (SqL.of upd_same) .nil,intsL_ok cs2,intsL_ok [],_,rfl,?_⟩
     rw[eqv_nilZ]
     by_cases e:cs2=[]
     ·refine iteFK (by simp[e]) ?_
      exact⟨p3,q3,cs2,Kept.same s6,s6 _ _ hC5,Nat.le_refl _,AAt.same s6 hp3,by omega,hok3 wi,by omega,rfl⟩
     ·refine iteTK (by simp[e]) ?_
      have l4:1<=cs2.length:=by
       cases cs2 with
       |nil=>exact absurd rfl e
       |cons x y=>exact Nat.succ_le_succ (Nat.zero_le _)
      refine⟨_,rfl,_,rfl,_,rfl,_,rfl,c,a,b,wi,cs2,ns,ws,rfl,s6 _ _ hC5,l4,by omega,by omega,ca,cb,s6 _ _ (s35 _ _ hA3),nl,nb,s6 _ _ (s35 _ _ hB3),wl,wt,fun p4 q4 cs3 H7 kp7 hC7 lt7 hp4 hd4 hok4 hpl4=>?_⟩
      exact⟨p4,q4,cs3,(Kept.same s6).trans kp7,hC7,Nat.le_of_lt lt7,hp4,Nat.le_of_lt hd4,hok4,by omega,rfl⟩
    rintro σ' H6 ⟨p4,q4,cs3,kp6,hC6,l6,hp4,hd4,hok4,hpl4,rfl⟩
    have hp1':AAt H6 q1 p1:=AAt.tsame (kp6.tups hC5) (AAt.same s35 hp1)
    refine⟨(by show 2<=sizeLine;decide),fun l hl=>?_⟩
    have s7:Same H6 (upd H6 l (.lst [.str (Str.ofString "both"),.str (Str.ofString "either")])):=(Same.refl H6).upd_free hl
    have hL7:upd H6 l (.lst [.str (Str.ofString "both"),.str (Str.ofString "either")]) l=some (.lst [.str (Str.ofString "both"),.str (Str.ofString "either")]):=upd_same
    generalize upd H6 l (.lst [.str (Str.ofString "both"),.str (Str.ofString "either")])=H7 at s7 hL7
    have d2:c0%2=0\/c0%2=1:=by omega
    refine⟨_,rfl,_,_,rfl,rfl,(by show(0:Int)<2;decide),?_⟩
    have kall:Kept H H7 c:=(kp2.trans kp3).trans ((Kept.same s35).trans (kp6.trans (Kept.same s7)))
    have hdm:max q1.dep q4.dep+1<cs1.length+1:=by omega
    rcases d2 with e|e
    ·refine⟨l,_,_,.str (Str.ofString "both"),rfl,rfl,SqL.of hL7,by rw[e];rfl,_,rfl,_,rfl,(by show 3<=sizeLine;decide),fun pp hpp=>?_⟩
     have s8:Same H7 (upd H7 pp (.tup [.str (Str.ofString "both"),.ref p1,.ref p4])):=(Same.refl H7).upd_free hpp
     exact k pp (.bot q1 q4) cs3 _ (kall.trans (Kept.same s8)) (s8 _ _ (s7 _ _ hC6)) (by rw[List.length_cons];omega) ⟨p1,p4,upd_same,AAt.same (s7.trans s8) hp1',AAt.same (s7.trans s8) hp4⟩ hdm ⟨hok1,hok4⟩ (by rw[pcs_eq];show(_::(q1.pcs++(q4.pcs++[]))).length+_+_<=7*(cs1.length+1);rw[List.length_cons,List.length_append,List.length_append,List.length_nil];omega)
    ·refine⟨l,_,_,.str (Str.ofString "either"),rfl,rfl,SqL.of hL7,by rw[e];rfl,_,rfl,_,rfl,(by show 3<=sizeLine;decide),fun pp hpp=>?_⟩
     have s8:Same H7 (upd H7 pp (.tup [.str (Str.ofString "either"),.ref p1,.ref p4])):=(Same.refl H7).upd_free hpp
     exact k pp (.eit q1 q4) cs3 _ (kall.trans (Kept.same s8)) (s8 _ _ (s7 _ _ hC6)) (by rw[List.length_cons];omega) ⟨p1,p4,upd_same,AAt.same (s7.trans s8) hp1',AAt.same (s7.trans s8) hp4⟩ hdm ⟨hok1,hok4⟩ (by rw[pcs_eq];show(_::(q1.pcs++(q4.pcs++[]))).length+_+_<=7*(cs1.length+1);rw[List.length_cons,List.length_append,List.length_append,List.length_nil];omega)
end
end QL
namespace QL
open PySem L2
def spLk (d:Nat):Sp:=fun vs H Q _=>∃(p:Addr) (q:Qn),vs=[.ref p]/\AAt H q p/\q.dep<d/\∀(l:Addr) (H':Hp),Same H H'->H' l=some (.lst [.int (backM q),.int (onM q)])->Q (.ref l) H'
section
variable {P:Program} {w:World} {K:W.Frag} {mg:Str->Option Value} {base:Heap} {cl:Kd->Addr}
structure Mk5 (P:Program)(w:World)(K:W.Frag)(mg:Str->Option Value)(base:Heap)(cl:Kd->Addr)(fT fJ fN:Addr)(dT dJ dN:FuncData):Prop where
 mT:Mk K (cl .tim) fT
 mB:Mk K (cl .bot) fJ
 mE:Mk K (cl .eit) fJ
 mN:Mk K (cl .non) fN
 gT:mg "Times"=some (.ref (cl .tim))
 gB:mg "Both"=some (.ref (cl .bot))
 gE:mg "Either"=some (.ref (cl .eit))
 gN:mg "Not"=some (.ref (cl .non))
 bT:Binds K dT ["self","reach","least","question"] []
 bJ:Binds K dJ ["self","one","other"] []
 bN:Binds K dN ["self","one"] []
 oT:FnOk P w K mg base CX0 1 fT dT ["self","reach","least","question"] (spTi cl)
 oB:FnOk P w K mg base CX0 1 fJ dJ ["self","one","other"] (spJi cl true)
 oE:FnOk P w K mg base CX0 1 fJ dJ ["self","one","other"] (spJi cl false)
 oN:FnOk P w K mg base CX0 1 fN dN ["self","one"] (spNi cl)
theorem scLk:FnScope ["_law_asked","_law_kind","_law_back","_law_on","_law_one","_law_other"] ["_law_asked"] (defScope sLk):=.of (by decide +kernel)
theorem ok_lk (F:Fun K "_law_looks" "_law_looks" sLk f fd)(bF:Binds K fd ["_law_asked"] [])(gF:mg "_law_looks"=some (.ref f))(T:Txt mg):∀d:Nat,FnOk P w K mg base CX0 (d+1) f fd ["_law_asked"] (spLk d)
 |0=>vac fun vs H Q E h=>by
  obtain⟨p,q,_,_,hd,_⟩:=h
  exact Nat.not_lt_zero _ hd
 |d+1=>by
  have GL:FnOk P w K mg base CX0 (d+1) f fd ["_law_asked"] (spLk d):=ok_lk F bF gF T d
  refine F.ok (k:=d+1) scLk (fun vs H Q E h=>?_) (fun cdv A outer s H vs Q E hr h=>?_)
  ·obtain⟨p,q,rfl,_⟩:=h
   rfl
  ·obtain⟨p,q,rfl,hA,hd,k⟩:=h
   refine⟨_,pss_cons (ps_set (i:=1) scLk.nd rfl (Or.inl rfl) (pe_ix ix_tup (pv 0) pe_int (fun _ _=>rfl)))
    (pss_cons (ps_if (PW.pt (pw_or (pt_cmpR op_eq (pv 1) pe_str (nomark _)) (pw_or1 (pt_cmpR op_eq (pv 1) pe_str (nomark _))))) (pss_one (ps_ret (pe_lst (pa_cons pe_int (pa_cons pe_int pa_nil))))) pss_nil)
    (pss_cons (ps_if (pt_cmpR op_eq (pv 1) pe_str (nomark _)) (pss_one (ps_ret (pe_lst (pa_cons pe_int (pa_cons (pe_ix ix_tup (pv 0) pe_int (fun _ _=>rfl)) pa_nil))))) pss_nil)
    (pss_cons (ps_if (pt_cmpR op_eq (pv 1) pe_str (nomark _)) (pss_one (ps_ret (pe_lst (pa_cons (pe_ix ix_tup (pv 0) pe_int (fun _ _=>rfl)) (pa_cons pe_int pa_nil))))) pss_nil)
    (pss_cons (ps_if (pt_cmpR op_eq (pv 1) pe_str (nomark _)) (pss_one (ps_ret (pe_call GL hr rfl gF F.kp bF .nil pass0 (pa_cons (pe_ix ix_tup (pv 0) pe_int (fun _ _=>rfl)) pa_nil)))) pss_nil)
    (pss_cons (ps_if (pt_cmpR op_eq (pv 1) pe_str (nomark _))
     (pss_cons (ps_asg (pe_call GL hr rfl gF F.kp bF .nil pass0 (pa_cons (pe_ix ix_tup (pv 0) pe_int (fun _ _=>rfl)) pa_nil)) (pg_lst (n:=2) rfl (pgs_cons (pg_name (i:=2) scLk.nd rfl (Or.inl rfl)) (pgs_cons (pg_name (i:=3) scLk.nd rfl (Or.inl rfl)) pgs_nil))))
     (pss_one (ps_ret (pe_lst (pa_cons (pe_op op_sub (pe_op op_add (pv 2) (pe_ix ix_tup (pv 0) pe_int (fun _ _=>rfl))) pe_int) (pa_cons (pv 3) pa_nil)))))) pss_nil)
    (pss_cons (ps_set (i:=4) scLk.nd rfl (Or.inl rfl) (pe_call GL hr rfl gF F.kp bF .nil pass0 (pa_cons (pe_ix ix_tup (pv 0) pe_int (fun _ _=>rfl)) pa_nil)))
    (pss_cons (ps_set (i:=5) scLk.nd rfl (Or.inl rfl) (pe_call GL hr rfl gF F.kp bF .nil pass0 (pa_cons (pe_ix ix_tup (pv 0) pe_int (fun _ _=>rfl)) pa_nil)))
    (pss_one (ps_ret (pe_lst (pa_cons (pe_callB (call_max2 rfl) (by rfl) T.max PyProof.Rows.boot_max (pa_cons (pe_ix ix_list (pv 4) pe_int (fun _ _=>rfl)) (pa_cons (pe_ix ix_list (pv 5) pe_int (fun _ _=>rfl)) pa_nil)))
     (pa_cons (pe_callB (call_max2 rfl) (by rfl) T.max PyProof.Rows.boot_max (pa_cons (pe_ix ix_list (pv 4) pe_int (fun _ _=>rfl)) (pa_cons (pe_ix ix_list (pv 5) pe_int (fun _ _=>rfl)) pa_nil))) pa_nil)))))))))))),?_⟩
   cases q with
   |row F=>
    replace hA:H p=some (.tup [.str (Str.ofString "row"),.int F]):=hA
    refine⟨_,rfl,p,_,_,_,rfl,rfl,SqT.of hA,rfl,?_⟩
    refine⟨_,rfl,rfl,_,rfl,iteTK (by decide +kernel) (iteT ⟨(by show 2<=sizeLine;decide),fun l hl=>?_⟩)⟩
    exact k l _ ((Same.refl H).upd_free hl) upd_same
   |wit F I W=>
    replace hA:H p=some (.tup [.str (Str.ofString "with"),.int F,.int I,.str W]):=hA
    refine⟨_,rfl,p,_,_,_,rfl,rfl,SqT.of hA,rfl,?_⟩
    refine⟨_,rfl,rfl,_,rfl,iteFK (by decide +kernel) ⟨_,rfl,rfl,_,rfl,iteTK (by decide +kernel) ⟨(by show 2<=sizeLine;decide),fun l hl=>?_⟩⟩⟩
    exact k l _ ((Same.refl H).upd_free hl) upd_same
   |beh F I G J R=>
    replace hA:H p=some (.tup [.str (Str.ofString "behind"),.int F,.int I,.int G,.int J,.int R]):=hA
    refine⟨_,rfl,p,_,_,_,rfl,rfl,SqT.of hA,rfl,?_⟩
    refine⟨_,rfl,rfl,_,rfl,iteFK (by decide +kernel) ⟨_,rfl,rfl,_,rfl,iteFK (by decide +kernel) ⟨_,rfl,rfl,_,rfl,iteTK (by decide +kernel) ?_⟩⟩⟩
    refine⟨_,rfl,p,_,_,_,rfl,rfl,SqT.of hA,rfl,(by show 2<=sizeLine;decide),fun l hl=>?_⟩
    exact k l _ ((Same.refl H).upd_free hl) upd_same
   |ahd F I G J R=>
    replace hA:H p=some (.tup [.str (Str.ofString "ahead"),.int F,.int I,.int G,.int J,.int R]):=hA
    refine⟨_,rfl,p,_,_,_,rfl,rfl,SqT.of hA,rfl,?_⟩
    refine⟨_,rfl,rfl,_,rfl,iteFK (by decide +kernel) ⟨_,rfl,rfl,_,rfl,iteFK (by decide +kernel) ⟨_,rfl,rfl,_,rfl,iteFK (by decide +kernel) ⟨_,rfl,rfl,_,rfl,iteTK (by decide +kernel) ?_⟩⟩⟩⟩
    refine⟨_,rfl,p,_,_,_,rfl,rfl,SqT.of hA,rfl,(by show 2<=sizeLine;decide),fun l hl=>?_⟩
    exact k l _ ((Same.refl H).upd_free hl) upd_same
   |non q=>
    obtain⟨c,hA,hc⟩:=hA
    have hd':q.dep<d:=Nat.lt_of_succ_lt_succ hd
    refine⟨_,rfl,p,_,_,_,rfl,rfl,SqT.of hA,rfl,?_⟩
    refine⟨_,rfl,rfl,_,rfl,iteFK (by decide +kernel) ⟨_,rfl,rfl,_,rfl,iteFK (by decide +kernel) ⟨_,rfl,rfl,_,rfl,iteFK (by decide +kernel) ⟨_,rfl,rfl,_,rfl,iteFK (by decide +kernel) ⟨_,rfl,rfl,_,rfl,iteTK (by decide +kernel) ?_⟩⟩⟩⟩⟩
    exact⟨_,rfl,p,_,_,_,rfl,rfl,SqT.of hA,rfl,c,q,rfl,hc,hd',fun l H1 s1 hl=>k l H1 s1 hl⟩
   |tim R L q=>
    obtain⟨c,hA,hc⟩:=hA
    have hd':q.dep<d:=Nat.lt_of_succ_lt_succ hd
    refine⟨_,rfl,p,_,_,_,rfl,rfl,SqT.of hA,rfl,?_⟩
    refine⟨_,rfl,rfl,_,rfl,iteFK (by decide +kernel) ⟨_,rfl,rfl,_,rfl,iteFK (by decide +kernel) ⟨_,rfl,rfl,_,rfl,iteFK (by decide +kernel) ⟨_,rfl,rfl,_,rfl,iteFK (by decide +kernel) ⟨_,rfl,rfl,_,rfl,iteFK (by decide +kernel) ⟨_,rfl,rfl,_,rfl,iteTK (by decide +kernel) ?_⟩⟩⟩⟩⟩⟩
    refine⟨_,rfl,p,_,_,_,rfl,rfl,SqT.of hA,rfl,c,q,rfl,hc,hd',fun l H1 s1 hl=>?_⟩
    refine⟨l,_,rfl,SqL.of hl,rfl,_,_,rfl,_,_,rfl,rfl,?_⟩
    refine⟨_,rfl,_,rfl,p,_,_,_,rfl,rfl,SqT.of (s1 _ _ hA),rfl,_,_,rfl,rfl,_,_,rfl,rfl,_,rfl,(by show 2<=sizeLine;decide),fun l' hl'=>?_⟩
    exact k l' _ (s1.upd_free (s1.free hl')) upd_same
   |bot q r=>
    obtain⟨c,e,hA,hc,he⟩:=hA
    have hdm:max q.dep r.dep+1<d+1:=hd
    refine⟨_,rfl,p,_,_,_,rfl,rfl,SqT.of hA,rfl,?_⟩
    refine⟨_,rfl,rfl,_,rfl,iteFK (by decide +kernel) ⟨_,rfl,rfl,_,rfl,iteFK (by decide +kernel) ⟨_,rfl,rfl,_,rfl,iteFK (by decide +kernel) ⟨_,rfl,rfl,_,rfl,iteFK (by decide +kernel) ⟨_,rfl,rfl,_,rfl,iteFK (by decide +kernel) ⟨_,rfl,rfl,_,rfl,iteFK (by decide +kernel) ?_⟩⟩⟩⟩⟩⟩
    refine⟨_,rfl,p,_,_,_,rfl,rfl,SqT.of hA,rfl,c,q,rfl,hc,by omega,fun l1 H1 s1 h1=>?_⟩
    refine⟨_,rfl,p,_,_,_,rfl,rfl,SqT.of (s1 _ _ hA),rfl,e,r,rfl,AAt.same s1 he,by omega,fun l2 H2 s2 h2=>?_⟩
    have h1':=s2 _ _ h1
    refine⟨_,rfl,l1,_,_,_,rfl,rfl,SqL.of h1',rfl,_,rfl,l2,_,_,_,rfl,rfl,SqL.of h2,rfl,_,_,rfl,?_⟩
    refine⟨_,rfl,l1,_,_,_,rfl,rfl,SqL.of h1',rfl,_,rfl,l2,_,_,_,rfl,rfl,SqL.of h2,rfl,_,_,rfl,?_⟩
    rw[max_is,max_is]
    refine⟨(by show 2<=sizeLine;decide),fun l' hl'=>?_⟩
    exact k l' _ ((s1.trans s2).upd_free ((s1.trans s2).free hl')) upd_same
   |eit q r=>
    obtain⟨c,e,hA,hc,he⟩:=hA
    have hdm:max q.dep r.dep+1<d+1:=hd
    refine⟨_,rfl,p,_,_,_,rfl,rfl,SqT.of hA,rfl,?_⟩
    refine⟨_,rfl,rfl,_,rfl,iteFK (by decide +kernel) ⟨_,rfl,rfl,_,rfl,iteFK (by decide +kernel) ⟨_,rfl,rfl,_,rfl,iteFK (by decide +kernel) ⟨_,rfl,rfl,_,rfl,iteFK (by decide +kernel) ⟨_,rfl,rfl,_,rfl,iteFK (by decide +kernel) ⟨_,rfl,rfl,_,rfl,iteFK (by decide +kernel) ?_⟩⟩⟩⟩⟩⟩
    refine⟨_,rfl,p,_,_,_,rfl,rfl,SqT.of hA,rfl,c,q,rfl,hc,by omega,fun l1 H1 s1 h1=>?_⟩
    refine⟨_,rfl,p,_,_,_,rfl,rfl,SqT.of (s1 _ _ hA),rfl,e,r,rfl,AAt.same s1 he,by omega,fun l2 H2 s2 h2=>?_⟩
    have h1':=s2 _ _ h1
    refine⟨_,rfl,l1,_,_,_,rfl,rfl,SqL.of h1',rfl,_,rfl,l2,_,_,_,rfl,rfl,SqL.of h2,rfl,_,_,rfl,?_⟩
    refine⟨_,rfl,l1,_,_,_,rfl,rfl,SqL.of h1',rfl,_,rfl,l2,_,_,_,rfl,rfl,SqL.of h2,rfl,_,_,rfl,?_⟩
    rw[max_is,max_is]
    refine⟨(by show 2<=sizeLine;decide),fun l' hl'=>?_⟩
    exact k l' _ ((s1.trans s2).upd_free ((s1.trans s2).free hl')) upd_same
end
end QL
namespace QL
open PySem L2
theorem back_pos:∀{q:Qn},q.Ok->0<=backM q
 |.row _,_=>Int.le_refl 0
 |.wit _ _ _,_=>Int.le_refl 0
 |.beh _ _ _ _ _,_=>Int.le_refl 0
 |.ahd _ _ _ _ R,_=>Int.natCast_nonneg R
 |.tim K C q,h=>by
  have:=back_pos (q:=q) h.2.2.2
  have:=h.1
  show 0<=backM q+(K:Int)-1
  omega
 |.bot q r,h=>by
  have:=back_pos (q:=q) h.1
  show 0<=max (backM q) (backM r)
  omega
 |.eit q r,h=>by
  have:=back_pos (q:=q) h.1
  show 0<=max (backM q) (backM r)
  omega
 |.non q,h=>back_pos (q:=q) h
theorem on_pos:∀{q:Qn},q.Ok->0<=onM q
 |.row _,_=>Int.le_refl 0
 |.wit _ _ _,_=>Int.le_refl 0
 |.beh _ _ _ _ R,_=>Int.natCast_nonneg R
 |.ahd _ _ _ _ _,_=>Int.le_refl 0
 |.tim K C q,h=>on_pos (q:=q) h.2.2.2
 |.bot q r,h=>by
  have:=on_pos (q:=q) h.1
  show 0<=max (onM q) (onM r)
  omega
 |.eit q r,h=>by
  have:=on_pos (q:=q) h.1
  show 0<=max (onM q) (onM r)
  omega
 |.non q,h=>on_pos (q:=q) h
theorem inc_eq {a b:List Nat}(ha:a.Pairwise (· < ·))(hb:b.Pairwise (· < ·))(h:∀x,x∈a↔x∈b):a=b:=by
 have p:a.Perm b:=(List.perm_ext_iff_of_nodup (ha.imp fun h=>by omega) (hb.imp fun h=>by omega)).mpr h
 exact List.Perm.eq_of_pairwise (le:=fun(x y:Nat)=>x<=y) (fun x y _ _ h1 h2=>Nat.le_antisymm h1 h2) (ha.imp fun h=>by omega) (hb.imp fun h=>by omega) p
theorem fst_shift {P P':Nat->Bool}{f lo k:Nat}(h:∀m,lo<=m->m<lo+k->P (f+m)=P' m):fstM P (f+lo) k=(fstM P' lo k).map (f + ·):=by
 have A:=fst_is P' k lo
 have B:Fst P (f+lo) (f+lo+k) ((fstM P' lo k).map (f + ·)):=by
  cases e:fstM P' lo k with
  |none=>
   rw[e] at A
   intro m h1 h2
   have:=A (m-f) (by omega) (by omega)
   rw[<- h (m-f) (by omega) (by omega)] at this
   rw[show f+(m-f)=m by omega] at this
   exact this
  |some x=>
   rw[e] at A
   obtain⟨a1,a2,a3,a4⟩:=A
   refine⟨by show f+lo<=f+x;omega,by show f+x<f+lo+k;omega,by show P (f+x)=true;rw[h x a1 a2];exact a3,fun j h1 h2=>?_⟩
   replace h2:j<f+x:=h2
   have:=a4 (j-f) (by omega) (by omega)
   rw[<- h (j-f) (by omega) (by omega)] at this
   rw[show f+(j-f)=j by omega] at this
   exact this
 have:=fst_to B
 rw[show f+lo+k-(f+lo)=k by omega] at this
 exact this
theorem lst_shift {P P':Nat->Bool}{f lo k:Nat}(h:∀m,lo<=m->m<lo+k->P (f+m)=P' m):lstM P (f+lo) k=(lstM P' lo k).map (f + ·):=by
 have A:=lst_is P' lo k
 have B:Lst P (f+lo) (f+lo+k) ((lstM P' lo k).map (f + ·)):=by
  cases e:lstM P' lo k with
  |none=>
   rw[e] at A
   intro m h1 h2
   have:=A (m-f) (by omega) (by omega)
   rw[<- h (m-f) (by omega) (by omega)] at this
   rw[show f+(m-f)=m by omega] at this
   exact this
  |some x=>
   rw[e] at A
   obtain⟨a1,a2,a3,a4⟩:=A
   refine⟨by show f+lo<=f+x;omega,by show f+x<f+lo+k;omega,by show P (f+x)=true;rw[h x a1 a2];exact a3,fun j h1 h2=>?_⟩
   replace h1:f+x<j:=h1
   have:=a4 (j-f) (by omega) (by omega)
   rw[<- h (j-f) (by omega) (by omega)] at this
   rw[show f+(j-f)=j by omega] at this
   exact this
 have:=lst_to B
 rw[show f+lo+k-(f+lo)=k by omega] at this
 exact this
theorem rng_shift (f a b:Nat):rng (f+a) (f+b)=(rng a b).map (f + ·):=by
 unfold rng
 rw[List.map_map,show f+b-(f+a)=b-a by omega]
 apply List.map_congr_left
 intro x _
 show f+a+x=f+(a+x)
 omega
theorem mem_shift {f n:Nat}{l:List Nat}:f+n∈l.map (f + ·)↔n∈l:=by
 rw[List.mem_map]
 constructor
 ·rintro⟨a,h1,h2⟩
  have:a=n:=by
   have h3:f+a=f+n:=h2
   omega
  rw[<- this]
  exact h1
 ·exact fun h=>⟨n,h,rfl⟩
theorem both_shift {f L L':Nat}{a b:List Nat}(hL:f+L'<=L)(ha:∀m∈a,m<L')(hb:∀m∈b,m<L'):both L (a.map (f + ·)) (b.map (f + ·))=(both L' a b).map (f + ·):=by
 have sh:∀(c:List Nat),(∀m∈c,m<L')->∀m∈c.map (f + ·),m<L:=fun c hc m hm=>by
  obtain⟨x,h1,h2⟩:=List.mem_map.mp hm
  have:=hc x h1
  have h3:f+x=m:=h2
  omega
 refine inc_eq (both_lt _ _ _) ?_ fun x=>?_
 ·rw[List.pairwise_map]
  exact(both_lt L' a b).imp fun h=>by omega
 ·rw[both_mem (sh a ha) (sh b hb),<- List.map_append,List.mem_map,List.mem_map]
  constructor
  ·rintro⟨y,h1,h2⟩
   exact⟨y,(both_mem ha hb y).mpr h1,h2⟩
  ·rintro⟨y,h1,h2⟩
   exact⟨y,(both_mem ha hb y).mp h1,h2⟩
section
variable {es es':List Ent} {f:Nat}
theorem beh_shift (hE:∀m,m<es'.length->es'.getD m (0,[])=es.getD (f+m) (0,[])){n m:Nat}(hn:n<es'.length)(hm:m<es'.length)(F I G J:Int):behP es (f+n) F I G J (f+m)=behP es' n F I G J m:=by
 unfold behP
 rw[hE n hn,hE m hm]
theorem found_shift (hE:∀m,m<es'.length->es'.getD m (0,[])=es.getD (f+m) (0,[]))(hL:f+es'.length<=es.length):∀(q:Qn) (n:Nat),q.Ok->n<es'.length->(f=0\/backM q<=(n:Int))->(f+es'.length=es.length\/(n:Int)+onM q<(es'.length:Int))→
  foundM es q (f+n)=(foundM es' q n).map fun rs=>rs.map (f + ·)
 |.row F,n,_,hn,_,_=>by
  unfold foundM
  rw[hE n hn]
  split<;>rfl
 |.wit F I W,n,_,hn,_,_=>by
  unfold foundM
  rw[hE n hn]
  split<;>rfl
 |.beh F I G J R,n,_,hn,_,ho=>by
  unfold foundM
  have ho':f+es'.length=es.length\/(n:Int)+(R:Int)<(es'.length:Int):=ho
  have ek:min (f+n+R+1) es.length-(f+n+1)=min (n+R+1) es'.length-(n+1):=by omega
  rw[ek,show f+n+1=f+(n+1) by omega]
  rw[fst_shift (P':=behP es' n F I G J) fun m h1 h2=>beh_shift hE hn (by omega) F I G J]
  cases fstM (behP es' n F I G J) (n+1) (min (n+R+1) es'.length-(n+1))<;>rfl
 |.ahd F I G J R,n,_,hn,hb,_=>by
  unfold foundM
  have hb':f=0\/(R:Int)<=(n:Int):=hb
  rw[show f+n-R=f+(n-R) by omega,show f+n-(f+(n-R))=n-(n-R) by omega]
  rw[lst_shift (P':=behP es' n F I G J) fun m h1 h2=>beh_shift hE hn (by omega) F I G J]
  cases lstM (behP es' n F I G J) (n-R) (n-(n-R))<;>rfl
 |.tim K C q,n,hk,hn,hb,ho=>by
  have hb':f=0\/backM q+(K:Int)-1<=(n:Int):=hb
  have ho':f+es'.length=es.length\/(n:Int)+onM q<(es'.length:Int):=ho
  have hq:=back_pos (q:=q) hk.2.2.2
  have k1:=hk.1
  have er:rng (f+n+1-K) (f+n+1)=(rng (n+1-K) (n+1)).map (f + ·):=by
   rw[<- rng_shift,show f+n+1-K=f+(n+1-K) by omega,show f+(n+1)=f+n+1 by omega]
  have ef:(rng (f+n+1-K) (f+n+1)).filter (fun m=>(foundM es q m).isSome)=((rng (n+1-K) (n+1)).filter fun m=>(foundM es' q m).isSome).map (f + ·):=by
   rw[er,List.filter_map]
   congr 1
   apply List.filter_congr
   intro m hm
   obtain⟨h1,h2⟩:=mem_rng.mp hm
   show(foundM es q (f+m)).isSome=(foundM es' q m).isSome
   rw[found_shift hE hL q m hk.2.2.2 (by omega) (by omega) (by omega)]
   cases foundM es' q m<;>rfl
  unfold foundM
  rw[ef,List.length_map]
  by_cases g:n∈(rng (n+1-K) (n+1)).filter (fun m=>(foundM es' q m).isSome)/\C<=((rng (n+1-K) (n+1)).filter fun m=>(foundM es' q m).isSome).length
  ·rw[if_pos g,if_pos ⟨mem_shift.mpr g.1,g.2⟩]
   rfl
  ·rw[if_neg g,if_neg fun z=>g ⟨mem_shift.mp z.1,z.2⟩]
   rfl
 |.bot q r,n,hk,hn,hb,ho=>by
  have hb':f=0\/max (backM q) (backM r)<=(n:Int):=hb
  have ho':f+es'.length=es.length\/(n:Int)+max (onM q) (onM r)<(es'.length:Int):=ho
  have e1:=found_shift hE hL q n hk.1 hn (by omega) (by omega)
  have e2:=found_shift hE hL r n hk.2 hn (by omega) (by omega)
  cases h1:foundM es' q n with
  |none=>
   rw[h1] at e1
   rw[found_bot1 h1,found_bot1 e1]
   rfl
  |some a=>
   rw[h1] at e1
   cases h2:foundM es' r n with
   |none=>
    rw[h2] at e2
    rw[found_bot2 h2,found_bot2 e2]
    rfl
   |some b=>
    rw[h2] at e2
    rw[found_bot h1 h2,found_bot e1 e2]
    show some (both es.length (a.map (f + ·)) (b.map (f + ·)))=some ((both es'.length a b).map (f + ·))
    rw[both_shift hL (found_lt q n a hn h1) (found_lt r n b hn h2)]
 |.eit q r,n,hk,hn,hb,ho=>by
  have hb':f=0\/max (backM q) (backM r)<=(n:Int):=hb
  have ho':f+es'.length=es.length\/(n:Int)+max (onM q) (onM r)<(es'.length:Int):=ho
  have e1:=found_shift hE hL q n hk.1 hn (by omega) (by omega)
  have e2:=found_shift hE hL r n hk.2 hn (by omega) (by omega)
  unfold foundM
  cases h1:foundM es' q n with
  |none=>
   rw[h1] at e1
   rw[e1]
   exact e2
  |some a=>
   rw[h1] at e1
   rw[e1]
   rfl
 |.non q,n,hk,hn,hb,ho=>by
  have e1:=found_shift hE hL q n hk hn hb ho
  unfold foundM
  cases h1:foundM es' q n with
  |none=>
   rw[h1] at e1
   rw[e1]
   rfl
  |some a=>
   rw[h1] at e1
   rw[e1]
   rfl
end
end QL
namespace QL
open PySem L2
def FoundAs (H:Hp)(v:V):Option (List Nat)->Prop
 |none=>v=.non
 |some rows=>∃a,v=.ref a/\H a=some (.tup (vN rows))
def DueAs (H:Hp)(v:V):Option (List Nat)->Prop
 |none=>v=.non
 |some rows=>∃a,v=.ref a/\H a=some (.lst (vN rows))
theorem told_of {H:Hp}{Q:VK}{o:Option (List Nat)}(h:∀v H',Same H H'->FoundAs H' v o->Q v H'):Told H Q o:=by
 cases o with
 |none=>exact fun H' s=>h _ _ s rfl
 |some rows=>exact fun a H' s ha=>h _ _ s ⟨a,rfl,ha⟩
theorem refN {a:Addr}:decide (V.ref a=V.non)=false:=decide_eq_false fun z=>by cases z
theorem ents_cut {H:Hp}{qs:List Addr}{es:List Ent}(h:EntsAt H qs es)(a n:Nat):EntsAt H ((qs.drop a).take n) ((es.drop a).take n):=by
 refine⟨by rw[List.length_take,List.length_take,List.length_drop,List.length_drop,h.1],fun i e he=>?_⟩
 rw[List.getElem?_take] at he
 split at he
 ·rename_i hi
  rw[List.getElem?_drop] at he
  obtain⟨q,z,h1,h2,h3⟩:=h.2 _ _ he
  exact⟨q,z,by rw[List.getElem?_take,if_pos hi,List.getElem?_drop];exact h1,h2,h3⟩
 ·cases he
theorem all_in:∀q:Qn,q.In ks
 |.row _=>rfl
 |.wit _ _ _=>rfl
 |.beh _ _ _ _ _=>rfl
 |.ahd _ _ _ _ _=>rfl
 |.tim _ _ q=>⟨rfl,all_in q⟩
 |.bot q r=>⟨rfl,all_in q,all_in r⟩
 |.eit q r=>⟨rfl,all_in q,all_in r⟩
 |.non q=>⟨rfl,all_in q⟩
end QL
namespace QL
open PySem L2
def PaAsk (H:Hp):Pa->V->Prop
 |.num _ n,v=>v=.int n
 |.wrd W,v=>v=.str W
 |.que q,v=>∃c,v=.ref c/\AAt H q c
inductive AskAt (H:Hp):List Pa->List V->Prop
 |nil:AskAt H [] []
 |cons {pa:Pa} {v:V} {ps:List Pa} {vs:List V} (h:PaAsk H pa v) (t:AskAt H ps vs):AskAt H (pa::ps) (v::vs)
theorem AskAt.get {H:Hp}{ps:List Pa}{vs:List V}(h:AskAt H ps vs):∀{i:Nat} {v:V},vs[i]?=some v->∃pa,ps[i]?=some pa/\PaAsk H pa v:=by
 induction h with
 |nil=>intro i v e;simp at e
 |@cons pa v ps vs h t ih=>
  intro i u e
  cases i with
  |zero=>cases e;exact⟨pa,rfl,h⟩
  |succ i=>exact ih e
theorem AskAt.len {H:Hp}{ps:List Pa}{vs:List V}(h:AskAt H ps vs):vs.length=ps.length:=by
 induction h with
 |nil=>rfl
 |cons h t ih=>rw[List.length_cons,List.length_cons,ih]
theorem AAt.gen {H:Hp}:∀{q:Qn} {p:Addr},AAt H q p->∃vs,H p=some (.tup (.str q.word::vs))/\AskAt H q.parts vs
 |.row _,_,h=>⟨_,h,.cons rfl .nil⟩
 |.wit _ _ _,_,h=>⟨_,h,.cons rfl (.cons rfl (.cons rfl .nil))⟩
 |.beh _ _ _ _ _,_,h=>⟨_,h,.cons rfl (.cons rfl (.cons rfl (.cons rfl (.cons rfl .nil))))⟩
 |.ahd _ _ _ _ _,_,h=>⟨_,h,.cons rfl (.cons rfl (.cons rfl (.cons rfl (.cons rfl .nil))))⟩
 |.tim _ _ _,_,⟨c,h1,h2⟩=>⟨_,h1,.cons rfl (.cons rfl (.cons ⟨c,rfl,h2⟩ .nil))⟩
 |.bot _ _,_,⟨c,e,h1,h2,h3⟩=>⟨_,h1,.cons ⟨c,rfl,h2⟩ (.cons ⟨e,rfl,h3⟩ .nil)⟩
 |.eit _ _,_,⟨c,e,h1,h2,h3⟩=>⟨_,h1,.cons ⟨c,rfl,h2⟩ (.cons ⟨e,rfl,h3⟩ .nil)⟩
 |.non _,_,⟨c,h1,h2⟩=>⟨_,h1,.cons ⟨c,rfl,h2⟩ .nil⟩
theorem part_sub {q:Qn}{p:Pa}(h:p∈q.parts):p.pcs.length<q.pcs.length/\∀x∈p.pcs,x∈q.pcs:=by
 rw[pcs_eq]
 refine⟨?_,fun x hx=>List.mem_cons_of_mem _ (List.mem_flatMap.mpr ⟨p,h,hx⟩)⟩
 rw[List.length_cons]
 have:p.pcs.length<=(q.parts.flatMap Pa.pcs).length:=(List.sublist_flatten_of_mem (List.mem_map.mpr ⟨p,h,rfl⟩)).length_le
 omega
theorem sum_lenL {n:Nat}:∀{ys:List Str},(∀y∈ys,y.length<=n)->(ys.map (·.length)).sum<=ys.length*n
 | [],_=>Nat.zero_le _
 |y::ys,h=>by
  have:=sum_lenL (n:=n) fun z hz=>h z (List.mem_cons_of_mem y hz)
  have:=h y List.mem_cons_self
  rw[List.map_cons,List.sum_cons,List.length_cons,Nat.succ_mul]
  omega
theorem parts_le (q:Qn):q.parts.length<=5:=by
 cases q<;>simp[Qn.parts]
def txs (q:Qn):List Str:=q.word::q.parts.map Pa.tx
theorem txs_len {wi:Bool}{q:Qn}(h:q.Ok2 wi)(hl:q.pcs.length<=100):∀y∈txs q,y.length<=6200:=by
 intro y hy
 rcases List.mem_cons.mp hy with rfl|hy
 ·have:=(word_tn q).1
  omega
 ·obtain⟨p,hp,rfl⟩:=List.mem_map.mp hy
  have ps:=part_sub hp
  have:=(join_tx (n:=60) (m:=1) SP ⟨Nat.le_refl 1,fun c hc=>by
   have:c=32:=by simpa [SP] using hc
   omega⟩ (ys:=p.pcs) fun x hx=>(pcs_tn h x (ps.2 x hx)).tx).1
  unfold Pa.tx
  have:p.pcs.length*61<=100*61:=Nat.mul_le_mul_right _ (by omega)
  omega
theorem take_str {ys:List Str}{i:Nat}{y:Str}(h:ys[i]?=some y):(ys.take (i+1)).map V.str=(ys.take i).map V.str++[V.str y]:=by
 rw[List.take_add_one,h,List.map_append]
 rfl
def spTe (d:Nat):Sp:=fun vs H Q _=>∃(p:Addr) (q:Qn) (wi:Bool),vs=[.ref p]/\AAt H q p/\q.dep<d/\q.Ok2 wi/\q.pcs.length<=100/\∀H':Hp,Same H H'->Q (.str q.tx) H'
section
variable {P:Program} {w:World} {K:W.Frag} {mg:Str->Option Value} {base:Heap} {cl:Kd->Addr}
theorem scTe:FnScope ["_law_asked","_law_parts","_law_part"] ["_law_asked"] (defScope sTe):=.of (by decide +kernel)
theorem ok_te (F:Fun K "_law_text" "_law_text" sTe f fd)(T:Txt mg)(bF:Binds K fd ["_law_asked"] [])(gF:mg "_law_text"=some (.ref f)):
  ∀d:Nat,FnOk P w K mg base CX0 (d+1) f fd ["_law_asked"] (spTe d)
 |0=>vac fun vs H Q E h=>by
  obtain⟨p,q,wi,_,_,hd,_⟩:=h
  exact Nat.not_lt_zero _ hd
 |d+1=>by
  have GT:FnOk P w K mg base CX0 (d+1) f fd ["_law_asked"] (spTe d):=ok_te F T bF gF d
  refine F.ok (k:=d+1) scTe (fun vs H Q E h=>?_) (fun cdv A outer s H vs Q E hr h=>?_)
  ·obtain⟨p,q,wi,rfl,_⟩:=h
   rfl
  ·obtain⟨p,q,wi,rfl,hA,hd,hok,hl,k⟩:=h
   refine⟨_,pss_cons (ps_set (i:=1) scTe.nd rfl (Or.inl rfl) (pe_lst pa_nil))
    (pss_cons (ps_for PassesOwn.never rfl (pi_tup (pv 0)) (pg_name (i:=2) scTe.nd rfl (Or.inl rfl))
     (pss_one (ps_if (pt_val (pe_callB call_isinst (by rfl) T.isin PyProof.Rows.boot_isinstance (pa_cons (pv 2) (pa_cons (pe_bltn (v:=.ty "tuple") (by rfl) T.tuple PyProof.Rows.boot_tuple rfl) pa_nil))))
      (pss_one (ps_expr (pe_bm PySem.F.plainAttrs_list PySem.F.slot_list_append PySem.F.type_list_append mt_append (pv 1) (pa_cons (pe_call GT hr rfl gF F.kp bF .nil pass0 (pa_cons (pv 2) pa_nil)) pa_nil))))
      (pss_one (ps_expr (pe_bm PySem.F.plainAttrs_list PySem.F.slot_list_append PySem.F.type_list_append mt_append (pv 1) (pa_cons (pe_callTy call_strA (by rfl) T.str PyProof.Rows.boot_str (pa_cons (pv 2) pa_nil)) pa_nil)))))))
    (pss_one (ps_ret (pe_bm PySem.F.plainAttrs_str PySem.F.slot_str_join PySem.F.type_str_join mt_join pe_str (pa_cons (pv 1) pa_nil))))),?_⟩
   obtain⟨vs,hp,ha⟩:=hA.gen
   refine⟨(by show 0<=sizeLine;decide),fun l hl0=>?_⟩
   have s1:Same H (upd H l (.lst [])):=(Same.refl H).upd_free hl0
   have hln:vs.length<=5:=by rw[ha.len];exact parts_le q
   refine⟨_,rfl,p,rfl,⟨_,SqT.of (s1 _ _ hp)⟩,?_⟩
   refine for_tup (K:=K) (a:=p) (xs:=.str q.word::vs) (fun i σ H3=>∃v,Same H H3/\H3 l=some (.lst (((txs q).take i).map V.str))/\σ=[some (.ref p),some (.ref l),v])
    ⟨none,s1,upd_same,rfl⟩ (fun i σ H3 _ ⟨v,s3,_⟩=>SqT.of (s3 _ _ hp)) ?_ ?_
   ·rintro i x σ H3 hx ⟨v,s3,hL,rfl⟩
    have hi:i<6:=by
     have:=(List.getElem?_eq_some_iff.mp hx).1
     rw[List.length_cons] at this
     omega
    have fin:∀(y:Str) (H4:Hp),(txs q)[i]?=some y->Same H3 H4->∃v,Same H (upd H4 l (.lst (((txs q).take i).map V.str++[V.str y])))/\upd H4 l (.lst (((txs q).take i).map V.str++[V.str y])) l=some (.lst (((txs q).take (i+1)).map V.str))/\[some (V.ref p),some (V.ref l),some x]=[some (.ref p),some (.ref l),v]:=fun y H4 hy s4=>
     ⟨some x,(s3.trans s4).upd_free hl0,by rw[upd_same,take_str hy],rfl⟩
    have sz:(((txs q).take i).map V.str).length<sizeLine:=by
     rw[List.length_map,List.length_take]
     exact small1000 (by omega)
    cases i with
    |zero=>
     cases hx
     refine⟨_,rfl,_,_,_,false,rfl,.str _,rfl,false,rfl,iteF ?_⟩
     refine⟨_,rfl,.inl ⟨rfl,_,SqL.of hL⟩,_,rfl,.inr ⟨_,rfl,?_⟩⟩
     exact⟨l,_,_,rfl,rfl,hL,sz,fin q.word H3 rfl (Same.refl H3)⟩
    |succ j=>
     obtain⟨pa,hpa,hpv⟩:=ha.get (i:=j) (v:=x) hx
     have hmem:=List.mem_of_getElem? hpa
     have hty:(txs q)[j+1]?=some pa.tx:=by
      show(q.parts.map Pa.tx)[j]?=_
      rw[List.getElem?_map,hpa]
      rfl
     cases pa with
     |num kk n=>
      cases hpv
      have hb:kk.lo<=n/\n<=kk.hi:=parts_ok hok _ hmem
      have b0:=nk_pos kk
      have b1:=nk_top kk
      refine⟨_,rfl,_,_,_,false,rfl,.int _,rfl,false,rfl,iteF ?_⟩
      refine⟨_,rfl,.inl ⟨rfl,_,SqL.of hL⟩,_,rfl,.inl ⟨n,rfl,log_ok (by omega) (by omega),?_⟩⟩
      exact⟨l,_,_,rfl,rfl,hL,sz,fin _ H3 hty (Same.refl H3)⟩
     |wrd W=>
      cases hpv
      refine⟨_,rfl,_,_,_,false,rfl,.str _,rfl,false,rfl,iteF ?_⟩
      refine⟨_,rfl,.inl ⟨rfl,_,SqL.of hL⟩,_,rfl,.inr ⟨W,rfl,?_⟩⟩
      exact⟨l,_,_,rfl,rfl,hL,sz,fin _ H3 hty (Same.refl H3)⟩
     |que q'=>
      obtain⟨c,rfl,hc⟩:=hpv
      have hc3:=AAt.same s3 hc
      obtain⟨vs',hp',_⟩:=hc3.gen
      have hdp:q'.dep+1<=q.dep:=parts_dep q _ hmem
      refine⟨_,rfl,_,_,_,true,rfl,.tup hp',rfl,true,rfl,iteT ?_⟩
      refine⟨_,rfl,.inl ⟨rfl,_,SqL.of hL⟩,_,rfl,c,q',q.wit' wi,rfl,hc3,by omega,parts_ok hok _ hmem,?_,fun H4 s4=>?_⟩
      ·have:=(part_sub hmem).1
       exact Nat.le_trans (Nat.le_of_lt this) hl
      ·exact⟨l,_,_,rfl,rfl,s4 _ _ hL,sz,fin _ H4 hty s4⟩
   ·rintro σ H3 ⟨v,s3,hL,rfl⟩
    have e6:(txs q).take (V.str q.word::vs).length=txs q:=List.take_of_length_le (by
     unfold txs
     rw[List.length_cons,List.length_cons,List.length_map,ha.len]
     exact Nat.le_refl _)
    rw[e6] at hL
    refine⟨rfl,_,rfl,SP,l,txs q,rfl,rfl,SqL.of hL,?_,?_⟩
    ·have h1:=sum_lenL (txs_len hok hl)
     have h2:(txs q).length<=6:=by
      unfold txs
      rw[List.length_cons,List.length_map]
      have:=parts_le q
      omega
     have h3:(txs q).length*6200<=6*6200:=Nat.mul_le_mul_right _ h2
     show _+(txs q).length*1<=_
     omega
    ·rw[show Str.join SP (txs q)=q.tx from tx_eq q]
     exact k H3 s3
end
end QL
namespace QL
open PySem L2
def PaVal (cl:Kd->Addr)(H:Hp):Pa->V->Prop
 |.num _ n,v=>v=.int n
 |.wrd W,v=>v=.str W
 |.que q,v=>∃o,v=.ref o/\QAt cl H q o
inductive ValAt (cl:Kd->Addr) (H:Hp):List Pa->List V->Prop
 |nil:ValAt cl H [] []
 |cons {pa:Pa} {v:V} {ps:List Pa} {vs:List V} (h:PaVal cl H pa v) (t:ValAt cl H ps vs):ValAt cl H (pa::ps) (v::vs)
theorem PaVal.same {cl:Kd->Addr}{H H':Hp}(s:Same H H'):∀{pa:Pa} {v:V},PaVal cl H pa v->PaVal cl H' pa v
 |.num _ _,_,h=>h
 |.wrd _,_,h=>h
 |.que _,_,⟨o,h1,h2⟩=>⟨o,h1,QAt.same s h2⟩
theorem ValAt.same {cl:Kd->Addr}{H H':Hp}(s:Same H H'){ps:List Pa}{vs:List V}(h:ValAt cl H ps vs):ValAt cl H' ps vs:=by
 induction h with
 |nil=>exact .nil
 |cons h t ih=>exact .cons (h.same s) ih
theorem ValAt.snoc {cl:Kd->Addr}{H:Hp}{ps:List Pa}{vs:List V}{pa:Pa}{v:V}(h:ValAt cl H ps vs)(hv:PaVal cl H pa v):ValAt cl H (ps++[pa]) (vs++[v]):=by
 induction h with
 |nil=>exact .cons hv .nil
 |cons h t ih=>exact .cons h ih
theorem ValAt.len {cl:Kd->Addr}{H:Hp}{ps:List Pa}{vs:List V}(h:ValAt cl H ps vs):vs.length=ps.length:=by
 induction h with
 |nil=>rfl
 |cons h t ih=>rw[List.length_cons,List.length_cons,ih]
theorem ValAt.inv {cl:Kd->Addr}{H:Hp}{pa:Pa}{ps:List Pa}{us:List V}(h:ValAt cl H (pa::ps) us):∃v vs,us=v::vs/\PaVal cl H pa v/\ValAt cl H ps vs:=by
 cases h with
 |cons h t=>exact⟨_,_,rfl,h,t⟩
theorem ValAt.inv0 {cl:Kd->Addr}{H:Hp}{us:List V}(h:ValAt cl H [] us):us=[]:=by
 cases h
 rfl
def kindsOf:Kd->List Str
 |.row=>[Str.ofString "letter"] | .wit=>[Str.ofString "letter",Str.ofString "gap",Str.ofString "word"]
 |.beh=>[Str.ofString "letter",Str.ofString "gap",Str.ofString "letter",Str.ofString "gap",Str.ofString "count"] | .ahd=>[Str.ofString "letter",Str.ofString "gap",Str.ofString "letter",Str.ofString "gap",Str.ofString "count"]
 |.tim=>[Str.ofString "count",Str.ofString "count",Str.ofString "question"] | .bot=>[Str.ofString "question",Str.ofString "question"] | .eit=>[Str.ofString "question",Str.ofString "question"] | .non=>[Str.ofString "question"]
theorem kinds_eq (q:Qn):kindsOf q.kd=q.parts.map Pa.kind:=by
 cases q<;>rfl
def kindsT (as:Kd->Addr):List (Str×V):=[(Str.ofString "row",.ref (as .row)),(Str.ofString "with",.ref (as .wit)),(Str.ofString "behind",.ref (as .beh)),(Str.ofString "ahead",.ref (as .ahd)),(Str.ofString "times",.ref (as .tim)),(Str.ofString "both",.ref (as .bot)),(Str.ofString "either",.ref (as .eit)),(Str.ofString "not",.ref (as .non))]
theorem kinds_at (as:Kd->Addr)(q:Qn):valV (kindsT as) q.word=some (.ref (as q.kd)):=by
 cases q<;>rfl
def leastT:List (Str×V):=[(Str.ofString "letter",.int 0),(Str.ofString "gap",.int 0),(Str.ofString "count",.int 1)]
def greatT:List (Str×V):=[(Str.ofString "letter",.int 8),(Str.ofString "gap",.int 7),(Str.ofString "count",.int 20)]
theorem least_at (k:Nk):valV leastT k.str=some (.int k.lo):=by cases k<;>rfl
theorem great_at (k:Nk):valV greatT k.str=some (.int k.hi):=by cases k<;>rfl
structure TK (w:World)(K:W.Frag)(mg:Str->Option Value)(aK aL aG:Addr)(as:Kd->Addr):Prop where
 gK:mg "KINDS"=some (.ref aK)
 gL:mg "LEAST"=some (.ref aL)
 gG:mg "GREATEST"=some (.ref aG)
 gM:∃u,mg "MOST_PIECES"=some u/\RelV (.int 40) u
 dK:KD w K aK (kindsT as)
 dL:KD w K aL leastT
 dG:KD w K aG greatT
 tup:∀k,∃(o:Obj) (its:Array Value) (n:Nat),K.lookup (as k)=some o/\o.cls=.type "tuple"/\o.data=.seq its n/\its.size<=sizeLine/\Vals ((kindsOf k).map V.str) its.toList
def spMd (cl:Kd->Addr):Sp:=fun vs H Q _=>∃(W:Str) (l:Addr) (q:Qn) (us:List V),vs=[.str W,.ref l]/\W=q.word/\H l=some (.lst us)/\ValAt cl H q.parts us/\∀(o:Addr) (H':Hp),Same H H'->QAt cl H' q o->Q (.ref o) H'
def spVo:Sp:=fun vs H Q _=>(∃(k:Nk) (n:Int),vs=[.str k.str,.str (nS n)]/\k.lo<=n/\n<=k.hi/\∀H',Same H H'->Q (.int n) H')\/∃W:Str,vs=[.str (Str.ofString "word"),.str W]/\SL.Wd W/\∀H',Same H H'->Q (.str W) H'
def spPi:Sp:=fun vs H Q _=>∃(l:Addr) (i:Nat) (ps:List Str) (y:Str),vs=[.ref l,.int i]/\H l=some (.lst (ps.map V.str))/\ps.length<=1000/\i<40/\ps[i]?=some y/\Q (.str y) H
section
variable {P:Program} {w:World} {K:W.Frag} {mg:Str->Option Value} {base:Heap} {cl:Kd->Addr}
theorem scPi:FnScope ["pieces","at"] ["pieces","at"] (defScope sPi):=.of (by decide +kernel)
theorem ok_pi {as:Kd->Addr}(F:Fun K "piece_at" "piece_at" sPi f fd)(T:Txt mg)(TT:TK w K mg aK aL aG as):FnOk P w K mg base CX0 1 f fd ["pieces","at"] spPi:=by
 refine F.ok scPi (fun vs H Q E h=>?_) (fun cdv A outer s H vs Q E hr h=>?_)
 ·obtain⟨l,i,ps,y,rfl,_⟩:=h
  rfl
 ·obtain⟨l,i,ps,y,rfl,hL,hz,hi,hy,k⟩:=h
  obtain⟨u,gM,rM⟩:=TT.gM
  refine⟨_,pss_cons (ps_if (PW.pt (pw_or (pt_cmpR op_eq (pv 1) (pe_callB call_len_seq (by rfl) T.len PySem.boot_len (pa_cons (pv 0) pa_nil)) (nomark _)) (pw_or1 (pt_cmpR op_eq (pv 1) (pe_glob (v:=.int 40) (by rfl) gM rM) (nomark _))))) pss_never pss_nil)
   (pss_one (ps_ret (pe_ix ix_list (pv 0) (pv 1) (fun _ _=>rfl)))),?_⟩
  have hlt:=(List.getElem?_eq_some_iff.mp hy).1
  refine⟨_,rfl,_,rfl,l,_,rfl,.inl (SqL.of hL),rfl,_,rfl,?_⟩
  have n1:decide (V.int (i:Int)=V.int (((ps.map V.str).length:Nat):Int))=false:=decide_eq_false fun z=>by
   injection z with z
   rw[List.length_map] at z
   omega
  refine iteFK n1 ?_
  have n2:decide (V.int (i:Int)=V.int 40)=false:=decide_eq_false fun z=>by
   injection z with z
   omega
  refine⟨_,rfl,rfl,_,rfl,iteFK n2 ?_⟩
  exact⟨_,rfl,_,rfl,l,_,_,_,rfl,rfl,SqL.of hL,atI_nat (by rw[List.getElem?_map,hy];rfl),k⟩
theorem scVo:FnScope ["kind","piece","sort"] ["kind","piece"] (defScope sVo):=.of (by decide +kernel)
theorem ok_vo {as:Kd->Addr}(F:Fun K "value_of" "value_of" sVo f fd)(T:Txt mg)(TT:TK w K mg aK aL aG as)
  (FS:Fun K "sort_of" "sort_of" SL.sSo fS dS) (bS:Binds K dS ["text"] []) (gS:mg "sort_of"=some (.ref fS)) (GS:FnOk P w K mg base CX0 5 fS dS ["text"] SL.spSo):FnOk P w K mg base CX0 6 f fd ["kind","piece"] spVo:=by
 refine F.ok scVo (fun vs H Q E h=>?_) (fun cdv A outer s H vs Q E hr h=>?_)
 ·rcases h with⟨k,n,rfl,_⟩|⟨W,rfl,_⟩<;>rfl
 ·refine⟨_,pss_cons (ps_set (i:=2) scVo.nd rfl (Or.inl rfl) (pe_call GS hr rfl gS FS.kp bS .nil pass0 (pa_cons (pv 1) pa_nil)))
   (pss_cons (ps_if (pt_cmpR op_eq (pv 0) pe_str (nomark _)) (pss_one (ps_ret (pe_ifExp (pt_cmp (pc_isN (pv 2))) pe_non (pv 1)))) pss_nil)
   (pss_cons (ps_if (PW.pt (pw_and (pt_cmpR op_eq (pv 2) pe_str (nomark _)) (pw_and1 (pt_chain op_le op_le (pe_kget (pe_glob (v:=.ref aL) (by rfl) TT.gL rfl) (pv 0) (fun _ _=>rfl)) (pe_callTy call_intT (by rfl) T.int PyProof.Rows.boot_int (pa_cons (pv 1) pa_nil)) (pe_kget (pe_glob (v:=.ref aG) (by rfl) TT.gG rfl) (pv 0) (fun _ _=>rfl))))))
    (pss_one (ps_ret (pe_callTy call_intT (by rfl) T.int PyProof.Rows.boot_int (pa_cons (pv 1) pa_nil)))) pss_nil)
   (pss_one (ps_ret pe_non)))),?_⟩
  rcases h with⟨kk,n,rfl,h0,h1,k⟩|⟨W,rfl,hW,k⟩
  ·have b0:=nk_pos kk
   have b1:=nk_top kk
   have hnum:=nS_num (n:=n) (by omega) (by omega)
   have hso:=SL.sort_isNum hnum
   have htx:Tx 1000 (nS n):=(SL.Wd.item (by unfold SL.isItem;rw[hnum];rfl)).tn.tx.mono (by decide)
   have hin:PySem.intText? (nS n)=some n:=W.KIN.num_reads (by omega) (by omega)
   have hl6:(nS n).length<=640:=by
    have:=(SL.Wd.item (z:=nS n) (by unfold SL.isItem;rw[hnum];rfl)).tn.1
    omega
   refine⟨_,rfl,nS n,rfl,htx,fun H1 s1=>?_⟩
   rw[hso]
   refine⟨_,rfl,rfl,_,rfl,iteFK (by cases kk<;>decide +kernel) ?_⟩
   refine⟨_,rfl,rfl,_,rfl,iteTK (by decide +kernel) ?_⟩
   refine⟨_,rfl,aL,leastT,kk.str,_,rfl,rfl,TT.dL,least_at kk,_,rfl,nS n,n,rfl,hin,hl6,_,_,rfl,rfl,_,rfl,?_⟩
   rw[decide_eq_true h0]
   refine iteT ?_
   refine⟨_,rfl,aG,greatT,kk.str,_,rfl,rfl,TT.dG,great_at kk,_,_,rfl,rfl,_,rfl,?_⟩
   rw[decide_eq_true h1]
   refine iteT ?_
   exact⟨_,rfl,nS n,n,rfl,hin,hl6,k H1 s1⟩
  ·refine⟨_,rfl,W,rfl,hW.tn.tx.mono (by decide),fun H1 s1=>?_⟩
   have hso:∃so,SL.sortM W=some so:=by
    cases hW with
    |mar h=>exact⟨_,SL.sort_mark h⟩
    |lis xs h hi e=>exact⟨_,by rw[e];exact SL.sort_lis h hi⟩
   obtain⟨so,hso⟩:=hso
   rw[hso]
   refine⟨_,rfl,rfl,_,rfl,iteTK (by decide +kernel) ?_⟩
   refine⟨_,rfl,_,rfl,iteF ?_⟩
   exact⟨_,rfl,k H1 s1⟩
theorem scMd:FnScope ["word","parts"] ["word","parts"] (defScope sMd):=.of (by decide +kernel)
theorem ok_md (F:Fun K "made" "made" sMd f fd)(M:Mk4 P w K mg base cl fR fW fH fA dR dW dH dA)(N:Mk5 P w K mg base cl fT fJ fN dT dJ dN):
  FnOk P w K mg base CX0 3 f fd ["word","parts"] (spMd cl):=by
 refine F.ok scMd (fun vs H Q E h=>?_) (fun cdv A outer s H vs Q E hr h=>?_)
 ·obtain⟨W,l,q,us,rfl,_⟩:=h
  rfl
 ·obtain⟨W,l,q,us,rfl,hW,hL,hv,k⟩:=h
  refine⟨_,pss_cons (ps_if (pt_cmpR op_eq (pv 0) pe_str (nomark _)) (pss_one (ps_ret (pe_make M.mR M.oR hr rfl M.gR M.bR .nil pass0 (pa_cons (pe_ix ix_list (pv 1) pe_int (fun _ _=>rfl)) pa_nil)))) pss_nil)
    (pss_cons (ps_if (pt_cmpR op_eq (pv 0) pe_str (nomark _)) (pss_one (ps_ret (pe_make M.mW M.oW hr rfl M.gW M.bW .nil pass0 (pa_cons (pe_ix ix_list (pv 1) pe_int (fun _ _=>rfl)) (pa_cons (pe_ix ix_list (pv 1) pe_int (fun _ _=>rfl)) (pa_cons (pe_ix ix_list (pv 1) pe_int (fun _ _=>rfl)) pa_nil)))))) pss_nil)
    (pss_cons (ps_if (pt_cmpR op_eq (pv 0) pe_str (nomark _)) (pss_one (ps_ret (pe_make M.mH M.oH hr rfl M.gH M.bH .nil pass0 (pa_cons (pe_ix ix_list (pv 1) pe_int (fun _ _=>rfl)) (pa_cons (pe_ix ix_list (pv 1) pe_int (fun _ _=>rfl)) (pa_cons (pe_ix ix_list (pv 1) pe_int (fun _ _=>rfl)) (pa_cons (pe_ix ix_list (pv 1) pe_int (fun _ _=>rfl)) (pa_cons (pe_ix ix_list (pv 1) pe_int (fun _ _=>rfl)) pa_nil)))))))) pss_nil)
    (pss_cons (ps_if (pt_cmpR op_eq (pv 0) pe_str (nomark _)) (pss_one (ps_ret (pe_make M.mA M.oA hr rfl M.gA M.bA .nil pass0 (pa_cons (pe_ix ix_list (pv 1) pe_int (fun _ _=>rfl)) (pa_cons (pe_ix ix_list (pv 1) pe_int (fun _ _=>rfl)) (pa_cons (pe_ix ix_list (pv 1) pe_int (fun _ _=>rfl)) (pa_cons (pe_ix ix_list (pv 1) pe_int (fun _ _=>rfl)) (pa_cons (pe_ix ix_list (pv 1) pe_int (fun _ _=>rfl)) pa_nil)))))))) pss_nil)
    (pss_cons (ps_if (pt_cmpR op_eq (pv 0) pe_str (nomark _)) (pss_one (ps_ret (pe_make N.mT N.oT hr rfl N.gT N.bT .nil pass0 (pa_cons (pe_ix ix_list (pv 1) pe_int (fun _ _=>rfl)) (pa_cons (pe_ix ix_list (pv 1) pe_int (fun _ _=>rfl)) (pa_cons (pe_ix ix_list (pv 1) pe_int (fun _ _=>rfl)) pa_nil)))))) pss_nil)
    (pss_cons (ps_if (pt_cmpR op_eq (pv 0) pe_str (nomark _)) (pss_one (ps_ret (pe_make N.mB N.oB hr rfl N.gB N.bJ .nil pass0 (pa_cons (pe_ix ix_list (pv 1) pe_int (fun _ _=>rfl)) (pa_cons (pe_ix ix_list (pv 1) pe_int (fun _ _=>rfl)) pa_nil))))) pss_nil)
    (pss_cons (ps_if (pt_cmpR op_eq (pv 0) pe_str (nomark _)) (pss_one (ps_ret (pe_make N.mE N.oE hr rfl N.gE N.bJ .nil pass0 (pa_cons (pe_ix ix_list (pv 1) pe_int (fun _ _=>rfl)) (pa_cons (pe_ix ix_list (pv 1) pe_int (fun _ _=>rfl)) pa_nil))))) pss_nil)
    (pss_one (ps_ret (pe_make N.mN N.oN hr rfl N.gN N.bN .nil pass0 (pa_cons (pe_ix ix_list (pv 1) pe_int (fun _ _=>rfl)) pa_nil)))))))))),?_⟩
  cases q with
  |row F=>
   replace hW:W=Str.ofString "row":=hW
   subst hW
   obtain⟨v0,r0,rfl,h0,t0⟩:=hv.inv
   obtain rfl:=t0.inv0
   cases h0
   refine⟨_,rfl,rfl,_,rfl,iteTK (by decide +kernel) ?_⟩
   refine⟨_,rfl,l,_,_,_,rfl,rfl,SqL.of hL,rfl,fun x dx nx ndx nex=>?_⟩
   exact⟨x,dx,F,rfl,upd_same,fun H' q kp=>⟨rfl,k x H' ((Old.new nx ndx).then kp) q⟩⟩
  |wit F I W'=>
   replace hW:W=Str.ofString "with":=hW
   subst hW
   obtain⟨v0,r0,rfl,h0,t0⟩:=hv.inv
   obtain⟨v1,r1,rfl,h1,t1⟩:=t0.inv
   obtain⟨v2,r2,rfl,h2,t2⟩:=t1.inv
   obtain rfl:=t2.inv0
   cases h0
   cases h1
   cases h2
   refine⟨_,rfl,rfl,_,rfl,iteFK (by decide +kernel) ⟨_,rfl,rfl,_,rfl,iteTK (by decide +kernel) ?_⟩⟩
   refine⟨_,rfl,l,_,_,_,rfl,rfl,SqL.of hL,rfl,_,rfl,l,_,_,_,rfl,rfl,SqL.of hL,rfl,_,rfl,l,_,_,_,rfl,rfl,SqL.of hL,rfl,fun x dx nx ndx nex=>?_⟩
   exact⟨x,dx,F,I,W',rfl,upd_same,fun H' q kp=>⟨rfl,k x H' ((Old.new nx ndx).then kp) q⟩⟩
  |beh F I G J R=>
   replace hW:W=Str.ofString "behind":=hW
   subst hW
   obtain⟨v0,r0,rfl,h0,t0⟩:=hv.inv
   obtain⟨v1,r1,rfl,h1,t1⟩:=t0.inv
   obtain⟨v2,r2,rfl,h2,t2⟩:=t1.inv
   obtain⟨v3,r3,rfl,h3,t3⟩:=t2.inv
   obtain⟨v4,r4,rfl,h4,t4⟩:=t3.inv
   obtain rfl:=t4.inv0
   cases h0
   cases h1
   cases h2
   cases h3
   cases h4
   refine⟨_,rfl,rfl,_,rfl,iteFK (by decide +kernel) ⟨_,rfl,rfl,_,rfl,iteFK (by decide +kernel) ⟨_,rfl,rfl,_,rfl,iteTK (by decide +kernel) ?_⟩⟩⟩
   refine⟨_,rfl,l,_,_,_,rfl,rfl,SqL.of hL,rfl,_,rfl,l,_,_,_,rfl,rfl,SqL.of hL,rfl,_,rfl,l,_,_,_,rfl,rfl,SqL.of hL,rfl,_,rfl,l,_,_,_,rfl,rfl,SqL.of hL,rfl,_,rfl,l,_,_,_,rfl,rfl,SqL.of hL,rfl,fun x dx nx ndx nex=>?_⟩
   exact⟨x,dx,F,I,G,J,R,rfl,upd_same,fun H' q kp=>⟨rfl,k x H' ((Old.new nx ndx).then kp) q⟩⟩
  |ahd F I G J R=>
   replace hW:W=Str.ofString "ahead":=hW
   subst hW
   obtain⟨v0,r0,rfl,h0,t0⟩:=hv.inv
   obtain⟨v1,r1,rfl,h1,t1⟩:=t0.inv
   obtain⟨v2,r2,rfl,h2,t2⟩:=t1.inv
   obtain⟨v3,r3,rfl,h3,t3⟩:=t2.inv
   obtain⟨v4,r4,rfl,h4,t4⟩:=t3.inv
   obtain rfl:=t4.inv0
   cases h0
   cases h1
   cases h2
   cases h3
   cases h4
   refine⟨_,rfl,rfl,_,rfl,iteFK (by decide +kernel) ⟨_,rfl,rfl,_,rfl,iteFK (by decide +kernel) ⟨_,rfl,rfl,_,rfl,iteFK (by decide +kernel) ⟨_,rfl,rfl,_,rfl,iteTK (by decide +kernel) ?_⟩⟩⟩⟩
   refine⟨_,rfl,l,_,_,_,rfl,rfl,SqL.of hL,rfl,_,rfl,l,_,_,_,rfl,rfl,SqL.of hL,rfl,_,rfl,l,_,_,_,rfl,rfl,SqL.of hL,rfl,_,rfl,l,_,_,_,rfl,rfl,SqL.of hL,rfl,_,rfl,l,_,_,_,rfl,rfl,SqL.of hL,rfl,fun x dx nx ndx nex=>?_⟩
   exact⟨x,dx,F,I,G,J,R,rfl,upd_same,fun H' q kp=>⟨rfl,k x H' ((Old.new nx ndx).then kp) q⟩⟩
  |tim R L q=>
   replace hW:W=Str.ofString "times":=hW
   subst hW
   obtain⟨v0,r0,rfl,h0,t0⟩:=hv.inv
   obtain⟨v1,r1,rfl,h1,t1⟩:=t0.inv
   obtain⟨v2,r2,rfl,h2,t2⟩:=t1.inv
   obtain rfl:=t2.inv0
   cases h0
   cases h1
   obtain⟨o,rfl,hq⟩:=h2
   refine⟨_,rfl,rfl,_,rfl,iteFK (by decide +kernel) ⟨_,rfl,rfl,_,rfl,iteFK (by decide +kernel) ⟨_,rfl,rfl,_,rfl,iteFK (by decide +kernel) ⟨_,rfl,rfl,_,rfl,iteFK (by decide +kernel) ⟨_,rfl,rfl,_,rfl,iteTK (by decide +kernel) ?_⟩⟩⟩⟩⟩
   refine⟨_,rfl,l,_,_,_,rfl,rfl,SqL.of hL,rfl,_,rfl,l,_,_,_,rfl,rfl,SqL.of hL,rfl,_,rfl,l,_,_,_,rfl,rfl,SqL.of hL,rfl,fun x dx nx ndx nex=>?_⟩
   exact⟨x,dx,o,R,L,q,H,rfl,upd_same,hq,Old.new nx ndx,fun H' hq' kp=>⟨rfl,k x H' ((Old.new (C:=cl .tim) (fs:=[]) nx ndx).then kp) hq'⟩⟩
  |bot q r=>
   replace hW:W=Str.ofString "both":=hW
   subst hW
   obtain⟨v0,r0,rfl,h0,t0⟩:=hv.inv
   obtain⟨v1,r1,rfl,h1,t1⟩:=t0.inv
   obtain rfl:=t1.inv0
   obtain⟨o,rfl,hq⟩:=h0
   obtain⟨o',rfl,hq'⟩:=h1
   refine⟨_,rfl,rfl,_,rfl,iteFK (by decide +kernel) ⟨_,rfl,rfl,_,rfl,iteFK (by decide +kernel) ⟨_,rfl,rfl,_,rfl,iteFK (by decide +kernel) ⟨_,rfl,rfl,_,rfl,iteFK (by decide +kernel) ⟨_,rfl,rfl,_,rfl,iteFK (by decide +kernel) ⟨_,rfl,rfl,_,rfl,iteTK (by decide +kernel) ?_⟩⟩⟩⟩⟩⟩
   refine⟨_,rfl,l,_,_,_,rfl,rfl,SqL.of hL,rfl,_,rfl,l,_,_,_,rfl,rfl,SqL.of hL,rfl,fun x dx nx ndx nex=>?_⟩
   exact⟨x,dx,o,o',q,r,H,rfl,upd_same,hq,hq',Old.new nx ndx,fun H' hq'' kp=>⟨rfl,k x H' ((Old.new (C:=cl (jk true)) (fs:=[]) nx ndx).then kp) hq''⟩⟩
  |eit q r=>
   replace hW:W=Str.ofString "either":=hW
   subst hW
   obtain⟨v0,r0,rfl,h0,t0⟩:=hv.inv
   obtain⟨v1,r1,rfl,h1,t1⟩:=t0.inv
   obtain rfl:=t1.inv0
   obtain⟨o,rfl,hq⟩:=h0
   obtain⟨o',rfl,hq'⟩:=h1
   refine⟨_,rfl,rfl,_,rfl,iteFK (by decide +kernel) ⟨_,rfl,rfl,_,rfl,iteFK (by decide +kernel) ⟨_,rfl,rfl,_,rfl,iteFK (by decide +kernel) ⟨_,rfl,rfl,_,rfl,iteFK (by decide +kernel) ⟨_,rfl,rfl,_,rfl,iteFK (by decide +kernel) ⟨_,rfl,rfl,_,rfl,iteFK (by decide +kernel) ⟨_,rfl,rfl,_,rfl,iteTK (by decide +kernel) ?_⟩⟩⟩⟩⟩⟩⟩
   refine⟨_,rfl,l,_,_,_,rfl,rfl,SqL.of hL,rfl,_,rfl,l,_,_,_,rfl,rfl,SqL.of hL,rfl,fun x dx nx ndx nex=>?_⟩
   exact⟨x,dx,o,o',q,r,H,rfl,upd_same,hq,hq',Old.new nx ndx,fun H' hq'' kp=>⟨rfl,k x H' ((Old.new (C:=cl (jk false)) (fs:=[]) nx ndx).then kp) hq''⟩⟩
  |non q=>
   replace hW:W=Str.ofString "not":=hW
   subst hW
   obtain⟨v0,r0,rfl,h0,t0⟩:=hv.inv
   obtain rfl:=t0.inv0
   obtain⟨o,rfl,hq⟩:=h0
   refine⟨_,rfl,rfl,_,rfl,iteFK (by decide +kernel) ⟨_,rfl,rfl,_,rfl,iteFK (by decide +kernel) ⟨_,rfl,rfl,_,rfl,iteFK (by decide +kernel) ⟨_,rfl,rfl,_,rfl,iteFK (by decide +kernel) ⟨_,rfl,rfl,_,rfl,iteFK (by decide +kernel) ⟨_,rfl,rfl,_,rfl,iteFK (by decide +kernel) ⟨_,rfl,rfl,_,rfl,iteFK (by decide +kernel) ?_⟩⟩⟩⟩⟩⟩⟩
   refine⟨_,rfl,l,_,_,_,rfl,rfl,SqL.of hL,rfl,fun x dx nx ndx nex=>?_⟩
   exact⟨x,dx,o,q,H,rfl,upd_same,hq,Old.new nx ndx,fun H' hq' kp=>⟨rfl,k x H' ((Old.new (C:=cl .non) (fs:=[]) nx ndx).then kp) hq'⟩⟩
end
end QL
namespace QL
open PySem L2
def QSame (H H':Hp):Prop:=(∀b xs,H b=some (.tup xs)->H' b=some (.tup xs))/\∀b C dx fs,H b=some (.ins C dx fs)->H' b=some (.ins C dx fs)
theorem QSame.upd {H:Hp}{l:Addr}{us vs:List V}(h:H l=some (.lst us)):QSame H (upd H l (.lst vs)):=by
 refine⟨fun b xs e=>?_,fun b C dx fs e=>?_⟩
 ·rw[upd_ne fun z=>by rw[z,h] at e;cases e]
  exact e
 ·rw[upd_ne fun z=>by rw[z,h] at e;cases e]
  exact e
theorem FarAt.qs {C:Addr}{H H':Hp}{p:Addr}{F I G J:Int}{R:Nat}(h:FarAt C H p F I G J R)(s:QSame H H'):FarAt C H' p F I G J R:=by
 obtain⟨dx,a,b,fs,h1,h2,h3,h4,h5,h6,h7⟩:=h
 exact⟨dx,a,b,fs,s.2 _ _ _ _ h1,h2,h3,h4,h5,s.1 _ _ h6,s.1 _ _ h7⟩
theorem QAt.qs {cl:Kd->Addr}{H H':Hp}(s:QSame H H'):∀{q:Qn} {p:Addr},QAt cl H q p->QAt cl H' q p
 |.row _,_,⟨dx,fs,h1,h2,h3⟩=>⟨dx,fs,s.2 _ _ _ _ h1,h2,h3⟩
 |.wit _ _ _,_,⟨dx,a,fs,h1,h2,h3,h4,h5⟩=>⟨dx,a,fs,s.2 _ _ _ _ h1,h2,h3,h4,s.1 _ _ h5⟩
 |.beh _ _ _ _ _,_,h=>FarAt.qs h s
 |.ahd _ _ _ _ _,_,h=>FarAt.qs h s
 |.tim _ _ _,_,⟨dx,fs,c,h1,h2,h3,h4,h5,h6⟩=>⟨dx,fs,c,s.2 _ _ _ _ h1,h2,h3,h4,h5,QAt.qs s h6⟩
 |.bot _ _,_,⟨dx,fs,c,e,h1,h2,h3,h4,h5,h6⟩=>⟨dx,fs,c,e,s.2 _ _ _ _ h1,h2,h3,h4,QAt.qs s h5,QAt.qs s h6⟩
 |.eit _ _,_,⟨dx,fs,c,e,h1,h2,h3,h4,h5,h6⟩=>⟨dx,fs,c,e,s.2 _ _ _ _ h1,h2,h3,h4,QAt.qs s h5,QAt.qs s h6⟩
 |.non _,_,⟨dx,fs,c,h1,h2,h3,h4⟩=>⟨dx,fs,c,s.2 _ _ _ _ h1,h2,h3,QAt.qs s h4⟩
theorem PaVal.qs {cl:Kd->Addr}{H H':Hp}(s:QSame H H'):∀{pa:Pa} {v:V},PaVal cl H pa v->PaVal cl H' pa v
 |.num _ _,_,h=>h
 |.wrd _,_,h=>h
 |.que _,_,⟨o,h1,h2⟩=>⟨o,h1,QAt.qs s h2⟩
theorem ValAt.qs {cl:Kd->Addr}{H H':Hp}(s:QSame H H'){ps:List Pa}{vs:List V}(h:ValAt cl H ps vs):ValAt cl H' ps vs:=by
 induction h with
 |nil=>exact .nil
 |cons h t ih=>exact .cons (h.qs s) ih
def spQt (cl:Kd->Addr)(d:Nat):Sp:=fun vs H Q _=>∃(q:Qn) (l:Addr) (i:Nat) (wi:Bool) (ps rest:List Str),vs=[.ref l,.int i,.bl wi]/\H l=some (.lst (ps.map V.str))/\ps.length<=1000/\q.Ok2 wi/\q.dep<d/\ps.drop i=q.pcs++rest/\i+q.pcs.length<=40∧
 ∀(t o:Addr) (H':Hp),Same H H'->QAt cl H' q o->H' t=some (.tup [.ref o,.int ((i+q.pcs.length:Nat):Int)])->Q (.ref t) H'
def spPt (cl:Kd->Addr)(d:Nat):Sp:=fun vs H Q _=>∃(pa:Pa) (l:Addr) (i:Nat) (wi:Bool) (ps rest:List Str),vs=[.str pa.kind,.ref l,.int i,.bl wi]/\H l=some (.lst (ps.map V.str))/\ps.length<=1000/\pa.Ok2 wi/\pa.dep<=d/\ps.drop i=pa.pcs++rest/\i+pa.pcs.length<=40∧
 ∀(t:Addr) (v:V) (H':Hp),Same H H'->PaVal cl H' pa v->H' t=some (.tup [v,.int ((i+pa.pcs.length:Nat):Int)])->Q (.ref t) H'
def spQo (cl:Kd->Addr)(d:Nat):Sp:=fun vs H Q _=>∃q:Qn,vs=[.str q.tx]/\q.Ok2 false/\q.dep<d/\q.pcs.length<=40/\∀(o:Addr) (H':Hp),Same H H'->QAt cl H' q o->Q (.ref o) H'
theorem drop_at {α:Type}{ps:List α}{i:Nat}{x:α}{r:List α}(h:ps.drop i=x::r):ps[i]?=some x:=by
 have:=List.getElem?_drop (xs:=ps) (i:=i) (j:=0)
 rw[h,Nat.add_zero] at this
 exact this.symm
section
variable {P:Program} {w:World} {K:W.Frag} {mg:Str->Option Value} {base:Heap} {cl:Kd->Addr}
theorem scPt:FnScope ["kind","pieces","at","within","value"] ["kind","pieces","at","within"] (defScope sPt):=.of (by decide +kernel)
theorem ok_pt {d:Nat}(F:Fun K "part_at" "part_at" sPt f fd)
  (FP:Fun K "piece_at" "piece_at" sPi fP dP) (bP:Binds K dP ["pieces","at"] []) (gP:mg "piece_at"=some (.ref fP)) (GP:FnOk P w K mg base CX0 1 fP dP ["pieces","at"] spPi)
  (FV:Fun K "value_of" "value_of" sVo fV dV) (bV:Binds K dV ["kind","piece"] []) (gV:mg "value_of"=some (.ref fV)) (GV:FnOk P w K mg base CX0 6 fV dV ["kind","piece"] spVo)
  (FQ:Fun K "question_at" "question_at" sQt fQ dQ) (bQ:Binds K dQ ["pieces","at","within"] []) (gQ:mg "question_at"=some (.ref fQ)) (GQ:FnOk P w K mg base CX0 (2*d+7) fQ dQ ["pieces","at","within"] (spQt cl d)):
  FnOk P w K mg base CX0 (2*d+8) f fd ["kind","pieces","at","within"] (spPt cl d):=by
 refine F.ok (k:=2*d+7) scPt (fun vs H Q E h=>?_) (fun cdv A outer s H vs Q E hr h=>?_)
 ·obtain⟨pa,l,i,wi,ps,rest,rfl,_⟩:=h
  rfl
 ·obtain⟨pa,l,i,wi,ps,rest,rfl,hL,hz,hok,hd,hps,h40,k⟩:=h
  have hr1:Room 1 _:=hr.mono (by omega)
  have hr6:Room 6 _:=hr.mono (by omega)
  refine⟨_,pss_cons (ps_if (pt_cmpR op_eq (pv 0) pe_str (nomark _)) (pss_one (ps_ret (pe_call GQ hr rfl gQ FQ.kp bQ .nil pass0 (pa_cons (pv 1) (pa_cons (pv 2) (pa_cons (pv 3) pa_nil)))))) pss_nil)
   (pss_cons (ps_set (i:=4) scPt.nd rfl (Or.inl rfl) (pe_call GV hr6 rfl gV FV.kp bV .nil pass0 (pa_cons (pv 0) (pa_cons (pe_call GP hr1 rfl gP FP.kp bP .nil pass0 (pa_cons (pv 1) (pa_cons (pv 2) pa_nil))) pa_nil))))
   (pss_cons (ps_if (pt_cmp (pc_isN (pv 4))) pss_never pss_nil)
   (pss_one (ps_ret (pe_tup (pa_cons (pv 4) (pa_cons (pe_op op_add (pv 2) pe_int) pa_nil))))))),?_⟩
  cases pa with
  |que q=>
   refine⟨_,rfl,rfl,_,rfl,iteTK (by show decide (V.str (Str.ofString "question")=V.str (Str.ofString "question"))=true;decide +kernel) ?_⟩
   refine⟨_,rfl,_,rfl,_,rfl,q,l,i,wi,ps,rest,rfl,hL,hz,hok,hd,hps,h40,fun t o H' s1 hq ht=>?_⟩
   exact k t (.ref o) H' s1 ⟨o,rfl,hq⟩ ht
  |num kk n=>
   have hn:kk.lo<=n/\n<=kk.hi:=hok
   have hps':ps.drop i=nS n::rest:=hps
   have h40':i+1<=40:=h40
   refine⟨_,rfl,rfl,_,rfl,iteFK (by show decide (V.str kk.str=V.str (Str.ofString "question"))=false;cases kk<;>decide +kernel) ?_⟩
   refine⟨_,rfl,_,rfl,_,rfl,l,i,ps,nS n,rfl,hL,hz,by omega,drop_at hps',.inl ⟨kk,n,rfl,hn.1,hn.2,fun H1 s1=>?_⟩⟩
   refine⟨_,rfl,_,rfl,iteF ?_⟩
   refine⟨_,rfl,_,rfl,_,_,rfl,rfl,(by show 2<=sizeLine;decide),fun t ht=>?_⟩
   exact k t (.int n) _ (s1.upd_free (s1.free ht)) rfl upd_same
  |wrd W=>
   have hW:SL.Wd W:=hok
   have hps':ps.drop i=W::rest:=hps
   have h40':i+1<=40:=h40
   refine⟨_,rfl,rfl,_,rfl,iteFK (by show decide (V.str (Str.ofString "word")=V.str (Str.ofString "question"))=false;decide +kernel) ?_⟩
   refine⟨_,rfl,_,rfl,_,rfl,l,i,ps,W,rfl,hL,hz,by omega,drop_at hps',.inr ⟨W,rfl,hW,fun H1 s1=>?_⟩⟩
   refine⟨_,rfl,_,rfl,iteF ?_⟩
   refine⟨_,rfl,_,rfl,_,_,rfl,rfl,(by show 2<=sizeLine;decide),fun t ht=>?_⟩
   exact k t (.str W) _ (s1.upd_free (s1.free ht)) rfl upd_same
theorem scQt:FnScope ["pieces","at","within","word","parts","behind","kind","told"] ["pieces","at","within"] (defScope sQt):=.of (by decide +kernel)
theorem wit_times (wi:Bool)(q:Qn):(wi||decide (V.str q.word=V.str (Str.ofString "times")))=q.wit' wi:=by
 cases wi<;>cases q<;>rfl
theorem parts_cut {q:Qn}{j:Nat}{pa:Pa}(h:q.parts[j]?=some pa):q.parts.flatMap Pa.pcs=(q.parts.take j).flatMap Pa.pcs++(pa.pcs++(q.parts.drop (j+1)).flatMap Pa.pcs):=by
 have hj:=(List.getElem?_eq_some_iff.mp h).1
 have e:q.parts=q.parts.take j++pa::q.parts.drop (j+1):=by
  have h2:q.parts.drop j=pa::q.parts.drop (j+1):=by
   rw[List.drop_eq_getElem_cons hj,(List.getElem?_eq_some_iff.mp h).2]
  rw[<- h2,List.take_append_drop]
 have e2:=congrArg (List.flatMap Pa.pcs) e
 rw[List.flatMap_append,List.flatMap_cons] at e2
 exact e2
theorem ok_qt {as:Kd->Addr}(F:Fun K "question_at" "question_at" sQt f fd)(bF:Binds K fd ["pieces","at","within"] [])(gF:mg "question_at"=some (.ref f))(TT:TK w K mg aK aL aG as)
  (FP:Fun K "piece_at" "piece_at" sPi fP dP) (bP:Binds K dP ["pieces","at"] []) (gP:mg "piece_at"=some (.ref fP)) (GP:FnOk P w K mg base CX0 1 fP dP ["pieces","at"] spPi)
  (FV:Fun K "value_of" "value_of" sVo fV dV) (bV:Binds K dV ["kind","piece"] []) (gV:mg "value_of"=some (.ref fV)) (GV:FnOk P w K mg base CX0 6 fV dV ["kind","piece"] spVo)
  (FA:Fun K "part_at" "part_at" sPt fA dA) (bA:Binds K dA ["kind","pieces","at","within"] []) (gA:mg "part_at"=some (.ref fA))
  (FM:Fun K "made" "made" sMd fM dM) (bM:Binds K dM ["word","parts"] []) (gM:mg "made"=some (.ref fM)) (GM:FnOk P w K mg base CX0 3 fM dM ["word","parts"] (spMd cl)):
  ∀d:Nat,FnOk P w K mg base CX0 (2*d+7) f fd ["pieces","at","within"] (spQt cl d)
 |0=>vac fun vs H Q E h=>by
  obtain⟨q,l,i,wi,ps,rest,_,_,_,_,hd,_⟩:=h
  exact Nat.not_lt_zero _ hd
 |d+1=>by
  have GQ:FnOk P w K mg base CX0 (2*d+7) f fd ["pieces","at","within"] (spQt cl d):=ok_qt F bF gF TT FP bP gP GP FV bV gV GV FA bA gA FM bM gM GM d
  have GA:FnOk P w K mg base CX0 (2*d+8) fA dA ["kind","pieces","at","within"] (spPt cl d):=ok_pt FA FP bP gP GP FV bV gV GV F bF gF GQ
  refine F.ok (k:=2*d+8) scQt (fun vs H Q E h=>?_) (fun cdv A outer s H vs Q E hr h=>?_)
  ·obtain⟨q,l,i,wi,ps,rest,rfl,_⟩:=h
   rfl
  ·obtain⟨q,l,i,wi,ps,rest,rfl,hL,hz,hok,hd,hps,h40,k⟩:=h
   have hr1:Room 1 _:=hr.mono (by omega)
   have hr3:Room 3 _:=hr.mono (by omega)
   refine⟨_,pss_cons (ps_set (i:=3) scQt.nd rfl (Or.inl rfl) (pe_call GP hr1 rfl gP FP.kp bP .nil pass0 (pa_cons (pv 0) (pa_cons (pv 1) pa_nil))))
    (pss_cons (ps_if (pt_cut (PW.pt (pw_or (pt_cmp (pc_knotin (pv 3) (pe_glob (v:=.ref aK) (by rfl) TT.gK rfl))) (pw_or1 (PW.pt (pw_and (pt_val (pv 2)) (pw_and1 (pt_cmpR op_eq (pv 3) pe_str (nomark _))))))))) pss_never pss_nil)
    (pss_cons (ps_set (i:=4) scQt.nd rfl (Or.inl rfl) (pe_lst pa_nil))
    (pss_cons (ps_set (i:=5) scQt.nd rfl (Or.inl rfl) (pe_op op_add (pv 1) pe_int))
    (pss_cons (ps_for PassesOwn.never rfl (pi_tup (pe_kget (pe_glob (v:=.ref aK) (by rfl) TT.gK rfl) (pv 3) (fun _ _=>rfl))) (pg_name (i:=6) scQt.nd rfl (Or.inl rfl))
     (pss_cons (ps_cut (ps_set (i:=7) scQt.nd rfl (Or.inl rfl) (pe_call GA hr rfl gA FA.kp bA .nil pass0 (pa_cons (pv 6) (pa_cons (pv 0) (pa_cons (pv 5) (pa_cons (pe_or (pv 2) (pe_one (pe_cmpR op_eq (pv 3) pe_str (nomark _)))) pa_nil)))))))
     (pss_cons (ps_expr (pe_bm PySem.F.plainAttrs_list PySem.F.slot_list_append PySem.F.type_list_append mt_append (pv 4) (pa_cons (pe_ix ix_tup (pv 7) pe_int (fun _ _=>rfl)) pa_nil)))
     (pss_one (ps_set (i:=5) scQt.nd rfl (Or.inl rfl) (pe_ix ix_tup (pv 7) pe_int (fun _ _=>rfl)))))))
    (pss_one (ps_ret (pe_tup (pa_cons (pe_call GM hr3 rfl gM FM.kp bM .nil pass0 (pa_cons (pv 3) (pa_cons (pv 4) pa_nil))) (pa_cons (pv 5) pa_nil))))))))),?_⟩
   have hps2:=hps
   rw[pcs_eq,List.cons_append] at hps2
   have hpos:=pcs_pos q
   refine⟨_,rfl,_,rfl,l,i,ps,q.word,rfl,hL,hz,by omega,drop_at hps2,?_⟩
   refine⟨fun b' H'=>b'=false/\H'=H,?_,?_⟩
   ·refine⟨_,rfl,aK,kindsT as,q.word,rfl,rfl,TT.dK,_,rfl,?_⟩
    rw[kinds_at]
    refine iteF ?_
    cases wi with
    |false=>exact⟨_,rfl,false,rfl,iteF ⟨rfl,rfl⟩⟩
    |true=>
     refine⟨_,rfl,true,rfl,iteT ⟨_,rfl,rfl,_,rfl,?_⟩⟩
     refine⟨?_,rfl⟩
     cases q with
     |tim a b c=>exact absurd hok.1 (by decide)
     |_=>rfl
   rintro b' H' ⟨rfl,rfl⟩
   refine iteF ?_
   refine⟨(by show 0<=sizeLine;decide),fun lp hlp=>?_⟩
   have s1:Same H' (upd H' lp (.lst [])):=(Same.refl H').upd_free hlp
   refine⟨_,rfl,_,_,rfl,rfl,?_⟩
   refine⟨_,rfl,aK,kindsT as,q.word,_,rfl,rfl,TT.dK,kinds_at as q,as q.kd,rfl,?_⟩
   have sq:∀H3:Hp,SqT K H3 (as q.kd) ((q.parts.map Pa.kind).map V.str):=fun H3=>by
    rw[<- kinds_eq]
    exact .inr (TT.tup q.kd)
   refine⟨⟨_,sq _⟩,?_⟩
   refine for_tup (K:=K) (a:=as q.kd) (xs:=(q.parts.map Pa.kind).map V.str) (fun j σ H3=>∃(us:List V) (kd td:Option V),Same H' H3/\H3 lp=some (.lst us)/\ValAt cl H3 (q.parts.take j) us∧
     σ=[some (.ref l),some (.int i),some (.bl wi),some (.str q.word),some (.ref lp),some (.int ((i+1+((q.parts.take j).flatMap Pa.pcs).length:Nat):Int)),kd,td])
    ⟨[],none,none,s1,upd_same,.nil,rfl⟩ (fun j σ H3 _ _=>sq H3) ?_ ?_
   ·rintro j x σ H3 hx ⟨us,kd,td,s3,hLp,hv,rfl⟩
    rw[List.getElem?_map,List.getElem?_map] at hx
    cases hpa:q.parts[j]? with
    |none=>rw[hpa] at hx;cases hx
    |some pa=>
     rw[hpa] at hx
     cases hx
     have hmem:=List.mem_of_getElem? hpa
     have hcut:=parts_cut hpa
     have hlen:q.pcs.length=1+(((q.parts.take j).flatMap Pa.pcs).length+(pa.pcs.length+((q.parts.drop (j+1)).flatMap Pa.pcs).length)):=by
      rw[pcs_eq,List.length_cons,hcut,List.length_append,List.length_append]
      omega
     have hdrop:ps.drop (i+1+((q.parts.take j).flatMap Pa.pcs).length)=pa.pcs++((q.parts.drop (j+1)).flatMap Pa.pcs++rest):=by
      rw[Nat.add_assoc,<- List.drop_drop,hps2,hcut,Nat.add_comm 1,List.drop_succ_cons,List.append_assoc,List.drop_left' rfl,List.append_assoc]
     have hpd:pa.dep<=d:=Nat.le_trans (parts_dep q pa hmem) (Nat.le_of_lt_succ hd)
     have hpo:∀b:Bool,b=q.wit' wi->pa.Ok2 b:=fun b hb=>by
      rw[hb]
      exact parts_ok hok pa hmem
     refine⟨fun σ' H4=>∃(t:Addr) (v:V),Same H3 H4/\PaVal cl H4 pa v/\H4 t=some (.tup [v,.int ((i+1+((q.parts.take j).flatMap Pa.pcs).length+pa.pcs.length:Nat):Int)])∧
      σ'=[some (.ref l),some (.int i),some (.bl wi),some (.str q.word),some (.ref lp),some (.int ((i+1+((q.parts.take j).flatMap Pa.pcs).length:Nat):Int)),some (.str pa.kind),some (.ref t)],?_,?_⟩
     ·refine⟨_,rfl,_,rfl,_,rfl,_,rfl,wi,rfl,?_⟩
      cases wi with
      |true=>exact iteT ⟨pa,l,_,_,ps,_,rfl,s3 _ _ hL,hz,hpo _ (wit_times true q),hpd,hdrop,by omega,fun t v H4 s4 hv4 ht=>⟨t,v,s4,hv4,ht,rfl⟩⟩
      |false=>exact iteF ⟨_,rfl,rfl,pa,l,_,_,ps,_,rfl,s3 _ _ hL,hz,hpo _ (wit_times false q),hpd,hdrop,by omega,fun t v H4 s4 hv4 ht=>⟨t,v,s4,hv4,ht,rfl⟩⟩
     rintro σ' H4 ⟨t,v,s4,hv4,ht,rfl⟩
     have hL4:=s4 _ _ hLp
     have hul:us.length<=5:=by
      rw[hv.len,List.length_take]
      have:=parts_le q
      omega
     refine⟨_,rfl,.inl ⟨rfl,_,SqL.of hL4⟩,_,rfl,t,_,_,_,rfl,rfl,SqT.of ht,rfl,lp,us,v,rfl,rfl,hL4,small1000 (by omega),?_⟩
     have qs:=QSame.upd (vs:=us++[v]) hL4
     refine⟨_,rfl,t,_,_,_,rfl,rfl,SqT.of (qs.1 _ _ ht),rfl,us++[v],some (.str pa.kind),some (.ref t),(s3.trans s4).upd_free hlp,upd_same,?_,?_⟩
     ·rw[List.take_add_one,hpa]
      exact((hv.same s4).snoc hv4).qs qs
     ·rw[List.take_add_one,hpa,List.flatMap_append,List.length_append]
      have e:(List.flatMap Pa.pcs (some pa).toList).length=pa.pcs.length:=by simp
      rw[e,<- Nat.add_assoc (i+1)]
      rfl
   ·rintro σ H3 ⟨us,kd,td,s3,hLp,hv,rfl⟩
    have el:((q.parts.map Pa.kind).map V.str).length=q.parts.length:=by rw[List.length_map,List.length_map]
    rw[el,List.take_length] at hv ⊢
    refine⟨_,rfl,_,rfl,q.word,lp,q,us,rfl,rfl,hLp,hv,fun o H4 s4 hq=>?_⟩
    refine⟨_,rfl,(by show 2<=sizeLine;decide),fun t ht=>?_⟩
    have s5:Same H4 (upd H4 t (.tup [.ref o,.int ((i+1+(q.parts.flatMap Pa.pcs).length:Nat):Int)])):=(Same.refl H4).upd_free ht
    refine k t o _ ((s3.trans s4).trans s5) (QAt.same s5 hq) ?_
    rw[upd_same,pcs_eq q,List.length_cons]
    have e:i+1+(q.parts.flatMap Pa.pcs).length=i+((q.parts.flatMap Pa.pcs).length+1):=by omega
    rw[e]
theorem scQo:FnScope ["text","pieces","told"] ["text"] (defScope sQo):=.of (by decide +kernel)
theorem ok_qo {d:Nat}(F:Fun K "question_of" "question_of" sQo f fd)(T:Txt mg)
  (FQ:Fun K "question_at" "question_at" sQt fQ dQ) (bQ:Binds K dQ ["pieces","at","within"] []) (gQ:mg "question_at"=some (.ref fQ)) (GQ:FnOk P w K mg base CX0 (2*d+7) fQ dQ ["pieces","at","within"] (spQt cl d)):
  FnOk P w K mg base CX0 (2*d+8) f fd ["text"] (spQo cl d):=by
 refine F.ok (k:=2*d+7) scQo (fun vs H Q E h=>?_) (fun cdv A outer s H vs Q E hr h=>?_)
 ·obtain⟨q,rfl,_⟩:=h
  rfl
 ·obtain⟨q,rfl,hok,hd,h40,k⟩:=h
  refine⟨_,pss_cons (ps_set (i:=1) scQo.nd rfl (Or.inl rfl) (pe_bm PySem.F.plainAttrs_str PySem.F.slot_str_split PySem.F.type_str_split mt_split (pv 0) (pa_cons pe_str pa_nil)))
   (pss_cons (ps_set (i:=2) scQo.nd rfl (Or.inl rfl) (pe_call GQ hr rfl gQ FQ.kp bQ .nil pass0 (pa_cons (pv 1) (pa_cons pe_int (pa_cons pe_bl pa_nil)))))
   (pss_cons (ps_if (pt_cmpR op_lt (pe_ix ix_tup (pv 2) pe_int (fun _ _=>rfl)) (pe_callB call_len_seq (by rfl) T.len PySem.boot_len (pa_cons (pv 1) pa_nil)) (nomark _)) pss_never pss_nil)
   (pss_one (ps_ret (pe_ix ix_tup (pv 2) pe_int (fun _ _=>rfl)))))),?_⟩
  have hsp:Txt.split q.tx (Str.ofString " ")=q.pcs:=split_tx hok
  have htl:q.tx.length<=3000:=by
   have:=(join_tx (n:=60) (m:=1) SP ⟨Nat.le_refl 1,fun c hc=>by
    have:c=32:=by simpa [SP] using hc
    omega⟩ (ys:=q.pcs) fun x hx=>(pcs_tn hok x hx).tx).1
   have h2:q.pcs.length*61<=40*61:=Nat.mul_le_mul_right _ h40
   unfold Qn.tx
   omega
  have l2:=parts_len q.tx (Str.ofString " ")
  refine⟨_,rfl,rfl,q.tx,Str.ofString " ",rfl,rfl,rfl,Nat.le_of_lt (small9 (by omega)),Nat.le_of_lt (small9 (by omega)),by rw[hsp];exact Nat.le_of_lt (small9 (by omega)),fun l hl=>?_⟩
  rw[hsp]
  have s1:Same H (upd H l (.lst (q.pcs.map V.str))):=(Same.refl H).upd_free hl
  refine⟨_,rfl,q,l,0,false,q.pcs,[],rfl,upd_same,by omega,hok,hd,by rw[List.append_nil];rfl,by omega,fun t o H2 s2 hq ht=>?_⟩
  refine⟨_,rfl,t,_,_,_,rfl,rfl,SqT.of ht,rfl,_,rfl,l,_,rfl,.inl (SqL.of (s2 _ _ upd_same)),_,_,rfl,rfl,_,rfl,?_⟩
  refine iteFK (decide_eq_false (by rw[List.length_map];omega)) ?_
  exact⟨_,rfl,t,_,_,_,rfl,rfl,SqT.of ht,rfl,k o H2 (s1.trans s2) hq⟩
end
end QL
namespace QL
open PySem L2
def spGa:Sp:=fun vs H Q _=>∃(q z:Addr) (e:Ent) (F I:Int),vs=[.ref q,.int F,.int I]/\H q=some (.tup [.int e.1,.ref z])/\H z=some (.tup (e.2.map V.str))/\0<=I/\∀(l:Addr) (H':Hp),Same H H'->H' l=some (.lst (lO (gapO e F I)))->Q (.ref l) H'
section
variable {P:Program} {w:World} {K:W.Frag} {mg:Str->Option Value} {base:Heap}
theorem scGa:FnScope ["_law_entry_here","_law_letter","_law_gap_here"] ["_law_entry_here","_law_letter","_law_gap_here"] (defScope sGa):=.of (by decide +kernel)
theorem ok_ga (F:Fun K "_law_gap" "_law_gap" sGa f fd)(T:Txt mg):FnOk P w K mg base CX0 1 f fd ["_law_entry_here","_law_letter","_law_gap_here"] spGa:=by
 refine F.ok scGa (fun vs H Q E h=>?_) (fun cdv A outer s H vs Q E hr h=>?_)
 ·obtain⟨q,z,e,F,I,rfl,_⟩:=h
  rfl
 ·obtain⟨q,z,e,F,I,rfl,hq,hz,i0,k⟩:=h
  refine⟨_,pss_cons (ps_if (PW.pt (pw_and (pt_cmpR op_eq (pe_ix ix_tup (pv 0) pe_int (fun _ _=>rfl)) (pv 1) (nomark _))
    (pw_and1 (pt_cmpR op_lt (pv 2) (pe_callB call_len_seq (by rfl) T.len PySem.boot_len (pa_cons (pe_ix ix_tup (pv 0) pe_int (fun _ _=>rfl)) pa_nil)) (nomark _))))) (pss_one (ps_ret (pe_lst (pa_cons (pe_ix ix_tup (pe_ix ix_tup (pv 0) pe_int (fun _ _=>rfl)) (pv 2) (fun _ _=>rfl)) pa_nil)))) pss_nil)
   (pss_one (ps_ret (pe_lst pa_nil))),?_⟩
  refine⟨_,rfl,q,_,_,_,rfl,rfl,SqT.of hq,rfl,_,rfl,rfl,_,rfl,?_⟩
  unfold gapO at k
  have nil:gapO e F I=none->∀l,H l=none->Q (.ref l) (upd H l (.lst [])):=fun hg l hl=>by
   unfold gapO at hg
   rw[hg] at k
   exact k l _ ((Same.refl H).upd_free hl) upd_same
  by_cases hF:e.1=F
  ·rw[if_pos hF] at k
   rw[decide_eq_true (by rw[hF])]
   refine iteT ?_
   refine⟨_,rfl,_,rfl,q,_,_,_,rfl,rfl,SqT.of hq,rfl,z,_,rfl,.inr (SqT.of hz),_,_,rfl,rfl,_,rfl,?_⟩
   rw[List.length_map]
   by_cases hlt:I<(e.2.length:Int)
   ·rw[decide_eq_true hlt]
    refine iteT ?_
    obtain⟨x,ex⟩:=some_at e.2 I i0 hlt
    rw[ex] at k
    refine⟨_,rfl,q,_,_,_,rfl,rfl,SqT.of hq,rfl,_,rfl,z,_,_,_,rfl,rfl,SqT.of hz,atI_int i0 (by rw[List.getElem?_map,ex];rfl),(by show 1<=sizeLine;decide),fun l hl=>?_⟩
    exact k l _ ((Same.refl H).upd_free hl) upd_same
   ·rw[decide_eq_false hlt]
    refine iteF ?_
    refine⟨Nat.zero_le _,nil ?_⟩
    unfold gapO
    rw[if_pos hF,List.getElem?_eq_none (by omega)]
  ·have ne:¬(V.int e.1=V.int F):=fun z=>hF (by injection z)
   rw[decide_eq_false ne]
   refine iteF (iteF ?_)
   refine⟨Nat.zero_le _,nil ?_⟩
   unfold gapO
   rw[if_neg hF]
end
end QL
namespace QL
open PySem L2
def ToldL (H:Hp)(Q:VK):Option (List Nat)->Prop
 |none=>∀H',Same H H'->Q .non H'
 |some rows=>∀(l:Addr) (H':Hp),Same H H'->H' l=some (.lst (vN rows))->Q (.ref l) H'
def far (ah:Bool)(F I G J:Int)(R:Nat):Qn:=if ah then .ahd F I G J R else .beh F I G J R
def farS (ah:Bool):Str:=if ah then Str.ofString "ahead" else Str.ofString "behind"
def spNe:Sp:=fun vs H Q _=>∃(t p:Addr) (n:Nat) (ah:Bool) (F I G J:Int) (R:Nat) (es:List Ent),vs=[.ref t,.int n,.ref p]/\H p=some (.tup [.str (farS ah),.int F,.int I,.int G,.int J,.int R])/\0<=I/\0<=J/\R<=1000/\LogAt H t es/\es.length<=1000/\(∀e∈es,EOk e)/\n<es.length/\ToldL H Q (foundM es (far ah F I G J R) n)
def spJ (d:Nat):Sp:=fun vs H Q _=>∃(t p:Addr) (n:Nat) (q:Qn) (es:List Ent),vs=[.ref t,.int n,.ref p]/\AAt H q p/\q.dep<d/\q.Ok/\LogAt H t es/\es.length<=1000/\(∀e∈es,EOk e)/\n<es.length/\ToldL H Q (foundM es q n)
def farLo (ah:Bool)(n R:Nat):Nat:=if ah then n-R else n+1
def farHi (ah:Bool)(n R L:Nat):Nat:=if ah then n else min (n+R+1) L
theorem far_rows {es:List Ent}{ah:Bool}{F I G J:Int}{R n:Nat}:foundM es (far ah F I G J R) n=if ah then((rng (farLo ah n R) (farHi ah n R es.length)).filter (behP es n F I G J)).getLast?.map (fun m=>[m,n]) else((rng (farLo ah n R) (farHi ah n R es.length)).filter (behP es n F I G J)).head?.map fun m=>[n,m]:=by
 cases ah with
 |true=>
  show(lstM (behP es n F I G J) (n-R) (n-(n-R))).map _=((rng (n-R) n).filter (behP es n F I G J)).getLast?.map _
  rw[lst_to (filt_lst (behP es n F I G J) (n-R) n)]
 |false=>
  show(fstM (behP es n F I G J) (n+1) (min (n+R+1) es.length-(n+1))).map _=((rng (n+1) (min (n+R+1) es.length)).filter (behP es n F I G J)).head?.map _
  rw[fst_to (filt_fst (behP es n F I G J) (n+1) (min (n+R+1) es.length))]
theorem far_none {es:List Ent}{ah:Bool}{F I G J:Int}{R n:Nat}(h:gapO (es.getD n (0,[])) F I=none):foundM es (far ah F I G J R) n=none:=by
 have e:∀lo hi,(rng lo hi).filter (behP es n F I G J)=[]:=fun lo hi=>by
  rw[List.filter_eq_nil_iff]
  intro m _
  unfold behP
  rw[h]
  exact Bool.false_ne_true
 rw[far_rows,e]
 cases ah<;>rfl
theorem eqv_nil (rows:List Nat):PyData.eqv (.list (rows.map fun(m:Nat)=>PyData.int (m:Int))) (.list [])=decide (rows=[]):=by
 cases rows with
 |nil=>rfl
 |cons a r=>
  rw[List.map_cons,PyData.eqv,PyData.eqvAll]
  rfl
theorem natsL_ok (rows:List Nat):DOk (.list (rows.map fun(m:Nat)=>PyData.int (m:Int))):=by
 have e:(rows.map fun(m:Nat)=>PyData.int (m:Int))=(rows.map fun(m:Nat)=>(m:Int)).map PyData.int:=by
  rw[List.map_map]
  rfl
 rw[e]
 exact intsL_ok _
theorem rng_sucJ (a j:Nat):rng a (a+(j+1))=rng a (a+j)++[a+j]:=by
 unfold rng
 have e1:a+(j+1)-a=(a+j-a)+1:=by omega
 rw[e1,List.range_succ,List.map_append]
 have e2:a+j-a=j:=by omega
 rw[e2]
 rfl
theorem vN_snoc (rows:List Nat)(m:Nat):vN (rows++[m])=vN rows++[V.int (m:Int)]:=by
 unfold vN
 rw[List.map_append]
 rfl
theorem filt_yes {P:Nat->Bool}{a j:Nat}(h:P (a+j)=true):(rng a (a+(j+1))).filter P=(rng a (a+j)).filter P++[a+j]:=by
 rw[rng_sucJ,List.filter_append]
 have e0:[a+j].filter P=[a+j]:=by simp[h]
 rw[e0]
theorem filt_no {P:Nat->Bool}{a j:Nat}(h:P (a+j)=false):(rng a (a+(j+1))).filter P=(rng a (a+j)).filter P:=by
 rw[rng_sucJ,List.filter_append]
 have e0:[a+j].filter P=[]:=by simp[h]
 rw[e0,List.append_nil]
section
variable {P:Program} {w:World} {K:W.Frag} {mg:Str->Option Value} {base:Heap}
theorem scNe:FnScope ["_law_log_here","_law_n","_law_asked","_law_word","_law_first","_law_stop","_law_rows"] ["_law_log_here","_law_n","_law_asked"] (defScope sNe):=.of (by decide +kernel)
def scopeN:Scope:=⟨.function,[(".0",.local),("_law_m",.local),("_law_gap",.globalImplicit),("_law_asked",.free),("_law_log_here",.free),("_law_word",.free)],false,false,[]⟩
theorem scN:BlkScope (defScope sNe) ["_law_log_here","_law_n","_law_asked","_law_word","_law_first","_law_stop","_law_rows"] ["_law_m"] ["_law_log_here","_law_asked","_law_word"] [0,2,3] scopeN:=.of (by decide +kernel)
theorem ok_ne (F:Fun K "_law_near" "_law_near" sNe f fd)(T:Txt mg)(FG:Fun K "_law_gap" "_law_gap" sGa fG fdG)(bG:Binds K fdG ["_law_entry_here","_law_letter","_law_gap_here"] [])(gG:mg "_law_gap"=some (.ref fG)):
  FnOk P w K mg base CX0 2 f fd ["_law_log_here","_law_n","_law_asked"] spNe:=by
 have GG:FnOk P w K mg base CX0 1 fG fdG ["_law_entry_here","_law_letter","_law_gap_here"] spGa:=ok_ga FG T
 refine F.ok scNe (fun vs H Q E h=>?_) (fun cdv A outer s H vs Q E hr h=>?_)
 ·obtain⟨t,p,n,ah,F,I,G,J,R,es,rfl,_⟩:=h
  rfl
 ·obtain⟨t,p,n,ah,F,I,G,J,R,es,rfl,hp,i0,j0,r1,L,l1,hok,hn,k⟩:=h
  have hu:=hr.units
  obtain⟨qs,ht,hE⟩:=id L
  have hql:(qs.map V.ref).length=es.length:=by rw[List.length_map];exact hE.1
  refine⟨_,pss_cons (ps_set (i:=3) scNe.nd rfl (Or.inr rfl) (pe_call GG hr rfl gG FG.kp bG .nil pass0 (pa_cons (pe_ix ix_tup (pv 0) (pv 1) (fun _ _=>rfl)) (pa_cons (pe_ix ix_tup (pv 2) pe_int (fun _ _=>rfl)) (pa_cons (pe_ix ix_tup (pv 2) pe_int (fun _ _=>rfl)) pa_nil)))))
   (pss_cons (ps_if (pt_cmpR (op_eqD hu) (pv 3) (pe_lst pa_nil) (nomark _)) (pss_one (ps_ret pe_non)) pss_nil)
   (pss_cons (ps_set (i:=4) scNe.nd rfl (Or.inl rfl) (pe_op op_add (pv 1) pe_int))
   (pss_cons (ps_set (i:=5) scNe.nd rfl (Or.inl rfl) (pe_callB (call_min2 rfl) (by rfl) T.min PyProof.Rows.boot_min (pa_cons (pe_callB call_len_seq (by rfl) T.len PySem.boot_len (pa_cons (pv 0) pa_nil)) (pa_cons (pe_op op_add (pe_op op_add (pv 1) (pe_ix ix_tup (pv 2) pe_int (fun _ _=>rfl))) pe_int) pa_nil))))
   (pss_cons (ps_cut (ps_if (pt_cmpR op_eq (pe_ix ix_tup (pv 2) pe_int (fun _ _=>rfl)) pe_str (nomark _)) (pss_cons (ps_set (i:=4) scNe.nd rfl (Or.inl rfl) (pe_callB (call_max2 rfl) (by rfl) T.max PyProof.Rows.boot_max (pa_cons pe_int (pa_cons (pe_op op_sub (pv 1) (pe_ix ix_tup (pv 2) pe_int (fun _ _=>rfl))) pa_nil)))) (pss_one (ps_set (i:=5) scNe.nd rfl (Or.inl rfl) (pv 1)))) pss_nil))
   (pss_cons (ps_setlc (i:=6) scN rfl rfl rfl (pi_range2 rfl T.range (pa_cons (pv 4) (pa_cons (pv 5) pa_nil))) (fun fp C s1 H1=>pg_name (i:=0) scN.nd rfl (Or.inl rfl))
    (fun fp C s1 H1=>pts_one (pt_cmpR (r:=rEqD K false) (op_eqD hu) (pe_call GG hr rfl gG FG.kp bG .nil pass0 (pa_cons (pe_ix (r:=rIxT K) ix_tup (pv 1) (pv 0) (fun _ _=>rfl)) (pa_cons (pe_ix (r:=rIxT K) ix_tup (pv 2) pe_int (fun _ _=>rfl)) (pa_cons (pe_ix (r:=rIxT K) ix_tup (pv 2) pe_int (fun _ _=>rfl)) pa_nil)))) (pv 3) (nomark _)))
    (fun fp C s1 H1=>pv 0) scNe.nd rfl rfl rfl)
   (pss_cons (ps_if (pt_cmpR (op_eqD hu) (pv 6) (pe_lst pa_nil) (nomark _)) (pss_one (ps_ret pe_non)) pss_nil)
   (pss_cons (ps_if (pt_cmpR op_eq (pe_ix ix_tup (pv 2) pe_int (fun _ _=>rfl)) pe_str (nomark _)) (pss_one (ps_ret (pe_lst (pa_cons (pe_ix ix_list (pv 6) (pe_un un_neg pe_int) (fun _ _=>rfl)) (pa_cons (pv 1) pa_nil))))) pss_nil)
   (pss_one (ps_ret (pe_lst (pa_cons (pv 1) (pa_cons (pe_ix ix_list (pv 6) pe_int (fun _ _=>rfl)) pa_nil)))))))))))),?_⟩
  obtain⟨q,z,x1,x2,x3⟩:=ent_at hE (i:=(n:Int)) (by omega) (by omega)
  rw[Int.toNat_natCast] at x2 x3
  have okn:=ent_ok hok hn
  refine⟨_,rfl,_,rfl,t,_,_,_,rfl,rfl,SqT.of ht,x1,_,rfl,p,_,_,_,rfl,rfl,SqT.of hp,rfl,_,rfl,p,_,_,_,rfl,rfl,SqT.of hp,rfl,q,z,_,F,I,rfl,x2,x3,i0,fun lw H1 s1 hw=>?_⟩
  refine⟨_,rfl,Nat.zero_le _,fun l0 hl0=>?_⟩
  have s2:Same H1 (upd H1 l0 (.lst [])):=(Same.refl H1).upd_free hl0
  refine⟨_,_,dO_at (s2 _ _ hw),dO_at (a:=none) upd_same,dO_ok (gapO_tx okn),dO_ok (fun x hx=>by cases hx),_,rfl,?_⟩
  rw[show(if false=true then !PyData.eqv (dO (gapO (es.getD n (0,[])) F I)) (dO none) else PyData.eqv (dO (gapO (es.getD n (0,[])) F I)) (dO none))=decide (gapO (es.getD n (0,[])) F I=none) from by rw[if_neg Bool.false_ne_true,dO_eq]]
  generalize hH2:upd H1 l0 (.lst [])=H2 at s2
  have t2:Same H H2:=s1.trans s2
  cases ha:gapO (es.getD n (0,[])) F I with
  |none=>
   rw[far_none ha] at k
   refine iteTK (decide_eq_true rfl) ?_
   exact k H2 t2
  |some wd=>
   have hw2:=s2 _ _ hw
   rw[ha] at hw2
   refine iteFK (decide_eq_false (fun z=>by cases z)) ?_
   refine⟨_,rfl,_,_,rfl,rfl,?_⟩
   refine⟨_,rfl,t,_,rfl,.inr (SqT.of (t2 _ _ ht)),_,rfl,_,rfl,p,_,_,_,rfl,rfl,SqT.of (t2 _ _ hp),rfl,_,_,rfl,rfl,_,_,rfl,rfl,_,_,rfl,?_⟩
   rw[hql]
   refine⟨fun σ' H'=>H'=H2/\σ'=[some (.ref t),some (.int n),some (.ref p),some (.ref lw),some (.int (farLo ah n R:Nat)),some (.int (farHi ah n R es.length:Nat)),none],?_,?_⟩
   ·refine⟨_,rfl,p,_,_,_,rfl,rfl,SqT.of (t2 _ _ hp),rfl,rfl,_,rfl,?_⟩
    cases ah with
    |true=>
     refine iteTK (by decide +kernel) ?_
     refine⟨_,rfl,_,rfl,p,_,_,_,rfl,rfl,SqT.of (t2 _ _ hp),rfl,_,_,rfl,rfl,_,_,rfl,_,rfl,?_⟩
     have hmax:(if (n:Int)-(R:Int) > 0 then(n:Int)-(R:Int) else 0)=((n-R:Nat):Int):=by
      split<;>omega
     rw[hmax]
     exact⟨rfl,rfl⟩
    |false=>
     refine iteFK (by decide +kernel) ?_
     have hmin:(if (n:Int)+(R:Int)+1<(es.length:Int) then(n:Int)+(R:Int)+1 else(es.length:Int))=((min (n+R+1) es.length:Nat):Int):=by
      split<;>omega
     rw[hmin]
     exact⟨rfl,rfl⟩
   rintro σ' H' ⟨rfl,rfl⟩
   have hhi:farHi ah n R es.length<=es.length:=by
    unfold farHi
    cases ah
    ·exact Nat.min_le_right _ _
    ·exact Nat.le_of_lt hn
   have hlo:farLo ah n R<=2000:=by
    unfold farLo
    cases ah
    ·show n+1<=2000
     omega
    ·show n-R<=2000
     omega
   rw[far_rows] at k
   generalize farLo ah n R=lo at k hlo
   generalize farHi ah n R es.length=hi at k hhi
   refine⟨_,rfl,_,rfl,_,_,rfl,⟨by omega,by omega,by omega,by omega⟩,fun D hD=>?_⟩
   refine lc_range (lo:=(lo:Int)) (n:=((hi:Int)-(lo:Int)).toNat) (fun j ys H3=>Same H' H3/\H3 D=some (.lst ys)/\ys=vN ((rng lo (lo+j)).filter (behP es n F I G J))) (Nat.le_of_lt (small1000 (by omega)))
    ⟨(Same.refl H').upd_free hD,upd_same,by rw[rng_nil];rfl⟩ (fun j ys H3 h=>by rw[h.2.2,vN_len];exact Nat.le_trans (List.length_filter_le ..) (by rw[rng_len];omega)) ?_ ?_
   ·rintro j ys H3 N M' hj ⟨u1,u2,rfl⟩ hN hM
    have em:(lo:Int)+(j:Int)=((lo+j:Nat):Int):=by omega
    rw[em]
    have hm:lo+j<es.length:=by omega
    obtain⟨q',z',y1,y2,y3⟩:=ent_at hE (i:=((lo+j:Nat):Int)) (by omega) (by omega)
    rw[Int.toNat_natCast] at y2 y3
    have t3:Same H H3:=t2.trans u1
    have okm:=ent_ok hok hm
    refine⟨_,rfl,_,rfl,t,_,_,_,rfl,rfl,SqT.of (t3 _ _ ht),y1,_,rfl,p,_,_,_,rfl,rfl,SqT.of (t3 _ _ hp),rfl,_,rfl,p,_,_,_,rfl,rfl,SqT.of (t3 _ _ hp),rfl,q',z',_,G,J,rfl,t3 _ _ y2,t3 _ _ y3,j0,fun lg H4 u4 hg=>?_⟩
    refine⟨_,rfl,_,_,dO_at hg,dO_at (u4 _ _ (u1 _ _ hw2)),dO_ok (gapO_tx okm),dO_ok (fun x hx=>gapO_tx okn x (ha.trans hx)),_,rfl,?_⟩
    rw[show(if false=true then !PyData.eqv (dO (gapO (es.getD (lo+j) (0,[])) G J)) (dO (some wd)) else PyData.eqv (dO (gapO (es.getD (lo+j) (0,[])) G J)) (dO (some wd)))=decide (gapO (es.getD (lo+j) (0,[])) G J=some wd) from by rw[if_neg Bool.false_ne_true,dO_eq]]
    have ed:behP es n F I G J (lo+j)=decide (gapO (es.getD (lo+j) (0,[])) G J=some wd):=by
     unfold behP
     rw[ha]
     rfl
    rw[<- ed]
    cases hb:behP es n F I G J (lo+j) with
    |true=>
     refine iteT ⟨_,rfl,?_⟩
     refine hN _ H4 (u4 _ _ u2) ⟨(u1.trans u4).upd_free hD,upd_same,?_⟩
     rw[filt_yes hb,vN_snoc]
    |false=>
     refine iteF (hM H4 ⟨u1.trans u4,u4 _ _ u2,?_⟩)
     rw[filt_no hb]
   ·rintro ys H3 ⟨u1,u2,rfl⟩
    have t3:Same H H3:=t2.trans u1
    have er:rng lo (lo+((hi:Int)-(lo:Int)).toNat)=rng lo hi:=by
     unfold rng
     have e:lo+((hi:Int)-(lo:Int)).toNat-lo=hi-lo:=by omega
     rw[e]
    rw[er] at u2
    generalize hrows:(rng lo hi).filter (behP es n F I G J)=rows at k u2
    refine⟨_,rfl,Nat.zero_le _,fun l1 hl1=>?_⟩
    have u3:Same H3 (upd H3 l1 (.lst [])):=(Same.refl H3).upd_free hl1
    refine⟨_,.list [],.lst (SqL.of (u3 _ _ u2)) (nats_at rows),.lst (SqL.of upd_same) .nil,natsL_ok rows,⟨rfl,by decide⟩,_,rfl,?_⟩
    rw[show(if false=true then !PyData.eqv (.list (rows.map fun(m:Nat)=>PyData.int (m:Int))) (.list []) else PyData.eqv (.list (rows.map fun(m:Nat)=>PyData.int (m:Int))) (.list []))=decide (rows=[]) from by rw[if_neg Bool.false_ne_true,eqv_nil]]
    have t4:=t3.trans u3
    by_cases hnil:rows=[]
    ·subst hnil
     refine iteTK (decide_eq_true rfl) ?_
     have k':ToldL H Q none:=by cases ah<;>exact k
     exact k' _ t4
    ·refine iteFK (decide_eq_false hnil) ?_
     refine⟨_,rfl,p,_,_,_,rfl,rfl,SqT.of (t4 _ _ hp),rfl,rfl,_,rfl,?_⟩
     cases ah with
     |true=>
      refine iteTK (by decide +kernel) ?_
      obtain⟨ini,a,e⟩:∃ini a,rows=ini++[a]:=⟨rows.dropLast,rows.getLast hnil,(List.dropLast_concat_getLast hnil).symm⟩
      subst e
      have k':ToldL H Q (some [a,n]):=by
       have e:(ini++[a]).getLast?=some a:=by simp
       rw[if_pos rfl,e] at k
       exact k
      have el:atI (vN (ini++[a])) (-1)=some (V.int (a:Int)):=by
       rw[vN_snoc]
       exact atI_last _ _
      refine⟨_,rfl,_,rfl,D,_,_,V.int (a:Int),rfl,rfl,SqL.of (u3 _ _ u2),el,_,rfl,(by show 2<=sizeLine;decide),fun l hl=>?_⟩
      exact k' l _ (t4.upd_free (t4.free hl)) upd_same
     |false=>
      refine iteFK (by decide +kernel) ?_
      cases rows with
      |nil=>exact absurd rfl hnil
      |cons a r=>
       have k':ToldL H Q (some [n,a]):=k
       have el:atI (vN (a::r)) 0=some (V.int (a:Int)):=atI_int (Int.le_refl 0) rfl
       refine⟨_,rfl,_,rfl,D,_,_,V.int (a:Int),rfl,rfl,SqL.of (u3 _ _ u2),el,(by show 2<=sizeLine;decide),fun l hl=>?_⟩
       exact k' l _ (t4.upd_free (t4.free hl)) upd_same
end
end QL
namespace QL
open PySem L2
section
variable {P:Program} {w:World} {K:W.Frag} {mg:Str->Option Value} {base:Heap}
theorem scJu:FnScope ["_law_log_here","_law_n","_law_asked","_law_kind","_law_last","_law_rows","_law_one","_law_other"] ["_law_log_here","_law_n","_law_asked"] (defScope sJu):=.of (by decide +kernel)
def scopeJ1:Scope:=⟨.function,[(".0",.local),("_law_m",.local),("_law_judged",.globalImplicit),("_law_asked",.free),("_law_log_here",.free)],false,false,[]⟩
theorem scJ1:BlkScope (defScope sJu) ["_law_log_here","_law_n","_law_asked","_law_kind","_law_last","_law_rows","_law_one","_law_other"] ["_law_m"] ["_law_log_here","_law_asked"] [0,2] scopeJ1:=.of (by decide +kernel)
def scopeJ2:Scope:=⟨.function,[(".0",.local),("_law_m",.local),("_law_one",.free),("_law_other",.free)],false,false,[]⟩
theorem scJ2:BlkScope (defScope sJu) ["_law_log_here","_law_n","_law_asked","_law_kind","_law_last","_law_rows","_law_one","_law_other"] ["_law_m"] ["_law_one","_law_other"] [6,7] scopeJ2:=.of (by decide +kernel)
theorem ok_ju (F:Fun K "_law_judged" "_law_judged" sJu f fd)(b:Binds K fd ["_law_log_here","_law_n","_law_asked"] [])(g:mg "_law_judged"=some (.ref f))(T:Txt mg)
  (FG:Fun K "_law_gap" "_law_gap" sGa fG fdG) (bG:Binds K fdG ["_law_entry_here","_law_letter","_law_gap_here"] []) (gG:mg "_law_gap"=some (.ref fG))
  (FN:Fun K "_law_near" "_law_near" sNe fN fdN) (bN:Binds K fdN ["_law_log_here","_law_n","_law_asked"] []) (gN:mg "_law_near"=some (.ref fN)):
  ∀d:Nat,FnOk P w K mg base CX0 (d+3) f fd ["_law_log_here","_law_n","_law_asked"] (spJ d)
 |0=>vac fun vs H Q E h=>by
  obtain⟨t,p,n,q,es,_,_,hd,_⟩:=h
  exact Nat.not_lt_zero _ hd
 |d+1=>by
  have GJ:FnOk P w K mg base CX0 (d+3) f fd ["_law_log_here","_law_n","_law_asked"] (spJ d):=ok_ju F b g T FG bG gG FN bN gN d
  have GG:FnOk P w K mg base CX0 1 fG fdG ["_law_entry_here","_law_letter","_law_gap_here"] spGa:=ok_ga FG T
  have GN:FnOk P w K mg base CX0 2 fN fdN ["_law_log_here","_law_n","_law_asked"] spNe:=ok_ne FN T FG bG gG
  refine F.ok (k:=d+3) scJu (fun vs H Q E h=>?_) (fun cdv A outer s H vs Q E hr h=>?_)
  ·obtain⟨t,p,n,q,es,rfl,_⟩:=h
   rfl
  ·obtain⟨t,p,n,q,es,rfl,hA,hd,ho,L,l1,hok,hn,k⟩:=h
   have hu:=hr.units
   have hr1:Room 1 _:=hr.mono (by omega)
   have hr2:Room 2 _:=hr.mono (by omega)
   obtain⟨qs,ht,hE⟩:=id L
   have hql:(qs.map V.ref).length=es.length:=by rw[List.length_map];exact hE.1
   refine⟨_,pss_cons (ps_set (i:=3) scJu.nd rfl (Or.inl rfl) (pe_ix ix_tup (pv 2) pe_int (fun _ _=>rfl)))
    (pss_cons (ps_if (pt_cmpR op_eq (pv 3) pe_str (nomark _)) (pss_one (ps_ret (pe_ifExp (pt_cmpR op_eq (pe_ix ix_tup (pe_ix ix_tup (pv 0) (pv 1) (fun _ _=>rfl)) pe_int (fun _ _=>rfl)) (pe_ix ix_tup (pv 2) pe_int (fun _ _=>rfl)) (nomark _)) (pe_lst (pa_cons (pv 1) pa_nil)) pe_non))) pss_nil)
    (pss_cons (ps_if (pt_cmpR op_eq (pv 3) pe_str (nomark _)) (pss_one (ps_ret (pe_ifExp (pt_cmpR (op_eqD hu) (pe_call GG hr1 rfl gG FG.kp bG .nil pass0 (pa_cons (pe_ix ix_tup (pv 0) (pv 1) (fun _ _=>rfl)) (pa_cons (pe_ix ix_tup (pv 2) pe_int (fun _ _=>rfl)) (pa_cons (pe_ix ix_tup (pv 2) pe_int (fun _ _=>rfl)) pa_nil)))) (pe_lst (pa_cons (pe_ix ix_tup (pv 2) pe_int (fun _ _=>rfl)) pa_nil)) (nomark _)) (pe_lst (pa_cons (pv 1) pa_nil)) pe_non))) pss_nil)
    (pss_cons (ps_if (PW.pt (pw_or (pt_cmpR op_eq (pv 3) pe_str (nomark _)) (pw_or1 (pt_cmpR op_eq (pv 3) pe_str (nomark _))))) (pss_one (ps_ret (pe_call GN hr2 rfl gN FN.kp bN .nil pass0 (pa_cons (pv 0) (pa_cons (pv 1) (pa_cons (pv 2) pa_nil)))))) pss_nil)
    (pss_cons (ps_if (pt_cmpR op_eq (pv 3) pe_str (nomark _))
     (pss_cons (ps_set (i:=4) scJu.nd rfl (Or.inl rfl) (pe_callB (call_max2 rfl) (by rfl) T.max PyProof.Rows.boot_max (pa_cons pe_int (pa_cons (pe_op op_add (pe_op op_sub (pv 1) (pe_ix ix_tup (pv 2) pe_int (fun _ _=>rfl))) pe_int) pa_nil))))
     (pss_cons (ps_setlc (i:=5) scJ1 rfl rfl rfl (pi_range2 rfl T.range (pa_cons (pv 4) (pa_cons (pe_op op_add (pv 1) pe_int) pa_nil))) (fun fp C s1 H1=>pg_name (i:=0) scJ1.nd rfl (Or.inl rfl))
      (fun fp C s1 H1=>pts_one (pt_cmp (pc_notN (pe_call GJ hr rfl g F.kp b .nil pass0 (pa_cons (pv 1) (pa_cons (pv 0) (pa_cons (pe_ix (r:=rIxT K) ix_tup (pv 2) pe_int (fun _ _=>rfl)) pa_nil))))))) (fun fp C s1 H1=>pv 0) scJu.nd rfl rfl rfl)
     (pss_one (ps_ret (pe_ifExp (PW.pt (pw_and (pt_cmpR (op_inD hu) (pv 1) (pv 5) (by with_unfolding_all rfl)) (pw_and1 (pt_cmpR op_ge (pe_callB call_len_seq (by rfl) T.len PySem.boot_len (pa_cons (pv 5) pa_nil)) (pe_ix ix_tup (pv 2) pe_int (fun _ _=>rfl)) (nomark _))))) (pv 5) pe_non))))) pss_nil)
    (pss_cons (ps_set (i:=6) scJu.nd rfl (Or.inr rfl) (pe_call GJ hr rfl g F.kp b .nil pass0 (pa_cons (pv 0) (pa_cons (pv 1) (pa_cons (pe_ix ix_tup (pv 2) pe_int (fun _ _=>rfl)) pa_nil)))))
    (pss_cons (ps_if (pt_cmpR op_eq (pv 3) pe_str (nomark _)) (pss_one (ps_ret (pe_ifExp (pt_cmp (pc_isN (pv 6))) (pe_lst pa_nil) pe_non))) pss_nil)
    (pss_cons (ps_set (i:=7) scJu.nd rfl (Or.inr rfl) (pe_call GJ hr rfl g F.kp b .nil pass0 (pa_cons (pv 0) (pa_cons (pv 1) (pa_cons (pe_ix ix_tup (pv 2) pe_int (fun _ _=>rfl)) pa_nil)))))
    (pss_cons (ps_if (pt_cmpR op_eq (pv 3) pe_str (nomark _)) (pss_one (ps_ret (pe_ifExp (pt_cmp (pc_isN (pv 6))) (pv 7) (pv 6)))) pss_nil)
    (pss_cons (ps_if (PW.pt (pw_or (pt_cmp (pc_isN (pv 6))) (pw_or1 (pt_cmp (pc_isN (pv 7)))))) (pss_one (ps_ret pe_non)) pss_nil)
    (pss_one (ps_ret (pe_lc scJ2 rfl rfl rfl (pi_range1 rfl T.range (pa_cons (pe_callB call_len_seq (by rfl) T.len PySem.boot_len (pa_cons (pv 0) pa_nil)) pa_nil)) (fun fp C s1 H1=>pg_name (i:=0) scJ2.nd rfl (Or.inl rfl))
     (fun fp C s1 H1=>pts_one (PW.pt (pw_or (pt_cmpR (r:=rInD K false) (op_inD hu) (pv 0) (pv 1) (by with_unfolding_all rfl)) (pw_or1 (pt_cmpR (r:=rInD K false) (op_inD hu) (pv 0) (pv 2) (by with_unfolding_all rfl)))))) (fun fp C s1 H1=>pv 0))))))))))))),?_⟩
   obtain⟨en,z,x1,x2,x3⟩:=ent_at hE (i:=(n:Int)) (by omega) (by omega)
   rw[Int.toNat_natCast] at x2 x3
   have okn:=ent_ok hok hn
   cases q with
   |row F=>
    refine⟨_,rfl,p,_,_,_,rfl,rfl,SqT.of hA,rfl,?_⟩
    refine⟨_,rfl,rfl,_,rfl,iteTK (by decide +kernel) ?_⟩
    refine⟨_,rfl,_,rfl,t,_,_,_,rfl,rfl,SqT.of ht,x1,en,_,_,_,rfl,rfl,SqT.of x2,rfl,_,rfl,p,_,_,_,rfl,rfl,SqT.of hA,rfl,rfl,_,rfl,?_⟩
    unfold foundM at k
    by_cases hF:(es.getD n (0,[])).1=F
    ·rw[if_pos hF] at k
     refine iteTK (decide_eq_true (by rw[hF])) ⟨_,rfl,(by show 1<=sizeLine;decide),fun l hl=>?_⟩
     exact k l _ ((Same.refl H).upd_free hl) upd_same
    ·rw[if_neg hF] at k
     exact iteFK (decide_eq_false (fun z=>hF (by injection z))) (k H (Same.refl H))
   |wit F I W=>
    refine⟨_,rfl,p,_,_,_,rfl,rfl,SqT.of hA,rfl,?_⟩
    refine⟨_,rfl,rfl,_,rfl,iteFK (by decide +kernel) ?_⟩
    refine⟨_,rfl,rfl,_,rfl,iteTK (by decide +kernel) ?_⟩
    refine⟨_,rfl,_,rfl,t,_,_,_,rfl,rfl,SqT.of ht,x1,_,rfl,p,_,_,_,rfl,rfl,SqT.of hA,rfl,_,rfl,p,_,_,_,rfl,rfl,SqT.of hA,rfl,en,z,_,F,I,rfl,x2,x3,ho.1,fun lw H1 s1 hw=>?_⟩
    refine⟨_,rfl,p,_,_,_,rfl,rfl,SqT.of (s1 _ _ hA),rfl,(by show 1<=sizeLine;decide),fun l1 hl1=>?_⟩
    have s2:Same H1 (upd H1 l1 (.lst [.str W])):=(Same.refl H1).upd_free hl1
    refine⟨_,_,dO_at (s2 _ _ hw),dO_at (a:=some W) upd_same,dO_ok (gapO_tx okn),dO_ok (fun x hx=>by cases hx;exact ho.2),_,rfl,?_⟩
    rw[show(if false=true then !PyData.eqv (dO (gapO (es.getD n (0,[])) F I)) (dO (some W)) else PyData.eqv (dO (gapO (es.getD n (0,[])) F I)) (dO (some W)))=decide (gapO (es.getD n (0,[])) F I=some W) from by rw[if_neg Bool.false_ne_true,dO_eq]]
    have t2:=s1.trans s2
    unfold foundM at k
    by_cases hF:gapO (es.getD n (0,[])) F I=some W
    ·rw[if_pos hF] at k
     refine iteTK (decide_eq_true hF) ⟨_,rfl,(by show 1<=sizeLine;decide),fun l hl=>?_⟩
     exact k l _ (t2.upd_free (t2.free hl)) upd_same
    ·rw[if_neg hF] at k
     exact iteFK (decide_eq_false hF) (k _ t2)
   |beh F I G J R=>
    refine⟨_,rfl,p,_,_,_,rfl,rfl,SqT.of hA,rfl,?_⟩
    refine⟨_,rfl,rfl,_,rfl,iteFK (by decide +kernel) ?_⟩
    refine⟨_,rfl,rfl,_,rfl,iteFK (by decide +kernel) ?_⟩
    refine⟨_,rfl,rfl,_,rfl,iteTK (by decide +kernel) (iteT ?_)⟩
    exact⟨_,rfl,_,rfl,_,rfl,t,p,n,false,F,I,G,J,R,es,rfl,hA,ho.1,ho.2.1,ho.2.2,L,l1,hok,hn,k⟩
   |ahd F I G J R=>
    refine⟨_,rfl,p,_,_,_,rfl,rfl,SqT.of hA,rfl,?_⟩
    refine⟨_,rfl,rfl,_,rfl,iteFK (by decide +kernel) ?_⟩
    refine⟨_,rfl,rfl,_,rfl,iteFK (by decide +kernel) ?_⟩
    refine⟨_,rfl,rfl,_,rfl,iteFK (by decide +kernel) ?_⟩
    refine⟨_,rfl,rfl,_,rfl,iteTK (by decide +kernel) ?_⟩
    exact⟨_,rfl,_,rfl,_,rfl,t,p,n,true,F,I,G,J,R,es,rfl,hA,ho.1,ho.2.1,ho.2.2,L,l1,hok,hn,k⟩
   |tim R M q=>
    obtain⟨c,hA,hc⟩:=hA
    obtain⟨r1,r2,m1,ho'⟩:=ho
    have hd':q.dep<d:=Nat.lt_of_succ_lt_succ hd
    refine⟨_,rfl,p,_,_,_,rfl,rfl,SqT.of hA,rfl,?_⟩
    refine⟨_,rfl,rfl,_,rfl,iteFK (by decide +kernel) ?_⟩
    refine⟨_,rfl,rfl,_,rfl,iteFK (by decide +kernel) ?_⟩
    refine⟨_,rfl,rfl,_,rfl,iteFK (by decide +kernel) ⟨_,rfl,rfl,_,rfl,iteFK (by decide +kernel) ?_⟩⟩
    refine⟨_,rfl,rfl,_,rfl,iteTK (by decide +kernel) ?_⟩
    refine⟨_,rfl,_,rfl,p,_,_,_,rfl,rfl,SqT.of hA,rfl,_,_,rfl,rfl,_,_,rfl,rfl,_,_,rfl,?_⟩
    have hmax:(if (n:Int)-(R:Int)+1 > 0 then(n:Int)-(R:Int)+1 else 0)=((n+1-R:Nat):Int):=by
     split<;>omega
    rw[hmax]
    refine⟨_,rfl,_,rfl,_,_,rfl,rfl,_,_,rfl,⟨by omega,by omega,by omega,by omega⟩,fun D hD=>?_⟩
    refine lc_range (lo:=((n+1-R:Nat):Int)) (n:=((n:Int)+1-((n+1-R:Nat):Int)).toNat) (fun j ys H3=>Same H H3/\H3 D=some (.lst ys)/\ys=vN ((rng (n+1-R) (n+1-R+j)).filter fun m=>(foundM es q m).isSome)) (Nat.le_of_lt (small1000 (by omega)))
     ⟨(Same.refl H).upd_free hD,upd_same,by rw[rng_nil];rfl⟩ (fun j ys H3 h=>by rw[h.2.2,vN_len];exact Nat.le_trans (List.length_filter_le ..) (by rw[rng_len];omega)) ?_ ?_
    ·rintro j ys H3 N M' hj ⟨u1,u2,rfl⟩ hN hM
     have em:((n+1-R:Nat):Int)+(j:Int)=((n+1-R+j:Nat):Int):=by omega
     rw[em]
     have hm:n+1-R+j<es.length:=by omega
     refine⟨_,rfl,_,rfl,_,rfl,p,_,_,_,rfl,rfl,SqT.of (u1 _ _ hA),rfl,t,c,n+1-R+j,q,es,rfl,AAt.same u1 hc,hd',ho',L.same u1,l1,hok,hm,?_⟩
     cases hf:foundM es q (n+1-R+j) with
     |none=>
      intro H4 u4
      refine⟨_,rfl,iteNS rfl ?_⟩
      refine hM H4 ⟨u1.trans u4,u4 _ _ u2,?_⟩
      rw[filt_no (by rw[hf];rfl)]
     |some rows=>
      intro a H4 u4 ha
      refine⟨_,rfl,?_⟩
      have nn:¬(V.ref a=V.non):=fun z=>by cases z
      rw[decide_eq_false nn]
      refine iteT ⟨_,rfl,?_⟩
      refine hN _ H4 (u4 _ _ u2) ⟨(u1.trans u4).upd_free hD,upd_same,?_⟩
      rw[filt_yes (by rw[hf];rfl),vN_snoc]
    ·rintro ys H3 ⟨u1,u2,rfl⟩
     have e3:n+1-R+((n:Int)+1-((n+1-R:Nat):Int)).toNat=n+1:=by omega
     rw[e3] at u2
     unfold foundM at k
     generalize hrows:(rng (n+1-R) (n+1)).filter (fun m=>(foundM es q m).isSome)=rows at k u2
     have hlen:rows.length<=1000:=by
      rw[<- hrows]
      exact Nat.le_trans (List.length_filter_le ..) (by rw[rng_len];omega)
     refine⟨_,rfl,_,rfl,D,_,.int (n:Int),_,rfl,.inl (SqL.of u2),nats_at rows,.int n,int_ok n,nats_lay rows,_,rfl,?_⟩
     rw[show(if false=true then !((rows.map fun(m:Nat)=>PyData.int (m:Int)).any fun d=>PyData.eqv d (.int (n:Int))) else((rows.map fun(m:Nat)=>PyData.int (m:Int)).any fun d=>PyData.eqv d (.int (n:Int))))=decide (n∈rows) from by rw[if_neg Bool.false_ne_true,any_int]]
     by_cases hin:n∈rows
     ·rw[decide_eq_true hin]
      refine iteT ⟨_,rfl,D,_,rfl,.inl (SqL.of u2),_,rfl,p,_,_,_,rfl,rfl,SqT.of (u1 _ _ hA),rfl,_,_,rfl,rfl,_,rfl,?_⟩
      rw[vN_len]
      by_cases hle:M<=rows.length
      ·rw[if_pos ⟨hin,hle⟩] at k
       refine iteTK (decide_eq_true (by omega)) ⟨_,rfl,?_⟩
       exact k D H3 u1 u2
      ·rw[if_neg (fun z=>hle z.2)] at k
       exact iteFK (decide_eq_false (by omega)) (k H3 u1)
     ·rw[decide_eq_false hin]
      rw[if_neg (fun z=>hin z.1)] at k
      exact iteF (iteF (k H3 u1))
   |non q=>
    obtain⟨c,hA,hc⟩:=hA
    have hd':q.dep<d:=Nat.lt_of_succ_lt_succ hd
    refine⟨_,rfl,p,_,_,_,rfl,rfl,SqT.of hA,rfl,?_⟩
    refine⟨_,rfl,rfl,_,rfl,iteFK (by decide +kernel) ?_⟩
    refine⟨_,rfl,rfl,_,rfl,iteFK (by decide +kernel) ?_⟩
    refine⟨_,rfl,rfl,_,rfl,iteFK (by decide +kernel) ⟨_,rfl,rfl,_,rfl,iteFK (by decide +kernel) ?_⟩⟩
    refine⟨_,rfl,rfl,_,rfl,iteFK (by decide +kernel) ?_⟩
    refine⟨_,rfl,_,rfl,_,rfl,p,_,_,_,rfl,rfl,SqT.of hA,rfl,t,c,n,q,es,rfl,hc,hd',ho,L,l1,hok,hn,?_⟩
    unfold foundM at k
    cases hf:foundM es q n with
    |none=>
     rw[hf] at k
     intro H4 u4
     refine⟨_,rfl,rfl,_,rfl,iteTK (by decide +kernel) ?_⟩
     refine⟨_,rfl,_,rfl,iteT ⟨Nat.zero_le _,fun l hl=>?_⟩⟩
     exact k l _ (u4.upd_free (u4.free hl)) upd_same
    |some rows=>
     rw[hf] at k
     intro a H4 u4 ha
     refine⟨_,rfl,rfl,_,rfl,iteTK (by decide +kernel) ?_⟩
     refine⟨_,rfl,_,rfl,iteFK (decide_eq_false (fun z=>by cases z)) ?_⟩
     exact k H4 u4
   |eit q r=>
    obtain⟨c,e,hA,hc,he⟩:=hA
    have hdm:max q.dep r.dep<d:=Nat.lt_of_succ_lt_succ hd
    have hd1:q.dep<d:=Nat.lt_of_le_of_lt (Nat.le_max_left _ _) hdm
    have hd2:r.dep<d:=Nat.lt_of_le_of_lt (Nat.le_max_right _ _) hdm
    refine⟨_,rfl,p,_,_,_,rfl,rfl,SqT.of hA,rfl,?_⟩
    refine⟨_,rfl,rfl,_,rfl,iteFK (by decide +kernel) ?_⟩
    refine⟨_,rfl,rfl,_,rfl,iteFK (by decide +kernel) ?_⟩
    refine⟨_,rfl,rfl,_,rfl,iteFK (by decide +kernel) ⟨_,rfl,rfl,_,rfl,iteFK (by decide +kernel) ?_⟩⟩
    refine⟨_,rfl,rfl,_,rfl,iteFK (by decide +kernel) ?_⟩
    refine⟨_,rfl,_,rfl,_,rfl,p,_,_,_,rfl,rfl,SqT.of hA,rfl,t,c,n,q,es,rfl,hc,hd1,ho.1,L,l1,hok,hn,?_⟩
    unfold foundM at k
    cases hf:foundM es q n with
    |none=>
     rw[hf] at k
     intro H4 u4
     refine⟨_,rfl,rfl,_,rfl,iteFK (by decide +kernel) ?_⟩
     refine⟨_,rfl,_,rfl,_,rfl,p,_,_,_,rfl,rfl,SqT.of (u4 _ _ hA),rfl,t,e,n,r,es,rfl,AAt.same u4 he,hd2,ho.2,L.same u4,l1,hok,hn,?_⟩
     have k':ToldL H Q (foundM es r n):=k
     cases hg:foundM es r n with
     |none=>
      rw[hg] at k'
      intro H5 u5
      refine⟨_,rfl,rfl,_,rfl,iteTK (by decide +kernel) ?_⟩
      refine⟨_,rfl,_,rfl,iteT ⟨_,rfl,?_⟩⟩
      exact k' H5 (u4.trans u5)
     |some rows=>
      rw[hg] at k'
      intro a H5 u5 ha
      refine⟨_,rfl,rfl,_,rfl,iteTK (by decide +kernel) ?_⟩
      refine⟨_,rfl,_,rfl,iteT ⟨_,rfl,?_⟩⟩
      exact k' a H5 (u4.trans u5) ha
    |some rows=>
     rw[hf] at k
     intro a H4 u4 ha
     refine⟨_,rfl,rfl,_,rfl,iteFK (by decide +kernel) ?_⟩
     refine⟨_,rfl,_,rfl,_,rfl,p,_,_,_,rfl,rfl,SqT.of (u4 _ _ hA),rfl,t,e,n,r,es,rfl,AAt.same u4 he,hd2,ho.2,L.same u4,l1,hok,hn,?_⟩
     have k':ToldL H Q (some rows):=k
     have fin:∀(v:V) (H5:Hp),Same H4 H5->Q (.ref a) H5:=fun v H5 u5=>k' a H5 (u4.trans u5) (u5 _ _ ha)
     cases hg:foundM es r n with
     |none=>
      intro H5 u5
      refine⟨_,rfl,rfl,_,rfl,iteTK (by decide +kernel) ?_⟩
      refine⟨_,rfl,_,rfl,iteFK (decide_eq_false (fun z=>by cases z)) ⟨_,rfl,fin .non H5 u5⟩⟩
     |some rows'=>
      intro a' H5 u5 ha'
      refine⟨_,rfl,rfl,_,rfl,iteTK (by decide +kernel) ?_⟩
      refine⟨_,rfl,_,rfl,iteFK (decide_eq_false (fun z=>by cases z)) ⟨_,rfl,fin .non H5 u5⟩⟩
   |bot q r=>
    obtain⟨c,e,hA,hc,he⟩:=hA
    have hdm:max q.dep r.dep<d:=Nat.lt_of_succ_lt_succ hd
    have hd1:q.dep<d:=Nat.lt_of_le_of_lt (Nat.le_max_left _ _) hdm
    have hd2:r.dep<d:=Nat.lt_of_le_of_lt (Nat.le_max_right _ _) hdm
    refine⟨_,rfl,p,_,_,_,rfl,rfl,SqT.of hA,rfl,?_⟩
    refine⟨_,rfl,rfl,_,rfl,iteFK (by decide +kernel) ?_⟩
    refine⟨_,rfl,rfl,_,rfl,iteFK (by decide +kernel) ?_⟩
    refine⟨_,rfl,rfl,_,rfl,iteFK (by decide +kernel) ⟨_,rfl,rfl,_,rfl,iteFK (by decide +kernel) ?_⟩⟩
    refine⟨_,rfl,rfl,_,rfl,iteFK (by decide +kernel) ?_⟩
    refine⟨_,rfl,_,rfl,_,rfl,p,_,_,_,rfl,rfl,SqT.of hA,rfl,t,c,n,q,es,rfl,hc,hd1,ho.1,L,l1,hok,hn,?_⟩
    unfold foundM at k
    cases hf:foundM es q n with
    |none=>
     rw[hf] at k
     intro H4 u4
     refine⟨_,rfl,rfl,_,rfl,iteFK (by decide +kernel) ?_⟩
     refine⟨_,rfl,_,rfl,_,rfl,p,_,_,_,rfl,rfl,SqT.of (u4 _ _ hA),rfl,t,e,n,r,es,rfl,AAt.same u4 he,hd2,ho.2,L.same u4,l1,hok,hn,?_⟩
     have k':ToldL H Q none:=by
      cases hg:foundM es r n<;>(rw[hg] at k;exact k)
     cases hg:foundM es r n with
     |none=>
      intro H5 u5
      refine⟨_,rfl,rfl,_,rfl,iteFK (by decide +kernel) ?_⟩
      exact⟨_,rfl,_,rfl,iteT (iteT (k' H5 (u4.trans u5)))⟩
     |some rows=>
      intro a H5 u5 ha
      refine⟨_,rfl,rfl,_,rfl,iteFK (by decide +kernel) ?_⟩
      exact⟨_,rfl,_,rfl,iteT (iteT (k' H5 (u4.trans u5)))⟩
    |some rows=>
     rw[hf] at k
     intro a H4 u4 ha
     refine⟨_,rfl,rfl,_,rfl,iteFK (by decide +kernel) ?_⟩
     refine⟨_,rfl,_,rfl,_,rfl,p,_,_,_,rfl,rfl,SqT.of (u4 _ _ hA),rfl,t,e,n,r,es,rfl,AAt.same u4 he,hd2,ho.2,L.same u4,l1,hok,hn,?_⟩
     cases hg:foundM es r n with
     |none=>
      rw[hg] at k
      intro H5 u5
      refine⟨_,rfl,rfl,_,rfl,iteFK (by decide +kernel) ?_⟩
      refine⟨_,rfl,_,rfl,iteFK (decide_eq_false (fun z=>by cases z)) ⟨_,rfl,_,rfl,iteT (k H5 (u4.trans u5))⟩⟩
     |some rows'=>
      rw[hg] at k
      intro a' H5 u5 ha'
      refine⟨_,rfl,rfl,_,rfl,iteFK (by decide +kernel) ?_⟩
      refine⟨_,rfl,_,rfl,iteFK (decide_eq_false (fun z=>by cases z)) ⟨_,rfl,_,rfl,iteFK (decide_eq_false (fun z=>by cases z)) ?_⟩⟩
      have t5:=u4.trans u5
      have ha5:=u5 _ _ ha
      refine⟨_,rfl,t,_,rfl,.inr (SqT.of (t5 _ _ ht)),_,rfl,by omega,by omega,fun D hD=>?_⟩
      rw[hql]
      refine lc_range (lo:=0) (n:=((es.length:Nat):Int).toNat) (fun j ys H6=>Same H5 H6/\H6 D=some (.lst ys)/\ys=vN ((rng 0 (0+j)).filter fun m=>decide (m∈rows)||decide (m∈rows'))) (Nat.le_of_lt (small1000 (by omega)))
       ⟨(Same.refl H5).upd_free hD,upd_same,by rw[rng_nil];rfl⟩ (fun j ys H6 h=>by rw[h.2.2,vN_len];exact Nat.le_trans (List.length_filter_le ..) (by rw[rng_len];omega)) ?_ ?_
      ·rintro j ys H6 N M' hj ⟨v1,v2,rfl⟩ hN hM
       have em:0+(j:Int)=((j:Nat):Int):=Int.zero_add _
       rw[em]
       refine⟨_,rfl,_,rfl,a,_,.int (j:Int),_,rfl,.inl (SqL.of (v1 _ _ ha5)),nats_at rows,.int j,int_ok j,nats_lay rows,_,rfl,?_⟩
       rw[show(if false=true then !((rows.map fun(m:Nat)=>PyData.int (m:Int)).any fun d=>PyData.eqv d (.int (j:Int))) else((rows.map fun(m:Nat)=>PyData.int (m:Int)).any fun d=>PyData.eqv d (.int (j:Int))))=decide (j∈rows) from by rw[if_neg Bool.false_ne_true,any_int]]
       have yes:(decide (j∈rows)||decide (j∈rows'))=true->N (.int (j:Int)) H6:=fun hy=>by
        refine hN _ H6 v2 ⟨v1.upd_free hD,upd_same,?_⟩
        rw[filt_yes (by rw[Nat.zero_add];exact hy),vN_snoc,Nat.zero_add]
       have no:(decide (j∈rows)||decide (j∈rows'))=false->M' H6:=fun hy=>by
        refine hM H6 ⟨v1,v2,?_⟩
        rw[filt_no (by rw[Nat.zero_add];exact hy)]
       by_cases h1:j∈rows
       ·refine iteTK (decide_eq_true h1) (iteT ⟨_,rfl,?_⟩)
        exact yes (by rw[decide_eq_true h1];rfl)
       ·refine iteFK (decide_eq_false h1) ?_
        refine⟨_,rfl,_,rfl,a',_,.int (j:Int),_,rfl,.inl (SqL.of (v1 _ _ ha')),nats_at rows',.int j,int_ok j,nats_lay rows',_,rfl,?_⟩
        rw[show(if false=true then !((rows'.map fun(m:Nat)=>PyData.int (m:Int)).any fun d=>PyData.eqv d (.int (j:Int))) else((rows'.map fun(m:Nat)=>PyData.int (m:Int)).any fun d=>PyData.eqv d (.int (j:Int))))=decide (j∈rows') from by rw[if_neg Bool.false_ne_true,any_int]]
        by_cases h2:j∈rows'
        ·refine iteTK (decide_eq_true h2) ⟨_,rfl,?_⟩
         exact yes (by rw[decide_eq_true h2,Bool.or_true])
        ·refine iteFK (decide_eq_false h2) ?_
         exact no (by rw[decide_eq_false h1,decide_eq_false h2];rfl)
      ·rintro ys H6 ⟨v1,v2,rfl⟩
       have er:rng 0 (0+((es.length:Nat):Int).toNat)=List.range es.length:=by
        unfold rng
        have e1:0+((es.length:Nat):Int).toNat-0=es.length:=by omega
        rw[e1]
        have e2:(fun x:Nat=>0+x)=id:=funext fun x=>Nat.zero_add x
        rw[e2,List.map_id]
       rw[er] at v2
       exact k D H6 (t5.trans v1) v2
end
end QL
namespace QL
open PySem L2
def AnsAt (H:Hp)(us:List V)(an:List (Nat×List Nat)):Prop:=us.length=an.length/\∀(i:Nat) (x:Nat×List Nat),an[i]?=some x->∃t a,us[i]?=some (.ref t)/\H t=some (.tup [.int (x.1:Int),.ref a])/\H a=some (.tup (vN x.2))
theorem AnsAt.tsame {H H':Hp}(s:TSame H H'){us:List V}{an:List (Nat×List Nat)}(h:AnsAt H us an):AnsAt H' us an:=
 ⟨h.1,fun i x hx=>by
  obtain⟨t,a,h1,h2,h3⟩:=h.2 i x hx
  exact⟨t,a,h1,s _ _ h2,s _ _ h3⟩⟩
theorem AnsAt.nil {H:Hp}:AnsAt H [] []:=⟨rfl,fun i x h=>by simp at h⟩
theorem AnsAt.snoc {H:Hp}{us:List V}{an:List (Nat×List Nat)}{t a:Addr}{x:Nat×List Nat}(h:AnsAt H us an)(h1:H t=some (.tup [.int (x.1:Int),.ref a]))(h2:H a=some (.tup (vN x.2))):AnsAt H (us++[.ref t]) (an++[x]):=by
 refine⟨by rw[List.length_append,List.length_append,h.1];rfl,fun i e he=>?_⟩
 by_cases hi:i<an.length
 ·rw[List.getElem?_append_left hi] at he
  obtain⟨t',a',g1,g2⟩:=h.2 i e he
  exact⟨t',a',by rw[List.getElem?_append_left (by rw[h.1];exact hi)];exact g1,g2⟩
 ·rw[List.getElem?_append_right (by omega)] at he
  have:i=an.length:=by
   have:=(List.getElem?_eq_some_iff.mp he).1
   simp at this
   omega
  subst this
  rw[Nat.sub_self] at he
  cases he
  exact⟨t,a,by rw[List.getElem?_append_right (by rw[h.1];exact Nat.le_refl _),h.1,Nat.sub_self];rfl,h1,h2⟩
def one1 (es:List Ent)(q:Qn)(n:Nat):List (Nat×List Nat):=match foundM es q n with
 |none=>[]
 |some rows=>[(n,rows)]
def ansM (es:List Ent)(q:Qn)(lo hi:Nat):List (Nat×List Nat):=(rng lo hi).flatMap (one1 es q)
theorem rng_succ {lo hi:Nat}(h:lo<=hi):rng lo (hi+1)=rng lo hi++[hi]:=by
 unfold rng
 have e1:hi+1-lo=(hi-lo)+1:=by omega
 rw[e1,List.range_succ,List.map_append]
 have e2:lo+(hi-lo)=hi:=by omega
 show _++[lo+(hi-lo)]=_
 rw[e2]
theorem ans_succ (es:List Ent)(q:Qn){lo hi:Nat}(h:lo<=hi):ansM es q lo (hi+1)=ansM es q lo hi++one1 es q hi:=by
 unfold ansM
 rw[rng_succ h,List.flatMap_append,List.flatMap_cons,List.flatMap_nil,List.append_nil]
theorem ans_same (es:List Ent)(q:Qn)(lo:Nat):ansM es q lo lo=[]:=by
 unfold ansM rng
 rw[Nat.sub_self]
 rfl
theorem ans_add (es:List Ent)(q:Qn)(lo k:Nat):∀m:Nat,ansM es q lo (lo+k)++ansM es q (lo+k) (lo+k+m)=ansM es q lo (lo+k+m)
 |0=>by rw[Nat.add_zero,ans_same,List.append_nil]
 |m+1=>by
  have e:lo+k+(m+1)=(lo+k+m)+1:=by omega
  rw[e,ans_succ es q (by omega),ans_succ es q (by omega),<- List.append_assoc,ans_add es q lo k m]
theorem ans_app (es:List Ent)(q:Qn){lo mid hi:Nat}(h1:lo<=mid)(h2:mid<=hi):ansM es q lo mid++ansM es q mid hi=ansM es q lo hi:=by
 obtain⟨k,rfl⟩:∃k,mid=lo+k:=⟨mid-lo,by omega⟩
 obtain⟨m,rfl⟩:∃m,hi=lo+k+m:=⟨hi-(lo+k),by omega⟩
 exact ans_add es q lo k m
theorem ans_len (es:List Ent)(q:Qn)(lo:Nat):∀k:Nat,(ansM es q lo (lo+k)).length<=k
 |0=>by rw[Nat.add_zero,ans_same];exact Nat.le_refl _
 |k+1=>by
  have e:lo+(k+1)=(lo+k)+1:=by omega
  rw[e,ans_succ es q (by omega),List.length_append]
  have:=ans_len es q lo k
  have h1:(one1 es q (lo+k)).length<=1:=by
   unfold one1
   split<;>simp
  omega
theorem ans_congr {es es':List Ent}{q:Qn}{lo hi:Nat}(h:∀n,lo<=n->n<hi->foundM es q n=foundM es' q n):ansM es q lo hi=ansM es' q lo hi:=by
 unfold ansM
 have:∀l:List Nat,(∀n∈l,lo<=n/\n<hi)->l.flatMap (one1 es q)=l.flatMap (one1 es' q):=by
  intro l
  induction l with
  |nil=>intro _;rfl
  |cons a l ih=>
   intro hl
   have ha:=hl a List.mem_cons_self
   rw[List.flatMap_cons,List.flatMap_cons,ih fun n hn=>hl n (List.mem_cons_of_mem _ hn)]
   unfold one1
   rw[h a ha.1 ha.2]
 exact this _ fun n hn=>mem_rng.mp hn
theorem found_pre {es:List Ent}{q:Qn}(hq:q.Ok){m n:Nat}(hm:m<=es.length)(hn:n<m)(h:m=es.length\/(n:Int)+onM q<(m:Int)):foundM (es.take m) q n=foundM es q n:=by
 have hl:(es.take m).length=m:=by rw[List.length_take];omega
 have e:=found_shift (es:=es) (es':=es.take m) (f:=0) (fun i hi=>by
  rw[Nat.zero_add]
  have:i<m:=by omega
  rw[List.getD_eq_getElem?_getD,List.getD_eq_getElem?_getD,List.getElem?_take,if_pos this]) (by omega) q n hq (by omega) (.inl rfl) (by rw[hl,Nat.zero_add];exact h)
 rw[Nat.zero_add] at e
 rw[e]
 have z:(fun rs:List Nat=>rs.map (0 + ·))=id:=by
  funext rs
  have:(fun x:Nat=>0+x)=id:=by funext x;exact Nat.zero_add x
  rw[this,List.map_id]
  rfl
 rw[z,Option.map_id]
 rfl
def spMv:Sp:=fun vs H Q _=>∃(a:Addr) (f:Nat) (rows:List Nat),vs=[.ref a,.int (f:Int)]/\H a=some (.tup (vN rows))/\rows.length<=1000/\∀(p:Addr) (H':Hp),Same H H'->H' p=some (.tup (vN (rows.map (f + ·))))->Q (.ref p) H'
section
variable {P:Program} {w:World} {K:W.Frag} {mg:Str->Option Value} {base:Heap} {ks:Kd->Bool} {cl:Kd->Addr} {d lev:Nat}
theorem scMv:FnScope ["rows","far"] ["rows","far"] (defScope sMv):=.of (by decide +kernel)
def scopeMv:Scope:=⟨.function,[(".0",.local),("row",.local),("far",.free)],false,false,[]⟩
theorem scMv1:BlkScope (defScope sMv) ["rows","far"] ["row"] ["far"] [1] scopeMv:=.of (by decide +kernel)
theorem ok_mv (F:Fun K "moved" "moved" sMv f fd)(T:Txt mg):FnOk P w K mg base CX0 1 f fd ["rows","far"] spMv:=by
 refine F.ok scMv (fun vs H Q E h=>?_) (fun cdv A outer s H vs Q E hr h=>?_)
 ·obtain⟨a,f,rows,rfl,_⟩:=h
  rfl
 ·obtain⟨a,fa,rows,rfl,ha,hl,k⟩:=h
  refine⟨_,pss_one (ps_ret (pe_callTy call_tuple_of (by rfl) T.tuple PyProof.Rows.boot_tuple (pa_cons (pe_lc scMv1 rfl rfl rfl (pi_tup (pv 0)) (fun fp C s1 H1=>pg_name (i:=0) scMv1.nd rfl (Or.inl rfl)) (fun fp C s1 H1=>pts_nil) (fun fp C s1 H1=>pe_op op_add (pv 0) (pv 1))) pa_nil))),?_⟩
  refine⟨_,rfl,a,rfl,⟨_,SqT.of ha⟩,fun D hD=>?_⟩
  refine lc_tup (K:=K) (a:=a) (xs:=vN rows) (fun j ys H3=>ys=vN ((rows.take j).map (fa + ·))/\Same H H3/\H3 D=some (.lst ys)) (Nat.le_of_lt (small1000 (by rw[vN_len];exact hl))) ⟨by simp[vN],(Same.refl H).upd_free hD,upd_same⟩
   (fun j ys H3 h=>by rw[h.1,vN_len,List.length_map,List.length_take];exact Nat.min_le_left _ _) (fun j ys H3 h=>SqT.of (h.2.1 _ _ ha)) ?_ ?_
  ·rintro j ys H3 x N M hx ⟨rfl,s3,hD3⟩ hN hM
   unfold vN at hx
   rw[List.getElem?_map] at hx
   cases et:rows[j]? with
   |none=>rw[et] at hx;cases hx
   |some m=>
    rw[et] at hx
    cases hx
    refine⟨_,rfl,_,rfl,_,_,rfl,rfl,?_⟩
    show N (V.int ((m:Int)+(fa:Int))) H3
    have em:(m:Int)+(fa:Int)=((fa+m:Nat):Int):=by omega
    rw[em]
    refine hN _ H3 hD3 ⟨?_,s3.upd_free hD,upd_same⟩
    rw[List.take_add_one,et,List.map_append]
    unfold vN
    rw[List.map_append]
    rfl
  ·rintro ys H3 ⟨rfl,s3,hD3⟩
   rw[vN_len,List.take_of_length_le (Nat.le_refl _)] at hD3
   refine⟨D,_,rfl,.inl ⟨SqL.of hD3,fun t ht=>?_⟩⟩
   have s4:=(Same.refl H3).upd_free (o:=.tup (vN (rows.map (fa + ·)))) ht
   exact k t _ (s3.trans s4) upd_same
end
end QL
namespace QL
open PySem L2
theorem putF_len {f:Str}{v x:V}:∀{fs:List (Str×V)},fs.lookup f=some x->(putF f v fs).length=fs.length
 | [],h=>by cases h
 | (g,y)::r,h=>by
  show(if g=f then(g,v)::r else(g,y)::putF f v r).length=_
  by_cases e:g=f
  ·rw[if_pos e]
   rfl
  ·rw[if_neg e,List.length_cons,List.length_cons,putF_len (fs:=r)]
   have hb:(f==g)=false:=beq_eq_false_iff_ne.mpr (Ne.symm e)
   simpa only[List.lookup,hb] using h
theorem putF_len1 {f:Str}{v:V}:∀{fs:List (Str×V)},(putF f v fs).length<=fs.length+1
 | []=>Nat.le_refl _
 | (g,y)::r=>by
  show(if g=f then(g,v)::r else(g,y)::putF f v r).length<=_
  by_cases e:g=f
  ·rw[if_pos e]
   exact Nat.le_succ _
  ·rw[if_neg e,List.length_cons,List.length_cons]
   exact Nat.succ_le_succ putF_len1
theorem cut_fromR (qs:List Addr)(a:Nat)(h:a<=qs.length):cutV (qs.map V.ref) (some (a:Int)) none=(qs.drop a).map V.ref:=by
 unfold cutV
 rw[HT.sIx_nat,HT.sIx_none,List.length_map,Nat.min_eq_left h,List.take_of_length_le (by rw[List.length_drop,List.length_map];exact Nat.le_refl _),List.map_drop]
def WNo (fs:List (Str×V)):Prop:=fs.lookup ("take":Str)=none/\fs.lookup ("end":Str)=none/\fs.lookup ("refuse_if_over":Str)=none/\fs.lookup ("settle":Str)=none/\fs.lookup ("kept":Str)=none
theorem WNo.nil:WNo []:=⟨rfl,rfl,rfl,rfl,rfl⟩
theorem WNo.put {fs:List (Str×V)}(h:WNo fs){f:Str}{v:V}(h1:¬("take":Str)=f)(h2:¬("end":Str)=f)(h3:¬("refuse_if_over":Str)=f)(h4:¬("settle":Str)=f)(h5:¬("kept":Str)=f):WNo (putF f v fs):=
 ⟨by rw[lookup_putF,if_neg h1];exact h.1,by rw[lookup_putF,if_neg h2];exact h.2.1,by rw[lookup_putF,if_neg h3];exact h.2.2.1,by rw[lookup_putF,if_neg h4];exact h.2.2.2.1,by rw[lookup_putF,if_neg h5];exact h.2.2.2.2⟩
structure WFs (fs:List (Str×V))(qo te:Addr)(f lo:Nat)(ov:Bool):Prop where
 q:fs.lookup ("question":Str)=some (.ref qo)
 e:fs.lookup ("entries":Str)=some (.ref te)
 f:fs.lookup ("first":Str)=some (.int (f:Int))
 s:fs.lookup ("settled":Str)=some (.int (lo:Int))
 o:fs.lookup ("over":Str)=some (.bl ov)
 no:WNo fs
 few:fs.length<=5
structure WK (K:W.Frag)(C:Addr):Prop where
 cls:Cls K C
 nQ:NoAttr K C "question"
 nE:NoAttr K C "entries"
 nF:NoAttr K C "first"
 nS:NoAttr K C "settled"
 nO:NoAttr K C "over"
abbrev bkN (q:Qn):Nat:=(backM q).toNat
abbrev onN (q:Qn):Nat:=(onM q).toNat
def WSt (C:Addr)(H:Hp)(wa:Addr)(q:Qn)(qo:Addr)(qs:List Addr):Prop:=∃(dx te:Addr) (fs:List (Str×V)),H wa=some (.ins C dx fs)/\WFs fs qo te (qs.length-onN q-bkN q) (qs.length-onN q) false/\H te=some (.tup ((qs.drop (qs.length-onN q-bkN q)).map V.ref))
def WOv (C:Addr)(H:Hp)(wa:Addr):Prop:=∃(dx qo te:Addr) (fs:List (Str×V)) (f lo:Nat),H wa=some (.ins C dx fs)/\WFs fs qo te f lo true/\H te=some (.tup [])
theorem WSt.same {C:Addr}{H H':Hp}{wa:Addr}{q:Qn}{qo:Addr}{qs:List Addr}(s:Same H H')(h:WSt C H wa q qo qs):WSt C H' wa q qo qs:=by
 obtain⟨dx,te,fs,h1,h2,h3⟩:=h
 exact⟨dx,te,fs,s _ _ h1,h2,s _ _ h3⟩
def spYi (C:Addr):Sp:=fun vs H Q _=>∃(p dx qo:Addr),vs=[.ref p,.ref qo]/\H p=some (.ins C dx [])/\∀H',(∀q:Qn,WSt C H' p q qo [])->Kept H H' p->Q .non H'
def spYr (C:Addr):Sp:=fun vs H Q _=>∃(wa dx qo te:Addr) (fs:List (Str×V)) (f lo:Nat),vs=[.ref wa]/\H wa=some (.ins C dx fs)/\WFs fs qo te f lo false/\Q .non H
def spYs (ks:Kd->Bool)(cl:Kd->Addr)(C:Addr)(d:Nat):Sp:=fun vs H Q _=>∃(wa te te0 dx qo:Addr) (fs:List (Str×V)) (f lo hi:Nat) (qs:List Addr) (es:List Ent) (q:Qn),vs=[.ref wa,.ref te,.int (hi:Int)]/\H wa=some (.ins C dx fs)/\WFs fs qo te0 f lo false∧
 QAt cl H q qo/\q.dep<d/\q.Ok/\q.In ks/\H te=some (.tup ((qs.drop f).map V.ref))/\EntsAt H qs es/\es.length<=63/\f<=lo/\lo<=hi/\hi<=es.length/\(f=0\/f+bkN q<=lo)∧
 ∀(p te':Addr) (us:List V) (fs':List (Str×V)) (H':Hp),Kept H H' wa->H' p=some (.tup us)->AnsAt H' us (ansM es q lo hi)->H' wa=some (.ins C dx fs')->WFs fs' qo te' (max (hi-bkN q) f) hi false->H' te'=some (.tup ((qs.drop (max (hi-bkN q) f)).map V.ref))->Q (.ref p) H'
def spYt (ks:Kd->Bool)(cl:Kd->Addr)(C:Addr)(d:Nat):Sp:=fun vs H Q _=>∃(wa tp qo:Addr) (qs0 ps:List Addr) (es:List Ent) (q:Qn),vs=[.ref wa,.ref tp]/\WSt C H wa q qo qs0/\QAt cl H q qo/\q.dep<d/\q.Ok/\q.In ks/\H tp=some (.tup (ps.map V.ref))/\EntsAt H (qs0++ps) es/\es.length<=63∧
 ∀(p:Addr) (us:List V) (H':Hp),Kept H H' wa->H' p=some (.tup us)->AnsAt H' us (ansM es q (qs0.length-onN q) (es.length-onN q))->WSt C H' wa q qo (qs0++ps)->Q (.ref p) H'
def spYe (ks:Kd->Bool)(cl:Kd->Addr)(C:Addr)(d:Nat):Sp:=fun vs H Q _=>∃(wa qo:Addr) (qs:List Addr) (es:List Ent) (q:Qn),vs=[.ref wa]/\WSt C H wa q qo qs/\QAt cl H q qo/\q.dep<d/\q.Ok/\q.In ks/\EntsAt H qs es/\es.length<=63∧
 ∀(p:Addr) (us:List V) (H':Hp),Kept H H' wa->H' p=some (.tup us)->AnsAt H' us (ansM es q (es.length-onN q) es.length)->WOv C H' wa->Q (.ref p) H'
section
variable {P:Program} {w:World} {K:W.Frag} {mg:Str->Option Value} {base:Heap} {ks:Kd->Bool} {cl:Kd->Addr} {d lev:Nat} {C:Addr}
theorem scYi:FnScope ["self","question"] ["self","question"] (defScope sYi):=.of (by decide +kernel)
theorem ok_yi (F:Fun K "__init__" "Watch.__init__" sYi f fd)(Y:WK K C):FnOk P w K mg base CX0 1 f fd ["self","question"] (spYi C):=by
 refine F.ok scYi (fun vs H Q E h=>?_) (fun cdv A outer s H vs Q E hr h=>?_)
 ·obtain⟨p,dx,qo,rfl,_⟩:=h
  rfl
 ·obtain⟨p,dx,qo,rfl,hp,k⟩:=h
  refine⟨_,pss_cons (ps_fld (pv 0) (pv 1) rfl) (pss_cons (ps_fld (pv 0) (pe_tup pa_nil) rfl) (pss_cons (ps_fld (pv 0) pe_int rfl) (pss_cons (ps_fld (pv 0) pe_int rfl) (pss_one (ps_fld (pv 0) pe_bl rfl))))),?_⟩
  refine⟨_,rfl,_,rfl,p,_,dx,_,rfl,hp,Y.cls,Y.nQ,(by show 0<1000;decide),?_⟩
  refine⟨(by show 0<=sizeLine;decide),fun t ht=>?_⟩
  have npt:p≠t:=fun z=>by rw[<- z,upd_same] at ht;cases ht
  have htH:H t=none:=by rw[upd_ne (Ne.symm npt)] at ht;exact ht
  refine⟨_,rfl,p,_,dx,_,rfl,(by rw[upd_ne npt];exact upd_same),Y.cls,Y.nE,(by show 1<1000;decide),?_⟩
  refine⟨_,rfl,p,_,dx,_,rfl,upd_same,Y.cls,Y.nF,(by show 2<1000;decide),?_⟩
  refine⟨_,rfl,p,_,dx,_,rfl,upd_same,Y.cls,Y.nS,(by show 3<1000;decide),?_⟩
  refine⟨_,rfl,p,_,dx,_,rfl,upd_same,Y.cls,Y.nO,(by show 4<1000;decide),?_⟩
  refine k _ (fun q=>⟨dx,t,_,upd_same,?_,?_⟩) fun c o e hc=>?_
  ·have z1:([]:List Addr).length-onN q-bkN q=0:=by
    show 0-onN q-bkN q=0
    omega
   have z2:([]:List Addr).length-onN q=0:=by
    show 0-onN q=0
    omega
   rw[z1,z2]
   refine⟨by rw[lookup_putF,if_neg (by decide +kernel),lookup_putF,if_neg (by decide +kernel),lookup_putF,if_neg (by decide +kernel),lookup_putF,if_neg (by decide +kernel),lookup_putF,if_pos rfl],by rw[lookup_putF,if_neg (by decide +kernel),lookup_putF,if_neg (by decide +kernel),lookup_putF,if_neg (by decide +kernel),lookup_putF,if_pos rfl],by rw[lookup_putF,if_neg (by decide +kernel),lookup_putF,if_neg (by decide +kernel),lookup_putF,if_pos rfl];rfl,by rw[lookup_putF,if_neg (by decide +kernel),lookup_putF,if_pos rfl];rfl,by rw[lookup_putF,if_pos rfl],(((((WNo.nil).put (by decide +kernel) (by decide +kernel) (by decide +kernel) (by decide +kernel) (by decide +kernel)).put (by decide +kernel) (by decide +kernel) (by decide +kernel) (by decide +kernel) (by decide +kernel)).put (by decide +kernel) (by decide +kernel) (by decide +kernel) (by decide +kernel) (by decide +kernel)).put (by decide +kernel) (by decide +kernel) (by decide +kernel) (by decide +kernel) (by decide +kernel)).put (by decide +kernel) (by decide +kernel) (by decide +kernel) (by decide +kernel) (by decide +kernel),?_⟩
   have c1:=@putF_len1 "question" (.ref qo) []
   have c2:=@putF_len1 "entries" (.ref t) (putF "question" (.ref qo) [])
   have c3:=@putF_len1 "first" (.int 0) (putF "entries" (.ref t) (putF "question" (.ref qo) []))
   have c4:=@putF_len1 "settled" (.int 0) (putF "first" (.int 0) (putF "entries" (.ref t) (putF "question" (.ref qo) [])))
   have c5:=@putF_len1 "over" (.bl false) (putF "settled" (.int 0) (putF "first" (.int 0) (putF "entries" (.ref t) (putF "question" (.ref qo) []))))
   rw[List.length_nil] at c1
   omega
  ·rw[upd_ne (Ne.symm npt),upd_ne (Ne.symm npt),upd_ne (Ne.symm npt),upd_ne (Ne.symm npt),upd_same,List.drop_nil]
   rfl
  ·rw[upd_ne hc,upd_ne hc,upd_ne hc,upd_ne hc,upd_ne (ne_of_none e htH),upd_ne hc]
   exact e
theorem scYr:FnScope ["self"] ["self"] (defScope sYr):=.of (by decide +kernel)
theorem ok_yr (F:Fun K "refuse_if_over" "Watch.refuse_if_over" sYr f fd)(Y:WK K C):FnOk P w K mg base CX0 1 f fd ["self"] (spYr C):=by
 refine F.ok scYr (fun vs H Q E h=>?_) (fun cdv A outer s H vs Q E hr h=>?_)
 ·obtain⟨wa,dx,qo,te,fs,f,lo,rfl,_⟩:=h
  rfl
 ·obtain⟨wa,dx,qo,te,fs,f,lo,rfl,hw,W,k⟩:=h
  refine⟨_,pss_one (ps_if (pt_val (pe_fld (pv 0) rfl)) pss_never pss_nil),?_⟩
  exact⟨_,rfl,wa,_,dx,_,_,rfl,hw,Y.cls,Y.nO,W.o,false,rfl,iteF k⟩
theorem scYs:FnScope ["self","entries","stop","told","n","rows","first"] ["self","entries","stop"] (defScope sYs):=.of (by decide +kernel)
theorem ok_ys (F:Fun K "settle" "Watch.settle" sYs f fd)(TX:Txt mg)(Y:WK K C)(T:Tab P w K mg base ks cl d lev)(hlev:1<=lev)
  (FM:Fun K "moved" "moved" sMv fM fdM) (bM:Binds K fdM ["rows","far"] []) (gM:mg "moved"=some (.ref fM)):FnOk P w K mg base CX0 (lev+1) f fd ["self","entries","stop"] (spYs ks cl C d):=by
 have GM:FnOk P w K mg base CX0 1 fM fdM ["rows","far"] spMv:=ok_mv FM TX
 refine F.ok scYs (fun vs H Q E h=>?_) (fun cdv A outer s H vs Q E hr h=>?_)
 ·obtain⟨wa,te,te0,dx,qo,fs,f,lo,hi,qs,es,q,rfl,_⟩:=h
  rfl
 ·obtain⟨wa,te,te0,dx,qo,fs,fa,lo,hi,qs,es,q,rfl,hw,W,hq,hd,ho,hin,hte,hE,h63,h1,h2,h3,h4,k⟩:=h
  have hr1:Room 1 _:=hr.mono hlev
  have hb0:=back_pos ho
  have hbb:((bkN q:Nat):Int)=backM q:=Int.toNat_of_nonneg hb0
  have hql:qs.length=es.length:=hE.1
  refine⟨_,pss_cons (ps_set (i:=3) scYs.nd rfl (Or.inl rfl) (pe_lst pa_nil))
   (pss_cons (ps_for PassesOwn.never rfl (pi_range2 rfl TX.range (pa_cons (pe_fld (pv 0) rfl) (pa_cons (pv 2) pa_nil))) (pg_name (i:=4) scYs.nd rfl (Or.inl rfl))
    (pss_cons (ps_set (i:=5) scYs.nd rfl (Or.inl rfl) (pe_methD (CX:=CX0) (pe_fld (pv 0) rfl) hr pass0 (pa_cons (pv 1) (pa_cons (pe_op op_sub (pv 4) (pe_fld (pv 0) rfl)) pa_nil))))
    (pss_one (ps_if (pt_cmp (pc_notN (pv 5))) (pss_one (ps_expr (pe_bm PySem.F.plainAttrs_list PySem.F.slot_list_append PySem.F.type_list_append mt_append (pv 3) (pa_cons (pe_tup (pa_cons (pv 4) (pa_cons (pe_call GM hr1 rfl gM FM.kp bM .nil pass0 (pa_cons (pv 5) (pa_cons (pe_fld (pv 0) rfl) pa_nil))) pa_nil))) pa_nil)))) pss_nil))))
   (pss_cons (ps_set (i:=6) scYs.nd rfl (Or.inl rfl) (pe_callB (call_max2 rfl) (by rfl) TX.max PyProof.Rows.boot_max (pa_cons (pe_op op_sub (pv 2) (pe_methD0 (CX:=CX0) (pe_fld (pv 0) rfl) hr pass0)) (pa_cons (pe_fld (pv 0) rfl) pa_nil))))
   (pss_cons (ps_fld (pv 0) (pe_slice sl_tupA (pv 1) (po_some (pe_op op_sub (pv 6) (pe_fld (pv 0) rfl))) po_none) rfl)
   (pss_cons (ps_fld (pv 0) (pv 6) rfl)
   (pss_cons (ps_fld (pv 0) (pv 2) rfl)
   (pss_one (ps_ret (pe_callTy call_tuple_of (by rfl) TX.tuple PyProof.Rows.boot_tuple (pa_cons (pv 3) pa_nil))))))))),?_⟩
  refine⟨(by show 0<=sizeLine;decide),fun lt hlt=>?_⟩
  have s0:Same H (upd H lt (.lst [])):=(Same.refl H).upd_free hlt
  refine⟨_,rfl,wa,_,dx,_,_,rfl,s0 _ _ hw,Y.cls,Y.nS,W.s,_,rfl,_,_,rfl,⟨by omega,by omega,by omega,by omega⟩,?_⟩
  refine for_range (lo:=(lo:Int)) (n:=((hi:Int)-(lo:Int)).toNat) (fun i σ H2=>∃(us:List V) (v4 v5:Option V),σ=[some (.ref wa),some (.ref te),some (.int (hi:Int)),some (.ref lt),v4,v5,none]/\Same H H2/\H2 lt=some (.lst us)/\AnsAt H2 us (ansM es q lo (lo+i)))
   ⟨[],none,none,rfl,s0,upd_same,by rw[Nat.add_zero,ans_same];exact AnsAt.nil⟩ ?_ ?_
  ·rintro i σ H2 hi2 ⟨us,v4,v5,rfl,s2,hL,hA⟩
   have hdl:(es.drop fa).length=es.length-fa:=List.length_drop ..
   have hn:lo+i-fa<(es.drop fa).length:=by omega
   obtain⟨dx',fs',f',fd',g1,g2,g3,g4,g5,g6⟩:=T.found (QAt.same s2 hq) hin
   have hc:=ents_cut hE fa es.length
   have et:(es.drop fa).take es.length=es.drop fa:=List.take_of_length_le (by omega)
   have eq':(qs.drop fa).take es.length=qs.drop fa:=List.take_of_length_le (by rw[List.length_drop];omega)
   rw[et,eq'] at hc
   have fsh:=found_shift (es:=es) (es':=es.drop fa) (f:=fa) (fun m hm=>by rw[List.getD_eq_getElem?_getD,List.getD_eq_getElem?_getD,List.getElem?_drop]) (by omega) q (lo+i-fa) ho hn (by rcases h4 with h4|h4;exact .inl h4;right;omega) (.inl (by omega))
   have ef:fa+(lo+i-fa)=lo+i:=by omega
   rw[ef] at fsh
   refine⟨_,rfl,wa,_,dx,_,_,rfl,s2 _ _ hw,Y.cls,Y.nQ,W.q,qo,_,dx',fs',f',fd',_,_,rfl,g1,g2,g3,g4,g5,g6,_,rfl,_,rfl,_,rfl,wa,_,dx,_,_,rfl,s2 _ _ hw,Y.cls,Y.nF,W.f,_,_,rfl,rfl,qo,te,lo+i-fa,q,es.drop fa,(by(show[V.ref qo,V.ref te,V.int ((lo:Int)+(i:Int)-(fa:Int))]=_);rw[show(lo:Int)+(i:Int)-(fa:Int)=((lo+i-fa:Nat):Int) by omega]),rfl,hd,ho,hin,QAt.same s2 hq,⟨qs.drop fa,s2 _ _ hte,hc.tsame s2.tups⟩,by omega,hn,?_⟩
   have en:=ans_succ es q (lo:=lo) (hi:=lo+i) (by omega)
   unfold one1 at en
   rw[fsh] at en
   have e2:lo+(i+1)=lo+i+1:=by omega
   refine told_of fun v H3 u3 hv=>?_
   have t3:=s2.trans u3
   cases hf:foundM (es.drop fa) q (lo+i-fa) with
   |none=>
    rw[hf] at hv en
    cases(show v=.non from hv)
    refine⟨_,rfl,false,rfl,iteF ⟨us,_,_,rfl,t3,u3 _ _ hL,?_⟩⟩
    rw[e2,en,Option.map_none]
    show AnsAt H3 us (ansM es q lo (lo+i)++[])
    rw[List.append_nil]
    exact hA.tsame u3.tups
   |some rows=>
    rw[hf] at hv en
    obtain⟨a,rfl,ha⟩:=hv
    have hrl:=found_short q _ rows hn hf
    have hL3:=u3 _ _ hL
    refine⟨_,rfl,true,rfl,iteT ?_⟩
    refine⟨_,rfl,.inl ⟨rfl,_,SqL.of hL3⟩,_,rfl,_,rfl,_,rfl,wa,_,dx,_,_,rfl,t3 _ _ hw,Y.cls,Y.nF,W.f,a,fa,rows,rfl,ha,by omega,fun p H4 s4 hp=>?_⟩
    refine⟨(by show 2<=sizeLine;decide),fun t ht=>?_⟩
    have s5:=(Same.refl H4).upd_free (o:=.tup [.int ((lo:Int)+(i:Int)),.ref p]) ht
    have hL5:=(s4.trans s5) _ _ hL3
    have hul:=hA.1
    have hal:=ans_len es q lo i
    have t5:=t3.trans (s4.trans s5)
    have tsm:TSame (upd H4 t (.tup [.int ((lo:Int)+(i:Int)),.ref p])) (upd (upd H4 t (.tup [.int ((lo:Int)+(i:Int)),.ref p])) lt (.lst (us++[.ref t]))):=TSame.upd_lst (fun _ _ e=>e) hL5
    refine⟨lt,_,_,rfl,rfl,hL5,small1000 (by omega),us++[.ref t],_,_,rfl,t5.upd_free hlt,upd_same,?_⟩
    rw[e2,en]
    refine((hA.tsame (u3.trans (s4.trans s5)).tups).tsame tsm).snoc (x:=(lo+i,rows.map (fa + ·))) (t:=t) (a:=p) (tsm _ _ ?_) (tsm _ _ (s5 _ _ hp))
    rw[upd_same]
    show some (HO.tup [V.int ((lo:Int)+(i:Int)),V.ref p])=some (HO.tup [V.int ((lo+i:Nat):Int),V.ref p])
    rw[Int.natCast_add]
  ·rintro σ H2 ⟨us,v4,v5,rfl,s2,hL,hA⟩
   have el:lo+((hi:Int)-(lo:Int)).toNat=hi:=by omega
   rw[el] at hA
   obtain⟨dx',fs',f',fd',g1,g2,g3,g4,g5,g6⟩:=T.back (QAt.same s2 hq) hin
   have hw2:=s2 _ _ hw
   refine⟨_,rfl,_,rfl,wa,_,dx,_,_,rfl,hw2,Y.cls,Y.nQ,W.q,qo,_,dx',fs',f',fd',_,_,rfl,g1,g2,g3,g4,g5,g6,qo,q,rfl,rfl,hd,hin,QAt.same s2 hq,_,_,rfl,rfl,_,rfl,wa,_,dx,_,_,rfl,hw2,Y.cls,Y.nF,W.f,_,_,rfl,?_⟩
   have hmax:(if (fa:Int) > (hi:Int)-backM q then(fa:Int) else(hi:Int)-backM q)=((max (hi-bkN q) fa:Nat):Int):=by
    by_cases z:hi-bkN q<=fa
    ·rw[Nat.max_eq_right z]
     split<;>omega
    ·rw[Nat.max_eq_left (by omega)]
     split<;>omega
   rw[hmax]
   have hf2:max (hi-bkN q) fa<=es.length:=Nat.max_le.mpr ⟨by omega,by omega⟩
   have hf3:fa<=max (hi-bkN q) fa:=Nat.le_max_right _ _
   generalize max (hi-bkN q) fa=f2 at hf2 hf3 k
   have hte2:=s2 _ _ hte
   refine⟨_,rfl,_,rfl,_,rfl,wa,_,dx,_,_,rfl,hw2,Y.cls,Y.nF,W.f,_,_,rfl,rfl,_,rfl,te,_,rfl,hte2,fun p H3 s3 hp=>?_⟩
   have ec:cutV ((qs.drop fa).map V.ref) (some ((f2:Int)-(fa:Int))) none=(qs.drop f2).map V.ref:=by
    have e1:(f2:Int)-(fa:Int)=((f2-fa:Nat):Int):=by omega
    rw[e1,cut_fromR _ _ (by rw[List.length_drop];omega),List.drop_drop]
    congr 2
    omega
   replace hp:H3 p=some (.tup ((qs.drop f2).map V.ref)):=by
    rw[<- ec]
    exact hp
   have hw3:=s3 _ _ hw2
   have hL3:=s3 _ _ hL
   have npw:p≠wa:=fun z=>by rw[z,hw3] at hp;cases hp
   have nlw:lt≠wa:=fun z=>by rw[z,hw3] at hL3;cases hL3
   have w5:=W.few
   have l1:(putF ("entries":Str) (.ref p) fs).length=fs.length:=putF_len W.e
   have k1:(putF ("entries":Str) (V.ref p) fs).lookup ("first":Str)=some (.int (fa:Int)):=by rw[lookup_putF,if_neg (by decide +kernel)];exact W.f
   have l2:(putF ("first":Str) (.int (f2:Int)) (putF ("entries":Str) (.ref p) fs)).length=fs.length:=by rw[putF_len k1,l1]
   have k2:(putF ("first":Str) (.int (f2:Int)) (putF ("entries":Str) (V.ref p) fs)).lookup ("settled":Str)=some (.int (lo:Int)):=by rw[lookup_putF,if_neg (by decide +kernel),lookup_putF,if_neg (by decide +kernel)];exact W.s
   have l3:(putF ("settled":Str) (.int (hi:Int)) (putF ("first":Str) (.int (f2:Int)) (putF ("entries":Str) (.ref p) fs))).length=fs.length:=by rw[putF_len k2,l2]
   refine⟨_,rfl,wa,_,dx,_,rfl,hw3,Y.cls,Y.nE,by omega,?_⟩
   refine⟨_,rfl,_,rfl,wa,_,dx,_,rfl,upd_same,Y.cls,Y.nF,by rw[l1];omega,?_⟩
   refine⟨_,rfl,_,rfl,wa,_,dx,_,rfl,upd_same,Y.cls,Y.nS,by rw[l2];omega,?_⟩
   have nlw':wa≠lt:=Ne.symm nlw
   refine⟨_,rfl,lt,_,rfl,.inl ⟨SqL.of (by rw[upd_ne nlw,upd_ne nlw,upd_ne nlw];exact hL3),fun t ht=>?_⟩⟩
   have ntw:t≠wa:=fun z=>by rw[z,upd_same] at ht;cases ht
   have htH:H3 t=none:=by rw[upd_ne ntw,upd_ne ntw,upd_ne ntw] at ht;exact ht
   have up:∀b o,H3 b=some o->b≠wa->(upd (upd (upd (upd H3 wa (.ins C dx (putF "entries" (.ref p) fs))) wa (.ins C dx (putF "first" (.int (f2:Int)) (putF "entries" (.ref p) fs)))) wa (.ins C dx (putF "settled" (.int (hi:Int)) (putF "first" (.int (f2:Int)) (putF "entries" (.ref p) fs))))) t (.tup us)) b=some o:=fun b o e n=>by
    rw[upd_ne (ne_of_none e htH),upd_ne n,upd_ne n,upd_ne n]
    exact e
   refine k t p us _ _ (fun b o e n=>up b o ((s2.trans s3) _ _ e) n) upd_same ?_ (by rw[upd_ne (Ne.symm ntw)];exact upd_same) ?_ (up _ _ hp npw)
   ·refine(hA.tsame s3.tups).tsame fun b xs e=>up b _ e fun z=>?_
    rw[z,hw3] at e
    cases e
   ·refine⟨?_,?_,?_,?_,?_,?_,by rw[l3];exact w5⟩
    ·rw[lookup_putF,if_neg (by decide +kernel),lookup_putF,if_neg (by decide +kernel),lookup_putF,if_neg (by decide +kernel)]
     exact W.q
    ·rw[lookup_putF,if_neg (by decide +kernel),lookup_putF,if_neg (by decide +kernel),lookup_putF,if_pos rfl]
    ·rw[lookup_putF,if_neg (by decide +kernel),lookup_putF,if_pos rfl]
    ·rw[lookup_putF,if_pos rfl]
    ·rw[lookup_putF,if_neg (by decide +kernel),lookup_putF,if_neg (by decide +kernel),lookup_putF,if_neg (by decide +kernel)]
     exact W.o
    ·exact((W.no.put (by decide +kernel) (by decide +kernel) (by decide +kernel) (by decide +kernel) (by decide +kernel)).put (by decide +kernel) (by decide +kernel) (by decide +kernel) (by decide +kernel) (by decide +kernel)).put (by decide +kernel) (by decide +kernel) (by decide +kernel) (by decide +kernel) (by decide +kernel)
end
end QL
namespace QL
open PySem L2
section
variable {P:Program} {w:World} {K:W.Frag} {mg:Str->Option Value} {base:Heap} {ks:Kd->Bool} {cl:Kd->Addr} {d lev:Nat} {C:Addr}
theorem scYt:FnScope ["self","piece","entries"] ["self","piece"] (defScope sYt):=.of (by decide +kernel)
theorem ok_yt (F:Fun K "take" "Watch.take" sYt f fd)(TX:Txt mg)(Y:WK K C)(T:Tab P w K mg base ks cl d lev)
  (FR:Fun K "refuse_if_over" "Watch.refuse_if_over" sYr fR fdR) (bR:Binds K fdR ["self"] []) (mR:Meth K C "refuse_if_over" fR)
  (bS:Binds K fdS ["self","entries","stop"] []) (mS:Meth K C "settle" fS) (GS:FnOk P w K mg base CX0 (lev+1) fS fdS ["self","entries","stop"] (spYs ks cl C d)):
  FnOk P w K mg base CX0 (lev+2) f fd ["self","piece"] (spYt ks cl C d):=by
 have GR:FnOk P w K mg base CX0 1 fR fdR ["self"] (spYr C):=ok_yr FR Y
 refine F.ok scYt (fun vs H Q E h=>?_) (fun cdv A outer s H vs Q E hr h=>?_)
 ·obtain⟨wa,tp,qo,qs0,ps,es,q,rfl,_⟩:=h
  rfl
 ·obtain⟨wa,tp,qo,qs0,ps,es,q,rfl,⟨dx,te,fs,hw,W,hte⟩,hq,hd,ho,hin,htp,hE,h63,k⟩:=h
  have hr1:Room 1 _:=hr.mono (Nat.le_add_left 1 lev)
  have hr0:Room lev _:=hr.mono (Nat.le_add_right lev 1)
  have ho0:=on_pos ho
  have hoo:((onN q:Nat):Int)=onM q:=Int.toNat_of_nonneg ho0
  have hlen:qs0.length+ps.length=es.length:=by rw[<- List.length_append];exact hE.1
  refine⟨_,pss_cons (ps_expr (pe_meth0 (pv 0) Y.cls mR GR hr1 bR .nil pass0))
   (pss_cons (ps_set (i:=2) scYt.nd rfl (Or.inl rfl) (pe_op op_catA (pe_fld (pv 0) rfl) (pv 1)))
   (pss_one (ps_ret (pe_meth (pv 0) Y.cls mS GS hr bS .nil pass0 (pa_cons (pv 2) (pa_cons (pe_callB (call_max2 rfl) (by rfl) TX.max PyProof.Rows.boot_max (pa_cons (pe_op op_sub (pe_op op_add (pe_fld (pv 0) rfl) (pe_callB call_len_seq (by rfl) TX.len PySem.boot_len (pa_cons (pv 2) pa_nil))) (pe_methD0 (CX:=CX0) (pe_fld (pv 0) rfl) hr0 pass0)) (pa_cons pe_int pa_nil))) pa_nil)))))),?_⟩
  generalize hf0:qs0.length-onN q-bkN q=f0 at W hte
  generalize hl0:qs0.length-onN q=l0 at W
  refine⟨_,rfl,wa,dx,fs,rfl,hw,W.no.2.2.1,wa,dx,qo,te,fs,f0,l0,rfl,hw,W,?_⟩
  refine⟨_,rfl,wa,_,dx,_,_,rfl,hw,Y.cls,Y.nE,W.e,_,rfl,te,tp,_,_,rfl,rfl,hte,htp,Nat.le_of_lt (small1000 (by rw[List.length_map,List.length_map,List.length_drop];omega)),fun t1 H1 s1 ht1=>?_⟩
  have hw1:=s1 _ _ hw
  have hq1:=QAt.same s1 hq
  have ed:(qs0.drop f0).map V.ref++ps.map V.ref=((qs0++ps).drop f0).map V.ref:=by
   rw[List.drop_append_of_le_length (by omega),List.map_append]
  rw[ed] at ht1
  have hdl:(((qs0++ps).drop f0).map V.ref).length=es.length-f0:=by
   rw[List.length_map,List.length_drop,List.length_append,hlen]
  obtain⟨dx',fs',f',fd',g1,g2,g3,g4,g5,g6⟩:=T.on hq1 hin
  refine⟨_,rfl,wa,dx,fs,rfl,hw1,W.no.2.2.2.1,_,rfl,_,rfl,wa,_,dx,_,_,rfl,hw1,Y.cls,Y.nF,W.f,_,rfl,t1,_,rfl,.inr (SqT.of ht1),_,_,rfl,rfl,_,rfl,wa,_,dx,_,_,rfl,hw1,Y.cls,Y.nQ,W.q,qo,_,dx',fs',f',fd',_,_,rfl,g1,g2,g3,g4,g5,g6,qo,q,rfl,rfl,hd,hin,hq1,_,_,rfl,rfl,_,_,rfl,?_⟩
  have hst:(if (0:Int) > (f0:Int)+((((qs0++ps).drop f0).map V.ref).length:Int)-onM q then(0:Int) else(f0:Int)+((((qs0++ps).drop f0).map V.ref).length:Int)-onM q)=((es.length-onN q:Nat):Int):=by
   rw[hdl]
   split<;>omega
  rw[hst]
  refine⟨wa,t1,te,dx,qo,fs,f0,l0,es.length-onN q,qs0++ps,es,q,rfl,hw1,W,hq1,hd,ho,hin,ht1,hE.tsame s1.tups,h63,by omega,by omega,by omega,by omega,fun p te' us fs'' H' kp hp hA hw' W' hte'=>?_⟩
  have em:max (es.length-onN q-bkN q) f0=es.length-onN q-bkN q:=Nat.max_eq_left (by omega)
  rw[em] at W' hte'
  have en:(qs0++ps).length=es.length:=hE.1
  refine k p us H' (fun b o e n=>kp b o (s1 _ _ e) n) hp ?_ ⟨dx,te',fs'',hw',?_,?_⟩
  ·rw[hl0]
   exact hA
  ·rw[en]
   exact W'
  ·rw[en]
   exact hte'
theorem scYe:FnScope ["self","told"] ["self"] (defScope sYe):=.of (by decide +kernel)
theorem ok_ye (F:Fun K "end" "Watch.end" sYe f fd)(TX:Txt mg)(Y:WK K C)
  (FR:Fun K "refuse_if_over" "Watch.refuse_if_over" sYr fR fdR) (bR:Binds K fdR ["self"] []) (mR:Meth K C "refuse_if_over" fR)
  (bS:Binds K fdS ["self","entries","stop"] []) (mS:Meth K C "settle" fS) (GS:FnOk P w K mg base CX0 (lev+1) fS fdS ["self","entries","stop"] (spYs ks cl C d)):
  FnOk P w K mg base CX0 (lev+2) f fd ["self"] (spYe ks cl C d):=by
 have GR:FnOk P w K mg base CX0 1 fR fdR ["self"] (spYr C):=ok_yr FR Y
 refine F.ok scYe (fun vs H Q E h=>?_) (fun cdv A outer s H vs Q E hr h=>?_)
 ·obtain⟨wa,qo,qs,es,q,rfl,_⟩:=h
  rfl
 ·obtain⟨wa,qo,qs,es,q,rfl,⟨dx,te,fs,hw,W,hte⟩,hq,hd,ho,hin,hE,h63,k⟩:=h
  have hr1:Room 1 _:=hr.mono (Nat.le_add_left 1 lev)
  have hlen:qs.length=es.length:=hE.1
  refine⟨_,pss_cons (ps_expr (pe_meth0 (pv 0) Y.cls mR GR hr1 bR .nil pass0))
   (pss_cons (ps_set (i:=1) scYe.nd rfl (Or.inl rfl) (pe_meth (pv 0) Y.cls mS GS hr bS .nil pass0 (pa_cons (pe_fld (pv 0) rfl) (pa_cons (pe_op op_add (pe_fld (pv 0) rfl) (pe_callB call_len_seq (by rfl) TX.len PySem.boot_len (pa_cons (pe_fld (pv 0) rfl) pa_nil))) pa_nil))))
   (pss_cons (ps_fld (pv 0) (pe_tup pa_nil) rfl) (pss_cons (ps_fld (pv 0) pe_bl rfl) (pss_one (ps_ret (pv 1)))))),?_⟩
  generalize hf0:qs.length-onN q-bkN q=f0 at W hte
  generalize hl0:qs.length-onN q=l0 at W
  refine⟨_,rfl,wa,dx,fs,rfl,hw,W.no.2.2.1,wa,dx,qo,te,fs,f0,l0,rfl,hw,W,?_⟩
  have hdl:((qs.drop f0).map V.ref).length=es.length-f0:=by
   rw[List.length_map,List.length_drop,hlen]
  refine⟨_,rfl,wa,dx,fs,rfl,hw,W.no.2.2.2.1,_,rfl,wa,_,dx,_,_,rfl,hw,Y.cls,Y.nE,W.e,_,rfl,wa,_,dx,_,_,rfl,hw,Y.cls,Y.nF,W.f,_,rfl,wa,_,dx,_,_,rfl,hw,Y.cls,Y.nE,W.e,te,_,rfl,.inr (SqT.of hte),_,_,rfl,rfl,?_⟩
  refine⟨wa,te,te,dx,qo,fs,f0,l0,es.length,qs,es,q,(by(show[V.ref wa,V.ref te,V.int ((f0:Int)+((((qs.drop f0).map V.ref).length:Nat):Int))]=_);rw[hdl,show(f0:Int)+((es.length-f0:Nat):Int)=(es.length:Int) by omega]),hw,W,hq,hd,ho,hin,hte,hE,h63,by omega,by omega,by omega,by omega,fun p te' us fs' H' kp hp hA hw' W' hte'=>?_⟩
  refine⟨(by show 0<=sizeLine;decide),fun t ht=>?_⟩
  have nwt:wa≠t:=fun z=>by rw[<- z,hw'] at ht;cases ht
  have l1:(putF ("entries":Str) (.ref t) fs').length=fs'.length:=putF_len W'.e
  have k1:(putF ("entries":Str) (V.ref t) fs').lookup ("over":Str)=some (.bl false):=by rw[lookup_putF,if_neg (by decide +kernel)];exact W'.o
  have l2:(putF ("over":Str) (.bl true) (putF ("entries":Str) (.ref t) fs')).length=fs'.length:=by rw[putF_len k1,l1]
  have w5:=W'.few
  refine⟨_,rfl,wa,_,dx,_,rfl,(by rw[upd_ne nwt];exact hw'),Y.cls,Y.nE,by omega,?_⟩
  refine⟨_,rfl,wa,_,dx,_,rfl,upd_same,Y.cls,Y.nO,by rw[l1];omega,?_⟩
  have up:∀b o,H' b=some o->b≠wa->(upd (upd (upd H' t (.tup [])) wa (.ins C dx (putF "entries" (.ref t) fs'))) wa (.ins C dx (putF "over" (.bl true) (putF "entries" (.ref t) fs')))) b=some o:=fun b o e n=>by
   rw[upd_ne n,upd_ne n,upd_ne (ne_of_none e ht)]
   exact e
  have npw:p≠wa:=fun z=>by rw[z,hw'] at hp;cases hp
  refine⟨_,rfl,k p us _ (fun b o e n=>up b o (kp b o e n) n) (up _ _ hp npw) ?_ ⟨dx,qo,t,_,max (es.length-bkN q) f0,es.length,upd_same,?_,?_⟩⟩
  ·rw[<- hlen,hl0]
   rw[<- hlen] at hA
   refine hA.tsame fun b xs e=>up b _ e fun z=>?_
   rw[z,hw'] at e
   cases e
  ·refine⟨?_,?_,?_,?_,?_,?_,by rw[l2];exact w5⟩
   ·rw[lookup_putF,if_neg (by decide +kernel),lookup_putF,if_neg (by decide +kernel)]
    exact W'.q
   ·rw[lookup_putF,if_neg (by decide +kernel),lookup_putF,if_pos rfl]
   ·rw[lookup_putF,if_neg (by decide +kernel),lookup_putF,if_neg (by decide +kernel)]
    exact W'.f
   ·rw[lookup_putF,if_neg (by decide +kernel),lookup_putF,if_neg (by decide +kernel)]
    exact W'.s
   ·rw[lookup_putF,if_pos rfl]
   ·exact(W'.no.put (by decide +kernel) (by decide +kernel) (by decide +kernel) (by decide +kernel) (by decide +kernel)).put (by decide +kernel) (by decide +kernel) (by decide +kernel) (by decide +kernel) (by decide +kernel)
  ·rw[upd_ne (Ne.symm nwt),upd_ne (Ne.symm nwt),upd_same]
end
end QL
namespace QL
open PySem L2
def spYk (C:Addr):Sp:=fun vs H Q _=>∃(wa dx te:Addr) (fs:List (Str×V)) (us:List V),vs=[.ref wa]/\H wa=some (.ins C dx fs)/\fs.lookup ("entries":Str)=some (.ref te)/\H te=some (.tup us)/\Q (.int (us.length:Int)) H
section
variable {P:Program} {w:World} {K:W.Frag} {mg:Str->Option Value} {base:Heap} {C:Addr}
theorem scYk:FnScope ["self"] ["self"] (defScope sYk):=.of (by decide +kernel)
theorem ok_yk (F:Fun K "kept" "Watch.kept" sYk f fd)(T:Txt mg)(Y:WK K C):FnOk P w K mg base CX0 1 f fd ["self"] (spYk C):=by
 refine F.ok scYk (fun vs H Q E h=>?_) (fun cdv A outer s H vs Q E hr h=>?_)
 ·obtain⟨wa,dx,te,fs,us,rfl,_⟩:=h
  rfl
 ·obtain⟨wa,dx,te,fs,us,rfl,hw,he,ht,k⟩:=h
  refine⟨_,pss_one (ps_ret (pe_callB call_len_seq (by rfl) T.len PySem.boot_len (pa_cons (pe_fld (pv 0) rfl) pa_nil))),?_⟩
  exact⟨_,rfl,wa,_,dx,_,_,rfl,hw,Y.cls,Y.nE,he,te,_,rfl,.inr (SqT.of ht),k⟩
end
end QL
namespace QL
open PySem L2
def PcAt (H:Hp)(us:List V)(pss:List (List Addr)):Prop:=us.length=pss.length/\∀(i:Nat) (ps:List Addr),pss[i]?=some ps->∃p,us[i]?=some (.ref p)/\H p=some (.tup (ps.map V.ref))
theorem PcAt.tsame {H H':Hp}(s:TSame H H'){us:List V}{pss:List (List Addr)}(h:PcAt H us pss):PcAt H' us pss:=
 ⟨h.1,fun i x hx=>by
  obtain⟨t,h1,h2⟩:=h.2 i x hx
  exact⟨t,h1,s _ _ h2⟩⟩
theorem PcAt.nil {H:Hp}:PcAt H [] []:=⟨rfl,fun i x h=>by simp at h⟩
theorem PcAt.snoc {H:Hp}{us:List V}{pss:List (List Addr)}{p:Addr}{ps:List Addr}(h:PcAt H us pss)(h1:H p=some (.tup (ps.map V.ref))):PcAt H (us++[.ref p]) (pss++[ps]):=by
 refine⟨by rw[List.length_append,List.length_append,h.1];rfl,fun i e he=>?_⟩
 by_cases hi:i<pss.length
 ·rw[List.getElem?_append_left hi] at he
  obtain⟨q,g1,g2⟩:=h.2 i e he
  exact⟨q,by rw[List.getElem?_append_left (by rw[h.1];exact hi)];exact g1,g2⟩
 ·rw[List.getElem?_append_right (by omega)] at he
  have:i=pss.length:=by
   have:=(List.getElem?_eq_some_iff.mp he).1
   simp at this
   omega
  subst this
  rw[Nat.sub_self] at he
  cases he
  exact⟨p,by rw[List.getElem?_append_right (by rw[h.1];exact Nat.le_refl _),h.1,Nat.sub_self];rfl,h1⟩
def spPc (K:W.Frag):Sp:=fun vs H Q _=>∃(a t:Addr) (ns:List Int) (qs:List Addr),vs=[.ref a,.ref t]/\SqL K H a (ns.map V.int)/\ns.length<=63/\H t=some (.tup (qs.map V.ref))/\qs.length<=63∧
 ∀(l:Addr) (us:List V) (pss:List (List Addr)) (H':Hp),Same H H'->H' l=some (.lst us)->PcAt H' us pss->pss.flatten=qs->us.length<=300->Q (.ref l) H'
theorem ixN_last (us:List V)(v:V):ixN (us++[v]).length (-1)=some us.length:=by
 unfold ixN
 rw[if_neg (by omega),if_pos (by rw[List.length_append,List.length_singleton];omega),List.length_append,List.length_singleton]
 congr 1
 omega
theorem set_last (us:List V)(v x:V):(us++[v]).set us.length x=us++[x]:=by
 rw[List.set_append_right _ _ (Nat.le_refl _),Nat.sub_self]
 rfl
theorem flat_sing:∀qs:List Addr,(qs.map fun q=>[q]).flatten=qs
 | []=>rfl
 |q::qs=>by
  rw[List.map_cons,List.flatten_cons,flat_sing qs]
  rfl
section
variable {P:Program} {w:World} {K:W.Frag} {mg:Str->Option Value} {base:Heap}
theorem scPc:FnScope ["_law_script","_law_log_here","_law_pieces_here","_law_n","_law_cell"] ["_law_script","_law_log_here"] (defScope sPc):=.of (by decide +kernel)
def scopePc:Scope:=⟨.function,[(".0",.local),("_law_entry_here",.local)],false,false,[]⟩
theorem scPc1:BlkScope (defScope sPc) ["_law_script","_law_log_here","_law_pieces_here","_law_n","_law_cell"] ["_law_entry_here"] [] [] scopePc:=.of (by decide +kernel)
theorem ok_pc (F:Fun K "_law_pieces" "_law_pieces" sPc f fd)(T:Txt mg)(FC:Fun K "_law_cell_at" "_law_cell_at" sCe fC fdC)(bC:Binds K fdC ["_law_script","_law_k"] [])(gC:mg "_law_cell_at"=some (.ref fC))
  (FM:Fun K "_law_mix" "_law_mix" sMi fM fdM) (bM:Binds K fdM ["_law_cell","_law_k"] []) (gM:mg "_law_mix"=some (.ref fM)):FnOk P w K mg base CX0 2 f fd ["_law_script","_law_log_here"] (spPc K):=by
 have GC:FnOk P w K mg base CX0 1 fC fdC ["_law_script","_law_k"] (spCe K):=ok_ce FC T
 have GM:FnOk P w K mg base CX0 1 fM fdM ["_law_cell","_law_k"] spMi:=ok_mi FM
 refine F.ok scPc (fun vs H Q E h=>?_) (fun cdv A outer s H vs Q E hr h=>?_)
 ·obtain⟨a,t,ns,qs,rfl,_⟩:=h
  rfl
 ·obtain⟨a,t,ns,qs,rfl,hS,hns,ht,h63,k⟩:=h
  refine⟨_,pss_cons (ps_set (i:=2) scPc.nd rfl (Or.inl rfl) (pe_lst (pa_cons (pe_tup pa_nil) pa_nil)))
   (pss_cons (ps_for PassesOwn.never rfl (pi_range1 rfl T.range (pa_cons (pe_callB call_len_seq (by rfl) T.len PySem.boot_len (pa_cons (pv 1) pa_nil)) pa_nil)) (pg_name (i:=3) scPc.nd rfl (Or.inl rfl))
    (pss_cons (ps_set (i:=4) scPc.nd rfl (Or.inl rfl) (pe_call GC hr rfl gC FC.kp bC .nil pass0 (pa_cons (pv 0) (pa_cons (pe_op op_add pe_int (pv 3)) pa_nil))))
    (pss_cons (ps_cut (ps_if (pt_cmpR op_eq (pe_op op_mod (pe_call GM hr rfl gM FM.kp bM .nil pass0 (pa_cons (pv 4) (pa_cons pe_int pa_nil))) pe_int) pe_int (nomark _))
     (pss_one (ps_expr (pe_bm PySem.F.plainAttrs_list PySem.F.slot_list_append PySem.F.type_list_append mt_append (pv 2) (pa_cons (pe_tup pa_nil) pa_nil)))) pss_nil))
    (pss_cons (ps_cut (ps_if (pt_cmpR op_eq (pe_op op_mod (pe_call GM hr rfl gM FM.kp bM .nil pass0 (pa_cons (pv 4) (pa_cons pe_int pa_nil))) pe_int) pe_int (nomark _))
     (pss_one (ps_set (i:=2) scPc.nd rfl (Or.inl rfl) (pe_op op_catL (pv 2) (pe_lst (pa_cons (pe_tup pa_nil) (pa_cons (pe_tup pa_nil) pa_nil)))))) pss_nil))
    (pss_one (ps_asg (pe_op op_catN (pe_ix ix_list (pv 2) (pe_un un_neg pe_int) (fun _ _=>rfl)) (pe_tup (pa_cons (pe_ix ix_tup (pv 1) (pv 3) (fun _ _=>rfl)) pa_nil))) (pg_sub (pv 2) (pe_un un_neg pe_int) set_list)))))))
   (pss_cons (ps_cut (ps_if (pt_cmpR op_eq (pe_op op_mod (pe_call GC hr rfl gC FC.kp bC .nil pass0 (pa_cons (pv 0) (pa_cons pe_int pa_nil))) pe_int) pe_int (nomark _))
     (pss_one (ps_expr (pe_bm PySem.F.plainAttrs_list PySem.F.slot_list_append PySem.F.type_list_append mt_append (pv 2) (pa_cons (pe_tup pa_nil) pa_nil)))) pss_nil))
   (pss_cons (ps_cut (ps_if (pt_cmpR op_eq (pe_op op_mod (pe_call GC hr rfl gC FC.kp bC .nil pass0 (pa_cons (pv 0) (pa_cons pe_int pa_nil))) pe_int) pe_int (nomark _))
     (pss_one (ps_set (i:=2) scPc.nd rfl (Or.inl rfl) (pe_lst (pa_cons (pv 1) pa_nil)))) pss_nil))
   (pss_cons (ps_cut (ps_if (pt_cmpR op_eq (pe_op op_mod (pe_call GC hr rfl gC FC.kp bC .nil pass0 (pa_cons (pv 0) (pa_cons pe_int pa_nil))) pe_int) pe_int (nomark _))
     (pss_one (ps_setlc (i:=2) scPc1 rfl rfl rfl (pi_tup (pv 1)) (fun fp C s1 H1=>pg_name (i:=0) scPc1.nd rfl (Or.inl rfl)) (fun fp C s1 H1=>pts_nil) (fun fp C s1 H1=>pe_tup (pa_cons (pv 0) pa_nil)) scPc.nd rfl rfl rfl)) pss_nil))
   (pss_one (ps_ret (pv 2))))))),?_⟩
  have hql:(qs.map V.ref).length=qs.length:=List.length_map ..
  refine⟨(by show 0<=sizeLine;decide),fun p0 hp0=>?_⟩
  have s0:=(Same.refl H).upd_free (o:=.tup []) hp0
  have g0:upd H p0 (.tup []) p0=some (.tup []):=upd_same
  generalize upd H p0 (.tup [])=H0 at s0 g0
  refine⟨(by show 1<=sizeLine;decide),fun l0 hl0=>?_⟩
  have s1:=(Same.refl H0).upd_free (o:=.lst [.ref p0]) hl0
  refine⟨_,rfl,t,_,rfl,.inr (SqT.of ((s0.trans s1) _ _ ht)),_,rfl,by omega,by omega,?_⟩
  rw[hql,Int.toNat_natCast]
  refine for_range (n:=qs.length) (fun i σ H2=>∃(l:Addr) (us:List V) (pl:Addr) (pss:List (List Addr)) (ps:List Addr) (v3 v4:Option V),σ=[some (.ref a),some (.ref t),some (.ref l),v3,v4]/\Same H H2/\H l=none/\H2 l=some (.lst (us++[.ref pl]))/\PcAt H2 us pss/\H2 pl=some (.tup (ps.map V.ref))/\pss.flatten++ps=qs.take i/\us.length<=3*i)
   ⟨l0,[],p0,[],[],none,none,rfl,s0.trans s1,s0.free hl0,upd_same,PcAt.nil,s1 _ _ g0,by simp,by simp⟩ ?_ ?_
  ·rintro i σ H2 hi ⟨l,us,pl,pss,ps,v3,v4,rfl,s2,hl,hL,hP,hpl,hfl,hul⟩
   refine⟨_,rfl,_,rfl,_,_,rfl,rfl,a,ns,_,rfl,s2.seq hS,by omega,by omega,by omega,fun c H3 s3=>?_⟩
   refine⟨fun σ' H'=>∃(us:List V) (pl:Addr) (pss:List (List Addr)) (ps:List Addr),σ'=[some (.ref a),some (.ref t),some (.ref l),some (.int (0+(i:Int))),some (.int c)]/\Same H H'/\H' l=some (.lst (us++[.ref pl]))/\PcAt H' us pss/\H' pl=some (.tup (ps.map V.ref))/\pss.flatten++ps=qs.take i/\us.length<=3*i+1,?_,?_⟩
   ·refine⟨_,rfl,c,30,rfl,by decide,by decide,fun z hz=>⟨_,_,rfl,rfl,(by show(0:Int)<3;decide),rfl,_,rfl,?_⟩⟩
    have hL3:=s3 _ _ hL
    refine ifb ?_ ⟨us,pl,pss,ps,rfl,s2.trans s3,hL3,hP.tsame s3.tups,s3 _ _ hpl,hfl,by omega⟩
    refine⟨_,rfl,.inl ⟨rfl,_,SqL.of hL3⟩,(by show 0<=sizeLine;decide),fun p hp=>?_⟩
    have s4:=(Same.refl H3).upd_free (o:=.tup []) hp
    have hL4:=s4 _ _ hL3
    have ts:TSame (upd H3 p (.tup [])) (upd (upd H3 p (.tup [])) l (.lst (us++[.ref pl]++[.ref p]))):=TSame.upd_lst (fun _ _ e=>e) hL4
    refine⟨l,_,_,rfl,rfl,hL4,small1000 (by rw[List.length_append,List.length_singleton];omega),us++[.ref pl],p,pss++[ps],[],rfl,(s2.trans (s3.trans s4)).upd_free hl,upd_same,?_,ts _ _ upd_same,?_,?_⟩
    ·exact((hP.tsame (s3.trans s4).tups).tsame ts).snoc (ts _ _ ((s3.trans s4) _ _ hpl))
    ·rw[List.append_nil,List.flatten_append,List.flatten_cons,List.flatten_nil,List.append_nil]
     exact hfl
    ·rw[List.length_append,List.length_singleton]
     omega
   rintro σ' H4 ⟨us,pl,pss,ps,rfl,s4,hL,hP,hpl,hfl,hul⟩
   refine⟨fun σ' H'=>∃(l:Addr) (us:List V) (pl:Addr) (pss:List (List Addr)) (ps:List Addr),σ'=[some (.ref a),some (.ref t),some (.ref l),some (.int (0+(i:Int))),some (.int c)]/\Same H H'/\H l=none/\H' l=some (.lst (us++[.ref pl]))/\PcAt H' us pss/\H' pl=some (.tup (ps.map V.ref))/\pss.flatten++ps=qs.take i/\us.length<=3*i+3,?_,?_⟩
   ·refine⟨_,rfl,c,31,rfl,by decide,by decide,fun z hz=>⟨_,_,rfl,rfl,(by show(0:Int)<9;decide),rfl,_,rfl,?_⟩⟩
    refine ifb ?_ ⟨l,us,pl,pss,ps,rfl,s4,hl,hL,hP,hpl,hfl,by omega⟩
    refine⟨_,rfl,(by show 0<=sizeLine;decide),fun p1 hp1=>?_⟩
    have s5:=(Same.refl H4).upd_free (o:=.tup []) hp1
    have g5:upd H4 p1 (.tup []) p1=some (.tup []):=upd_same
    generalize upd H4 p1 (.tup [])=H5 at s5 g5
    refine⟨(by show 0<=sizeLine;decide),fun p2 hp2=>?_⟩
    have s6:=(Same.refl H5).upd_free (o:=.tup []) hp2
    have g6:upd H5 p2 (.tup []) p2=some (.tup []):=upd_same
    generalize upd H5 p2 (.tup [])=H6 at s6 g6
    refine⟨(by show 2<=sizeLine;decide),fun l2 hl2=>?_⟩
    have s7:=(Same.refl H6).upd_free (o:=.lst [.ref p1,.ref p2]) hl2
    have g7:upd H6 l2 (.lst [.ref p1,.ref p2]) l2=some (.lst [.ref p1,.ref p2]):=upd_same
    generalize upd H6 l2 (.lst [.ref p1,.ref p2])=H7 at s7 g7
    have t7:=(s5.trans s6).trans s7
    refine⟨l,l2,_,_,rfl,rfl,SqL.of (t7 _ _ hL),SqL.of g7,Nat.le_of_lt (small1000 (by rw[List.length_append,List.length_singleton];show us.length+1+2<=1000;omega)),fun l3 hl3=>?_⟩
    have s8:=(Same.refl H7).upd_free (o:=.lst (us++[.ref pl]++[.ref p1,.ref p2])) hl3
    refine⟨l3,us++[.ref pl]++[.ref p1],p2,pss++[ps]++[[]],[],rfl,s4.trans (t7.trans s8),(s4.trans t7).free hl3,?_,?_,s8 _ _ (s7 _ _ g6),?_,?_⟩
    ·rw[upd_same]
     simp
    ·exact((hP.tsame (t7.trans s8).tups).snoc ((t7.trans s8) _ _ hpl)).snoc (ps:=[]) ((s6.trans (s7.trans s8)) _ _ g5)
    ·rw[List.append_nil,List.flatten_append,List.flatten_append]
     simpa using hfl
    ·rw[List.length_append,List.length_append,List.length_singleton,List.length_singleton]
     omega
   rintro σ' H5 ⟨l,us,pl,pss,ps,rfl,s5,hl,hL,hP,hpl,hfl,hul⟩
   obtain⟨q,eq⟩:∃q,qs[i]?=some q:=⟨qs[i],by simp[hi]⟩
   have e0:0+(i:Int)=(i:Int):=Int.zero_add _
   have iq:atI (qs.map V.ref) (0+(i:Int))=some (.ref q):=by rw[e0];exact atI_nat (by rw[List.getElem?_map,eq];rfl)
   have hpsl:ps.length<=63:=by
    have:=congrArg List.length hfl
    rw[List.length_append,List.length_take] at this
    omega
   refine⟨_,rfl,_,rfl,l,_,_,.ref pl,rfl,rfl,SqL.of hL,L2.atI_last _ _,_,rfl,_,rfl,t,_,_,.ref q,rfl,rfl,SqT.of (s5 _ _ ht),iq,(by show 1<=sizeLine;decide),fun p1 hp1=>?_⟩
   have s6:=(Same.refl H5).upd_free (o:=.tup [.ref q]) hp1
   refine⟨pl,p1,_,_,rfl,rfl,SqT.of (s6 _ _ hpl),upd_same,by simp,Nat.le_of_lt (small1000 (by rw[List.length_map];show ps.length+1<=1000;omega)),fun p2 H7 s7 hp2=>?_⟩
   have s67:=s6.trans s7
   have hL7:=s67 _ _ hL
   refine⟨_,rfl,_,rfl,l,_,_,us.length,rfl,rfl,hL7,ixN_last _ _,?_⟩
   rw[set_last]
   have ts:TSame H7 (upd H7 l (.lst (us++[.ref p2]))):=TSame.upd_lst (fun _ _ e=>e) hL7
   refine⟨l,us,p2,pss,ps++[q],_,_,rfl,(s5.trans s67).upd_free hl,hl,upd_same,(hP.tsame s67.tups).tsame ts,ts _ _ (by rw[hp2,List.map_append];rfl),?_,by omega⟩
   rw[<- List.append_assoc,hfl,List.take_add_one,eq]
   rfl
  ·rintro σ H2 ⟨l,us,pl,pss,ps,v3,v4,rfl,s2,hl,hL,hP,hpl,hfl,hul⟩
   rw[List.take_of_length_le (Nat.le_refl _)] at hfl
   refine⟨fun σ' H'=>∃(us:List V) (pss:List (List Addr)),σ'=[some (.ref a),some (.ref t),some (.ref l),v3,v4]/\Same H H'/\H' l=some (.lst us)/\PcAt H' us pss/\pss.flatten=qs/\us.length<=300,?_,?_⟩
   ·refine⟨_,rfl,a,ns,11,rfl,s2.seq hS,by omega,by decide,by decide,fun c H3 s3=>⟨_,_,rfl,rfl,(by show(0:Int)<4;decide),rfl,_,rfl,?_⟩⟩
    have hL3:=s3 _ _ hL
    have hP3:=(hP.tsame s3.tups).snoc (s3 _ _ hpl)
    refine ifb ?_ ⟨_,_,rfl,s2.trans s3,hL3,hP3,by rw[List.flatten_append];simpa using hfl,by rw[List.length_append,List.length_singleton];omega⟩
    refine⟨_,rfl,.inl ⟨rfl,_,SqL.of hL3⟩,(by show 0<=sizeLine;decide),fun p hp=>?_⟩
    have s4:=(Same.refl H3).upd_free (o:=.tup []) hp
    have hL4:=s4 _ _ hL3
    have ts:TSame (upd H3 p (.tup [])) (upd (upd H3 p (.tup [])) l (.lst (us++[.ref pl]++[.ref p]))):=TSame.upd_lst (fun _ _ e=>e) hL4
    refine⟨l,_,_,rfl,rfl,hL4,small1000 (by rw[List.length_append,List.length_singleton];omega),us++[.ref pl]++[.ref p],pss++[ps]++[[]],rfl,(s2.trans (s3.trans s4)).upd_free hl,upd_same,?_,?_,?_⟩
    ·exact((hP3.tsame s4.tups).tsame ts).snoc (ps:=[]) (ts _ _ upd_same)
    ·rw[List.flatten_append,List.flatten_append]
     simpa using hfl
    ·rw[List.length_append,List.length_append,List.length_singleton,List.length_singleton]
     omega
   rintro σ' H3 ⟨us,pss,rfl,s3,hL,hP,hfl,hul⟩
   refine⟨fun σ' H'=>∃(l:Addr) (us:List V) (pss:List (List Addr)),σ'=[some (.ref a),some (.ref t),some (.ref l),v3,v4]/\Same H H'/\H' l=some (.lst us)/\PcAt H' us pss/\pss.flatten=qs/\us.length<=300,?_,?_⟩
   ·refine⟨_,rfl,a,ns,11,rfl,s3.seq hS,by omega,by decide,by decide,fun c H4 s4=>⟨_,_,rfl,rfl,(by show(0:Int)<4;decide),rfl,_,rfl,?_⟩⟩
    refine ifb ?_ ⟨l,us,pss,rfl,s3.trans s4,s4 _ _ hL,hP.tsame s4.tups,hfl,hul⟩
    refine⟨_,rfl,(by show 1<=sizeLine;decide),fun l2 hl2=>?_⟩
    have s5:=(Same.refl H4).upd_free (o:=.lst [.ref t]) hl2
    refine⟨l2,[.ref t],[qs],rfl,s3.trans (s4.trans s5),upd_same,?_,by simp,by simp⟩
    exact PcAt.snoc PcAt.nil ((s3.trans (s4.trans s5)) _ _ ht)
   rintro σ' H4 ⟨l,us,pss,rfl,s4,hL,hP,hfl,hul⟩
   refine⟨fun σ' H'=>∃(l:Addr) (us:List V) (pss:List (List Addr)),σ'=[some (.ref a),some (.ref t),some (.ref l),v3,v4]/\Same H H'/\H' l=some (.lst us)/\PcAt H' us pss/\pss.flatten=qs/\us.length<=300,?_,?_⟩
   ·refine⟨_,rfl,a,ns,11,rfl,s4.seq hS,by omega,by decide,by decide,fun c H5 s5=>⟨_,_,rfl,rfl,(by show(0:Int)<4;decide),rfl,_,rfl,?_⟩⟩
    refine ifb ?_ ⟨l,us,pss,rfl,s4.trans s5,s5 _ _ hL,hP.tsame s5.tups,hfl,hul⟩
    have ht5:=(s4.trans s5) _ _ ht
    refine⟨_,rfl,t,rfl,⟨_,SqT.of ht5⟩,fun D hD=>?_⟩
    refine lc_tup (K:=K) (a:=t) (xs:=qs.map V.ref) (fun j ys H6=>Same H5 H6/\H6 D=some (.lst ys)/\PcAt H6 ys ((qs.take j).map fun q=>[q])) (Nat.le_of_lt (small1000 (by omega)))
     ⟨(Same.refl H5).upd_free hD,upd_same,by rw[List.take_zero];exact PcAt.nil⟩ (fun j ys H6 h=>by rw[h.2.2.1,List.length_map,List.length_take];exact Nat.min_le_left _ _) (fun j ys H6 h=>SqT.of (h.1 _ _ ht5)) ?_ ?_
    ·rintro j ys H6 x N M hx ⟨u1,u2,u3⟩ hN hM
     rw[List.getElem?_map] at hx
     cases et:qs[j]? with
     |none=>rw[et] at hx;cases hx
     |some q=>
      rw[et] at hx
      cases hx
      refine⟨_,rfl,(by show 1<=sizeLine;decide),fun p hp=>?_⟩
      have s7:=(Same.refl H6).upd_free (o:=.tup [.ref q]) hp
      have hD7:=s7 _ _ u2
      have ts:TSame (upd H6 p (.tup [.ref q])) (upd (upd H6 p (.tup [.ref q])) D (.lst (ys++[.ref p]))):=TSame.upd_lst (fun _ _ e=>e) hD7
      refine hN _ _ hD7 ⟨(u1.trans s7).upd_free hD,upd_same,?_⟩
      rw[List.take_add_one,et,List.map_append]
      exact((u3.tsame s7.tups).tsame ts).snoc (ps:=[q]) (ts _ _ upd_same)
    ·rintro ys H6 ⟨u1,u2,u3⟩
     rw[hql,List.take_of_length_le (Nat.le_refl _)] at u3
     refine⟨D,ys,_,rfl,(s4.trans s5).trans u1,u2,u3,flat_sing qs,?_⟩
     have:=u3.1
     rw[List.length_map] at this
     omega
   rintro σ' H5 ⟨l,us,pss,rfl,s5,hL,hP,hfl,hul⟩
   exact⟨_,rfl,k l us pss H5 s5 hL hP hfl hul⟩
end
end QL
namespace QL
open PySem L2
def dAn (x:Nat×List Nat):PyData:=.tuple [.int (x.1:Int),.tuple (x.2.map fun(m:Nat)=>PyData.int (m:Int))]
theorem AnsAt.data {K:W.Frag}{H:Hp}:∀{us:List V} {an:List (Nat×List Nat)},AnsAt H us an->DsAt K H us (an.map dAn)
 | [],[],_=>.nil
 | [],_::_,h=>by have:=h.1;simp at this
 |_::_,[],h=>by have:=h.1;simp at this
 |u::us,x::an,h=>by
  obtain⟨t,a,h1,h2,h3⟩:=h.2 0 x rfl
  have eu:u=.ref t:=by simpa using h1
  subst eu
  refine .cons (.tup (SqT.of h2) (.cons (.int _) (.cons (.tup (SqT.of h3) (nats_at _)) .nil))) (AnsAt.data (an:=an) ⟨by have:=h.1;simpa using this,fun i y hy=>?_⟩)
  obtain⟨t',a',g1,g2,g3⟩:=h.2 (i+1) y (by simpa using hy)
  exact⟨t',a',by simpa using g1,g2,g3⟩
theorem nats_depth:∀ns:List Nat,PyData.depthAll (ns.map fun(m:Nat)=>PyData.int (m:Int))=0
 | []=>rfl
 |n::ns=>by
  rw[List.map_cons,PyData.depthAll,nats_depth ns]
  rfl
theorem an_lay:∀an:List (Nat×List Nat),PyData.canLayAll0 (an.map dAn)=true
 | []=>rfl
 |x::an=>by
  rw[List.map_cons,PyData.canLayAll0,an_lay an,Bool.and_true]
  show(PyData.canLay0 (.int (x.1:Int))&&(PyData.canLayAll0 (x.2.map fun(m:Nat)=>PyData.int (m:Int))&&PyData.canLayAll0 []))=true
  rw[nats_lay]
  rfl
theorem an_depth:∀an:List (Nat×List Nat),PyData.depthAll (an.map dAn)<=2
 | []=>Nat.zero_le _
 |x::an=>by
  rw[List.map_cons,PyData.depthAll]
  refine Nat.max_le.mpr ⟨?_,an_depth an⟩
  unfold dAn
  simp only[PyData.depth,PyData.depthAll,nats_depth]
  decide
theorem an_okL (an:List (Nat×List Nat)):DOk (.list (an.map dAn)):=⟨an_lay an,by
 rw[PyData.depth]
 have:=an_depth an
 omega⟩
end QL
namespace QL
open PySem L2
theorem Kept.tupsI {H H':Hp}{wa C dx:Addr}{fs:List (Str×V)}(k:Kept H H' wa)(h:H wa=some (.ins C dx fs)):TSame H H':=fun b xs e=>k b _ e fun z=>by
 rw[z,h] at e
 cases e
theorem Kept.base {H H1 H':Hp}{wa:Addr}(k:Kept H1 H' wa)(s:Same H H1)(h:H wa=none):Same H H':=fun b o e=>k b o (s _ _ e) (ne_of_none e h)
theorem flat_pre {α:Type}(pss:List (List α))(i:Nat):(pss.take i).flatten=pss.flatten.take (pss.take i).flatten.length:=by
 have e:pss.flatten=(pss.take i).flatten++(pss.drop i).flatten:=by rw[<- List.flatten_append,List.take_append_drop]
 rw[e,List.take_left]
theorem flat_le {α:Type}(pss:List (List α))(i:Nat):(pss.take i).flatten.length<=pss.flatten.length:=by
 have e:pss.flatten=(pss.take i).flatten++(pss.drop i).flatten:=by rw[<- List.flatten_append,List.take_append_drop]
 rw[e,List.length_append]
 omega
theorem flat_succ {α:Type}{pss:List (List α)}{i:Nat}{ps:List α}(h:pss[i]?=some ps):(pss.take (i+1)).flatten=(pss.take i).flatten++ps:=by
 rw[List.take_add_one,h,List.flatten_append]
 simp
theorem ents_pre {H:Hp}{qs:List Addr}{es:List Ent}(h:EntsAt H qs es)(m:Nat):EntsAt H (qs.take m) (es.take m):=by
 have:=ents_cut h 0 m
 rw[List.drop_zero,List.drop_zero] at this
 exact this
theorem ans_pre {es:List Ent}{q:Qn}(hq:q.Ok){m lo hi:Nat}(hm:m<=es.length)(h:hi+onN q<=m\/hi=0):ansM (es.take m) q lo hi=ansM es q lo hi:=ans_congr fun n _ hn=>by
 have ho0:=on_pos hq
 have hoo:((onN q:Nat):Int)=onM q:=Int.toNat_of_nonneg ho0
 exact found_pre hq hm (by omega) (.inr (by omega))
structure WM (P:Program)(w:World)(K:W.Frag)(mg:Str->Option Value)(base:Heap)(ks:Kd->Bool)(cl:Kd->Addr)(C:Addr)(d lev:Nat)(fI fT fE:Addr)(dI dT dE:FuncData):Prop where
 Y:WK K C
 mW:Mk K C fI
 gI:mg "Watch"=some (.ref C)
 bI:Binds K dI ["self","question"] []
 GI:FnOk P w K mg base CX0 1 fI dI ["self","question"] (spYi C)
 mT:Meth K C "take" fT
 bT:Binds K dT ["self","piece"] []
 GT:FnOk P w K mg base CX0 (lev+2) fT dT ["self","piece"] (spYt ks cl C d)
 mE:Meth K C "end" fE
 bE:Binds K dE ["self"] []
 GE:FnOk P w K mg base CX0 (lev+2) fE dE ["self"] (spYe ks cl C d)
end QL
namespace QL
open PySem L2
theorem toldL_of {H:Hp}{Q:VK}{o:Option (List Nat)}(h:∀v H',Same H H'->DueAs H' v o->Q v H'):ToldL H Q o:=by
 cases o with
 |none=>exact fun H' s=>h .non H' s rfl
 |some rows=>exact fun a H' s e=>h (.ref a) H' s ⟨a,rfl,e⟩
theorem same_of {H:Hp}{Q:VK}{E:XK}{v u:V}{o:Option (List Nat)}(hf:FoundAs H v o)(hd:DueAs H u o)(hl:∀rows,o=some rows->rows.length<=1000)(k:∀H',Same H H'->Q (.bl true) H'):spSa [v,u] H Q E:=by
 cases o with
 |none=>
  cases(show v=.non from hf)
  cases(show u=.non from hd)
  exact .inl ⟨rfl,k H (Same.refl H)⟩
 |some rows=>
  obtain⟨a,rfl,ha⟩:=hf
  obtain⟨b,rfl,hb⟩:=hd
  rw[vN_eq] at ha hb
  exact .inr ⟨a,b,zs rows,rfl,ha,hb,by rw[zs_len];exact hl rows rfl,k⟩
theorem AnsAt.drop {H:Hp}{us:List V}{an:List (Nat×List Nat)}(h:AnsAt H us an)(k:Nat):AnsAt H (us.drop k) (an.drop k):=
 ⟨by rw[List.length_drop,List.length_drop,h.1],fun i x hx=>by
  rw[List.getElem?_drop] at hx ⊢
  exact h.2 _ x hx⟩
theorem eqv_nilA (an:List (Nat×List Nat)):PyData.eqv (.list (an.map dAn)) (.list [])=decide (an=[]):=by
 cases an with
 |nil=>rfl
 |cons a r=>
  rw[List.map_cons,PyData.eqv,PyData.eqvAll]
  rfl
theorem ans_cut {es:List Ent}{q:Qn}{lo n hi:Nat}{rows:List Nat}(h1:lo<=n)(h2:n<hi)(hf:foundM es q n=some rows):(ansM es q lo hi).drop (ansM es q lo n).length=(n,rows)::ansM es q (n+1) hi:=by
 rw[<- ans_app es q h1 (Nat.le_of_lt h2),List.drop_left' rfl,<- ans_app es q (Nat.le_succ n) h2]
 have e:ansM es q n (n+1)=[(n,rows)]:=by
  rw[ans_succ es q (Nat.le_refl n),ans_same]
  unfold one1
  rw[hf]
  rfl
 rw[e]
 rfl
theorem ans_one_some {es:List Ent}{q:Qn}{lo n:Nat}{rows:List Nat}(h1:lo<=n)(hf:foundM es q n=some rows):(ansM es q lo (n+1)).length=(ansM es q lo n).length+1:=by
 rw[ans_succ es q h1,List.length_append]
 unfold one1
 rw[hf]
 rfl
theorem ans_one_none {es:List Ent}{q:Qn}{lo n:Nat}(h1:lo<=n)(hf:foundM es q n=none):ansM es q lo (n+1)=ansM es q lo n:=by
 rw[ans_succ es q h1]
 unfold one1
 rw[hf]
 exact List.append_nil _
def spTl (d:Nat):Sp:=fun vs H Q _=>∃(pf t p:Addr) (us:List V) (q:Qn) (es:List Ent) (lo hi:Nat),vs=[.ref pf,.ref t,.ref p,.int (lo:Int),.int (hi:Int)]/\H pf=some (.tup us)/\lo<=hi/\hi<=es.length/\AnsAt H us (ansM es q lo hi)/\AAt H q p/\q.dep<d/\q.Ok/\LogAt H t es/\es.length<=63/\(∀e∈es,EOk e)/\∀H':Hp,Same H H'->Q (.bl true) H'
section
variable {P:Program} {w:World} {K:W.Frag} {mg:Str->Option Value} {base:Heap} {d:Nat}
theorem scTl:FnScope ["_law_found","_law_log_here","_law_asked","_law_begun","_law_stop","_law_told_here","_law_n","_law_due","_law_number","_law_rows"] ["_law_found","_law_log_here","_law_asked","_law_begun","_law_stop"] (defScope sTl):=.of (by decide +kernel)
theorem ok_tl (F:Fun K "_law_told" "_law_told" sTl f fd)(T:Txt mg)
  (FJ:Fun K "_law_judged" "_law_judged" sJu fJ dJ) (bJ:Binds K dJ ["_law_log_here","_law_n","_law_asked"] []) (gJ:mg "_law_judged"=some (.ref fJ)) (GJ:FnOk P w K mg base CX0 (d+3) fJ dJ ["_law_log_here","_law_n","_law_asked"] (spJ d))
  (FS:Fun K "_law_same" "_law_same" sSa fS dS) (bS:Binds K dS ["_law_found",pDue] []) (gS:mg "_law_same"=some (.ref fS)):
  FnOk P w K mg base CX0 (d+4) f fd ["_law_found","_law_log_here","_law_asked","_law_begun","_law_stop"] (spTl d):=by
 have GS:FnOk P w K mg base CX0 1 fS dS ["_law_found",pDue] spSa:=ok_sa FS T
 refine F.ok (k:=d+3) scTl (fun vs H Q E h=>?_) (fun cdv A outer s H vs Q E hr h=>?_)
 ·obtain⟨pf,t,p,us,q,es,lo,hi,rfl,_⟩:=h
  rfl
 ·obtain⟨pf,t,p,us,q,es,lo,hi,rfl,hpf,hlh,hhe,hA,hp,hd,hok,L,el,eok,k⟩:=h
  have hu:=hr.units
  have hr1:Room 1 _:=hr.mono (by omega)
  refine⟨_,pss_cons (ps_if (pt_not (pt_val (pe_callB call_isinst (by rfl) T.isin PyProof.Rows.boot_isinstance (pa_cons (pv 0) (pa_cons (pe_bltn (v:=.ty "tuple") (by rfl) T.tuple PyProof.Rows.boot_tuple rfl) pa_nil))))) (pss_one (ps_ret pe_bl)) pss_nil)
   (pss_cons (ps_set (i:=5) scTl.nd rfl (Or.inl rfl) (pe_callTy call_list_of (by rfl) T.list PyProof.Rows.boot_list (pa_cons (pv 0) pa_nil)))
   (pss_cons (ps_for PassesOwn.never rfl (pi_range2 rfl T.range (pa_cons (pv 3) (pa_cons (pv 4) pa_nil))) (pg_name (i:=6) scTl.nd rfl (Or.inl rfl))
    (pss_cons (ps_set (i:=7) scTl.nd rfl (Or.inl rfl) (pe_call GJ hr rfl gJ FJ.kp bJ .nil pass0 (pa_cons (pv 1) (pa_cons (pv 6) (pa_cons (pv 2) pa_nil)))))
    (pss_one (ps_if (pt_cmp (pc_notN (pv 7)))
     (pss_cons (ps_if (PW.pt (pw_or (pt_cmpR (op_eqD hu) (pv 5) (pe_lst pa_nil) (nomark _)) (pw_or (pt_not (pt_val (pe_callB call_isinst (by rfl) T.isin PyProof.Rows.boot_isinstance (pa_cons (pe_ix ix_list (pv 5) pe_int (fun _ _=>rfl)) (pa_cons (pe_bltn (v:=.ty "tuple") (by rfl) T.tuple PyProof.Rows.boot_tuple rfl) pa_nil)))))
      (pw_or1 (pt_cmpR op_ne (pe_callB call_len_seq (by rfl) T.len PySem.boot_len (pa_cons (pe_ix ix_list (pv 5) pe_int (fun _ _=>rfl)) pa_nil)) pe_int (nomark _)))))) (pss_one (ps_ret pe_bl)) pss_nil)
     (pss_cons (ps_asg (pe_bm PySem.F.plainAttrs_list PySem.F.slot_list_pop PySem.F.type_list_pop mt_popAt (pv 5) (pa_cons pe_int pa_nil)) (pg_tup (n:=2) rfl (pgs_cons (pg_name (i:=8) scTl.nd rfl (Or.inl rfl)) (pgs_cons (pg_name (i:=9) scTl.nd rfl (Or.inl rfl)) pgs_nil))))
     (pss_one (ps_if (PW.pt (pw_or (pt_not (pt_val (pe_callB call_isinst (by rfl) T.isin PyProof.Rows.boot_isinstance (pa_cons (pv 8) (pa_cons (pe_bltn (v:=.ty "int") (by rfl) T.int PyProof.Rows.boot_int rfl) pa_nil))))) (pw_or (pt_val (pe_callB call_isinst (by rfl) T.isin PyProof.Rows.boot_isinstance (pa_cons (pv 8) (pa_cons (pe_bltn (v:=.ty "bool") (by rfl) T.bool PyProof.Rows.boot_bool rfl) pa_nil))))
      (pw_or (pt_cmpR op_ne (pv 8) (pv 6) (nomark _)) (pw_or1 (pt_not (pt_val (pe_call GS hr1 rfl gS FS.kp bS .nil pass0 (pa_cons (pv 9) (pa_cons (pv 7) pa_nil)))))))))) (pss_one (ps_ret pe_bl)) pss_nil)))) pss_nil))))
   (pss_one (ps_ret (pe_cmpR (op_eqD hu) (pv 5) (pe_lst pa_nil) (nomark _)))))),?_⟩
  refine⟨_,rfl,_,_,_,true,rfl,.tup hpf,rfl,true,rfl,iteF ?_⟩
  refine⟨_,rfl,pf,_,rfl,.inr (SqT.of hpf),fun l hl=>?_⟩
  have s1:Same H (upd H l (.lst us)):=(Same.refl H).upd_free hl
  have g1:upd H l (.lst us) l=some (.lst us):=upd_same
  generalize upd H l (.lst us)=H1 at s1 g1
  refine⟨_,rfl,_,rfl,_,_,rfl,⟨by omega,by omega,by omega,by omega⟩,?_⟩
  refine for_range (lo:=(lo:Int)) (n:=((hi:Int)-(lo:Int)).toNat) (fun i σ H'=>∃v4 v5 v6 v7:Option V,Same H H'/\H' l=some (.lst (us.drop (ansM es q lo (lo+i)).length))/\σ=[some (.ref pf),some (.ref t),some (.ref p),some (.int (lo:Int)),some (.int (hi:Int)),some (.ref l),v4,v5,v6,v7]) ⟨none,none,none,none,s1,by rw[Nat.add_zero,ans_same];exact g1,rfl⟩ ?_ ?_
  ·rintro n0 σ G1 hn0 ⟨v4,v5,v6,v7,w1,hl1,rfl⟩
   have e0:(lo:Int)+(n0:Int)=((lo+n0:Nat):Int):=by omega
   have hnl:lo<=lo+n0:=Nat.le_add_right _ _
   rw[e0]
   have es1:lo+(n0+1)=(lo+n0)+1:=rfl
   rw[es1]
   have hnh:lo+n0<hi:=by omega
   generalize lo+n0=n at hl1 hnl hnh
   have hn':n<es.length:=by omega
   refine⟨_,rfl,_,rfl,_,rfl,t,p,n,q,es,rfl,AAt.same w1 hp,hd,hok,L.same w1,by omega,eok,hn',toldL_of fun vd G2 w2 dd=>?_⟩
   have w12:=w1.trans w2
   cases hfe:foundM es q n with
   |none=>
    rw[hfe] at dd
    cases(show vd=.non from dd)
    exact⟨_,rfl,_,rfl,iteNS rfl ⟨_,_,_,_,w12,by rw[ans_one_none hnl hfe];exact w2 _ _ hl1,rfl⟩⟩
   |some rows=>
    have hrl:rows.length<=1000:=by
     have:=found_short q n rows hn' hfe
     omega
    rw[hfe] at dd
    obtain⟨ad,rfl,had⟩:=dd
    refine⟨_,rfl,_,rfl,?_⟩
    rw[refN]
    refine iteT ?_
    have hcut:=ans_cut hnl hnh hfe
    have hA2:=(hA.tsame w12.tups).drop (ansM es q lo n).length
    rw[hcut] at hA2
    obtain⟨tt,a,e1,e2,e3⟩:=hA2.2 0 _ rfl
    have hdr:us.drop (ansM es q lo n).length=.ref tt::us.drop ((ansM es q lo n).length+1):=by
     rw[List.getElem?_drop,Nat.add_zero] at e1
     obtain⟨hlt,e⟩:=List.getElem?_eq_some_iff.mp e1
     rw[List.drop_eq_getElem_cons hlt,e]
    have hl2:=w2 _ _ hl1
    rw[hdr] at hl2 hA2
    have hadl:ad≠l:=fun z=>by
     rw[z,hl2] at had
     injection had with had
     injection had with had
     cases rows with
     |nil=>cases had
     |cons m r=>injection had with had;cases had
    refine⟨_,rfl,Nat.zero_le _,fun le hle=>?_⟩
    have s3:Same G2 (upd G2 le (.lst [])):=(Same.refl G2).upd_free hle
    refine⟨.list (((n,rows)::ansM es q (n+1) hi).map dAn),.list [],.lst (SqL.of (s3 _ _ hl2)) (hA2.tsame s3.tups).data,.lst (SqL.of upd_same) .nil,an_okL _,an_okL [],_,rfl,?_⟩
    refine iteFK (show PyData.eqv _ _=false from by rw[eqv_nilA];rfl) ?_
    generalize upd G2 le (.lst [])=G3 at s3
    have hl3:=s3 _ _ hl2
    have ht3:=s3 _ _ e2
    refine⟨_,rfl,l,_,_,.ref tt,rfl,rfl,SqL.of hl3,atI_int (Int.le_refl 0) rfl,_,_,_,true,rfl,.tup ht3,rfl,true,rfl,iteF ?_⟩
    refine⟨_,rfl,l,_,_,.ref tt,rfl,rfl,SqL.of hl3,atI_int (Int.le_refl 0) rfl,tt,_,rfl,.inr (SqT.of ht3),rfl,_,rfl,iteFK (show(!decide (V.int ((2:Nat):Int)=V.int 2))=false from by decide +kernel) ?_⟩
    refine⟨_,rfl,.inl ⟨rfl,_,SqL.of hl3⟩,l,_,_,0,.ref tt,rfl,rfl,hl3,by decide,by decide,pop0 _,rfl,?_⟩
    have hlH:H l=none:=hl
    have w4:Same H (upd G3 l (.lst ((V.ref tt::us.drop ((ansM es q lo n).length+1)).eraseIdx 0))):=(w12.trans s3).upd_free hlH
    have ts:TSame G3 (upd G3 l (.lst ((V.ref tt::us.drop ((ansM es q lo n).length+1)).eraseIdx 0))):=TSame.upd_lst (fun _ _ e=>e) hl3
    have hl4:upd G3 l (.lst ((V.ref tt::us.drop ((ansM es q lo n).length+1)).eraseIdx 0)) l=some (.lst (us.drop ((ansM es q lo n).length+1))):=upd_same
    have had4:upd G3 l (.lst ((V.ref tt::us.drop ((ansM es q lo n).length+1)).eraseIdx 0)) ad=some (.lst (vN rows)):=by
     have hne:ad≠l:=hadl
     rw[upd_ne hne]
     exact s3 _ _ had
    generalize upd G3 l (.lst ((V.ref tt::us.drop ((ansM es q lo n).length+1)).eraseIdx 0))=G4 at w4 ts hl4 had4
    have ht4:=ts _ _ ht3
    have ha4:=ts _ _ (s3 _ _ e3)
    refine⟨tt,_,rfl,SqT.of ht4,rfl,_,_,rfl,_,_,rfl,rfl,?_⟩
    refine⟨_,rfl,_,_,_,true,rfl,.int _,rfl,true,rfl,iteF ?_⟩
    refine⟨_,rfl,_,_,_,false,rfl,.int _,rfl,false,rfl,iteF ?_⟩
    refine⟨_,rfl,_,rfl,rfl,_,rfl,iteFK (by simp) ?_⟩
    refine⟨_,rfl,_,rfl,?_⟩
    try unfold tNil
    show spSa [V.ref a,V.ref ad] G4 _ _
    refine same_of (o:=some rows) ⟨a,rfl,ha4⟩ ⟨ad,rfl,had4⟩ (fun r h=>by cases h;exact hrl) fun G5 w5=>⟨true,rfl,iteF ⟨_,_,_,_,w4.trans w5,?_,rfl⟩⟩
    rw[ans_one_some hnl hfe]
    exact w5 _ _ hl4
  ·rintro σ G1 ⟨v4,v5,v6,v7,w1,hl1,rfl⟩
   have hnil:us.drop (ansM es q lo (lo+((hi:Int)-(lo:Int)).toNat)).length=[]:=by
    rw[show lo+((hi:Int)-(lo:Int)).toNat=hi by omega,<- hA.1,List.drop_length]
   rw[hnil] at hl1
   refine⟨_,rfl,Nat.zero_le _,fun le hle=>?_⟩
   have s3:Same G1 (upd G1 le (.lst [])):=(Same.refl G1).upd_free hle
   exact⟨.list [],.list [],.lst (SqL.of (s3 _ _ hl1)) .nil,.lst (SqL.of upd_same) .nil,an_okL [],an_okL [],k _ (w1.trans s3)⟩
end
end QL
namespace QL
open PySem L2
def spLaw (K:W.Frag):Sp:=fun vs H Q _=>∃(a:Addr) (ns:List Int),vs=[.ref a]/\SqL K H a (ns.map V.int)/\ns.length<=63/\∀H',Q (.bl true) H'
section
variable {P:Program} {w:World} {K:W.Frag} {mg:Str->Option Value} {base:Heap} {cl:Kd->Addr} {C fI fT fE2:Addr} {dI dT dE2:FuncData}
abbrev nLaw:List Str:=["_law_script","_law_pool_here","_law_letters_here","_law_log_here","_law_asked","_law_back","_law_on","_law_watch","_law_there","_law_begun","_law_piece","_law_stop"]
theorem scLaw:FnScope nLaw ["_law_script"] (defScope sLaw):=.of (by decide +kernel)
def scopeC:Scope:=⟨.function,[(".0",.local),("_law_k",.local),("_law_cell_at",.globalImplicit),("_law_script",.free)],false,false,[]⟩
theorem scC:BlkScope (defScope sLaw) nLaw ["_law_k"] ["_law_script"] [0] scopeC:=.of (by decide +kernel)
theorem ok_law (F:Fun K "law" "law" sLaw f fd)(T:Txt mg)
  (FC:Fun K "_law_cell_at" "_law_cell_at" sCe fC dC) (bC:Binds K dC ["_law_script","_law_k"] []) (gC:mg "_law_cell_at"=some (.ref fC))
  (FP:Fun K "_law_pool" "_law_pool" sPo fP dP) (bP:Binds K dP ["_law_cell","_law_other"] []) (gP:mg "_law_pool"=some (.ref fP)) (GP:FnOk P w K mg base CX0 2 fP dP ["_law_cell","_law_other"] spPo2)
  (FL:Fun K "_law_letters" "_law_letters" sLe fL dL) (bL:Binds K dL ["_law_cell"] []) (gL:mg "_law_letters"=some (.ref fL))
  (FG:Fun K "_law_log" "_law_log" sLg fG dG) (bG:Binds K dG ["_law_script","_law_letters_here","_law_pool_here"] []) (gG:mg "_law_log"=some (.ref fG)) (GG:FnOk P w K mg base CX0 3 fG dG ["_law_script","_law_letters_here","_law_pool_here"] (spLg K))
  (FGw:Fun K "_law_grown" "_law_grown" sGw fGw dGw) (bGw:Binds K dGw ["_law_cells","_law_letters_here","_law_pool_here","_law_within"] []) (gGw:mg "_law_grown"=some (.ref fGw)) (GGw:FnOk P w K mg base CX0 8 fGw dGw ["_law_cells","_law_letters_here","_law_pool_here","_law_within"] (spGw 5))
  (FTe:Fun K "_law_text" "_law_text" sTe fTe dTe) (bTe:Binds K dTe ["_law_asked"] []) (gTe:mg "_law_text"=some (.ref fTe)) (GTe:FnOk P w K mg base CX0 6 fTe dTe ["_law_asked"] (spTe 5))
  (FQo:Fun K "question_of" "question_of" sQo fQo dQo) (bQo:Binds K dQo ["text"] []) (gQo:mg "question_of"=some (.ref fQo)) (GQo:FnOk P w K mg base CX0 18 fQo dQo ["text"] (spQo cl 5))
  (WW:WM P w K mg base ks cl C 5 8 fI fT fE2 dI dT dE2) (FYk:Fun K "kept" "Watch.kept" sYk fYk dYk) (bYk:Binds K dYk ["self"] []) (mYk:Meth K C "kept" fYk)
  (FLk:Fun K "_law_looks" "_law_looks" sLk fLk dLk) (bLk:Binds K dLk ["_law_asked"] []) (gLk:mg "_law_looks"=some (.ref fLk)) (GLk:FnOk P w K mg base CX0 6 fLk dLk ["_law_asked"] (spLk 5))
  (FPc:Fun K "_law_pieces" "_law_pieces" sPc fPc dPc) (bPc:Binds K dPc ["_law_script","_law_log_here"] []) (gPc:mg "_law_pieces"=some (.ref fPc)) (GPc:FnOk P w K mg base CX0 2 fPc dPc ["_law_script","_law_log_here"] (spPc K))
  (FTl:Fun K "_law_told" "_law_told" sTl fTl dTl) (bTl:Binds K dTl ["_law_found","_law_log_here","_law_asked","_law_begun","_law_stop"] []) (gTl:mg "_law_told"=some (.ref fTl)) (GTl:FnOk P w K mg base CX0 9 fTl dTl ["_law_found","_law_log_here","_law_asked","_law_begun","_law_stop"] (spTl 5)):
  FnOk P w K mg base CX0 19 f fd ["_law_script"] (spLaw K):=by
 have GC:FnOk P w K mg base CX0 1 fC dC ["_law_script","_law_k"] (spCe K):=ok_ce FC T
 have GK:FnOk P w K mg base CX0 1 fYk dYk ["self"] (spYk C):=ok_yk FYk T WW.Y
 have GL:FnOk P w K mg base CX0 1 fL dL ["_law_cell"] spLe:=ok_le FL
 refine F.ok scLaw (fun vs H Q E h=>?_) (fun cdv A outer s H vs Q E hr h=>?_)
 ·obtain⟨a,ns,rfl,_⟩:=h
  rfl
 ·obtain⟨a,ns,rfl,hS,hln,k⟩:=h
  have hr1:Room 1 _:=hr.mono (by decide)
  have hr2:Room 2 _:=hr.mono (by decide)
  have hr3:Room 3 _:=hr.mono (by decide)
  have hr6:Room 6 _:=hr.mono (by decide)
  have hr8:Room 8 _:=hr.mono (by decide)
  have hr9:Room 9 _:=hr.mono (by decide)
  have hrT:Room 10 _:=hr.mono (by decide)
  have hu:=hr.units
  refine⟨_,pss_cons (ps_set (i:=1) scLaw.nd rfl (Or.inl rfl) (pe_call GP hr2 rfl gP FP.kp bP .nil pass0 (pa_cons (pe_call GC hr1 rfl gC FC.kp bC .nil pass0 (pa_cons (pv 0) (pa_cons pe_int pa_nil))) (pa_cons (pe_call GC hr1 rfl gC FC.kp bC .nil pass0 (pa_cons (pv 0) (pa_cons pe_int pa_nil))) pa_nil))))
   (pss_cons (ps_set (i:=2) scLaw.nd rfl (Or.inl rfl) (pe_call GL hr1 rfl gL FL.kp bL .nil pass0 (pa_cons (pe_call GC hr1 rfl gC FC.kp bC .nil pass0 (pa_cons (pv 0) (pa_cons pe_int pa_nil))) pa_nil)))
   (pss_cons (ps_set (i:=3) scLaw.nd rfl (Or.inl rfl) (pe_call GG hr3 rfl gG FG.kp bG .nil pass0 (pa_cons (pv 0) (pa_cons (pv 2) (pa_cons (pv 1) pa_nil)))))
   (pss_cons (ps_set (i:=4) scLaw.nd rfl (Or.inl rfl) (pe_call GGw hr8 rfl gGw FGw.kp bGw .nil pass0 (pa_cons (pe_lc scC rfl rfl rfl (pi_range1 rfl T.range (pa_cons pe_int pa_nil)) (fun fp C s1 H1=>pg_name (i:=0) scC.nd rfl (Or.inl rfl)) (fun fp C s1 H1=>pts_nil)
    (fun fp C s1 H1=>pe_call GC hr1 rfl gC FC.kp bC .nil pass0 (pa_cons (pv 1) (pa_cons (pe_op op_add pe_int (pv 0)) pa_nil)))) (pa_cons (pv 2) (pa_cons (pv 1) (pa_cons pe_bl pa_nil))))))
   (pss_cons (ps_asg (pe_call GLk hr6 rfl gLk FLk.kp bLk .nil pass0 (pa_cons (pv 4) pa_nil)) (pg_lst (n:=2) rfl (pgs_cons (pg_name (i:=5) scLaw.nd rfl (Or.inl rfl)) (pgs_cons (pg_name (i:=6) scLaw.nd rfl (Or.inl rfl)) pgs_nil))))
   (pss_cons (ps_set (i:=7) scLaw.nd rfl (Or.inl rfl) (pe_make WW.mW WW.GI hr2 rfl WW.gI WW.bI .nil pass0 (pa_cons (pe_call GQo hr rfl gQo FQo.kp bQo .nil pass0 (pa_cons (pe_call GTe hr6 rfl gTe FTe.kp bTe .nil pass0 (pa_cons (pv 4) pa_nil)) pa_nil)) pa_nil)))
   (pss_cons (ps_set (i:=8) scLaw.nd rfl (Or.inl rfl) pe_int)
   (pss_cons (ps_set (i:=9) scLaw.nd rfl (Or.inl rfl) pe_int)
   (pss_cons (ps_for PassesOwn.never rfl (pi_list (pe_call GPc hr2 rfl gPc FPc.kp bPc .nil pass0 (pa_cons (pv 0) (pa_cons (pv 3) pa_nil)))) (pg_name (i:=10) scLaw.nd rfl (Or.inl rfl))
    (pss_cons (ps_set (i:=8) scLaw.nd rfl (Or.inl rfl) (pe_op op_add (pv 8) (pe_callB call_len_seq (by rfl) T.len PySem.boot_len (pa_cons (pv 10) pa_nil))))
    (pss_cons (ps_set (i:=11) scLaw.nd rfl (Or.inl rfl) (pe_callB (call_max2 rfl) (by rfl) T.max PyProof.Rows.boot_max (pa_cons (pv 9) (pa_cons (pe_op op_sub (pv 8) (pv 6)) pa_nil))))
    (pss_cons (ps_if (PW.pt (pw_or (pt_not (pt_val (pe_call GTl hr9 rfl gTl FTl.kp bTl .nil pass0 (pa_cons (pe_meth (pv 7) WW.Y.cls WW.mT WW.GT hrT WW.bT .nil pass0 (pa_cons (pv 10) pa_nil)) (pa_cons (pv 3) (pa_cons (pv 4) (pa_cons (pv 9) (pa_cons (pv 11) pa_nil))))))))
     (pw_or1 (pt_cmpR op_gt (pe_meth0 (pv 7) WW.Y.cls mYk GK hr1 bYk .nil pass0) (pe_op op_add (pv 5) (pv 6)) (nomark _))))) (pss_one (ps_ret pe_bl)) pss_nil)
    (pss_one (ps_set (i:=9) scLaw.nd rfl (Or.inl rfl) (pv 11)))))))
   (pss_one (ps_ret (pe_and (pe_call GTl hr9 rfl gTl FTl.kp bTl .nil pass0 (pa_cons (pe_meth0 (pv 7) WW.Y.cls WW.mE WW.GE hrT WW.bE .nil pass0) (pa_cons (pv 3) (pa_cons (pv 4) (pa_cons (pv 9) (pa_cons (pe_callB call_len_seq (by rfl) T.len PySem.boot_len (pa_cons (pv 3) pa_nil)) pa_nil))))))
    (pe_one (pe_cmpR op_le (pe_meth0 (pv 7) WW.Y.cls mYk GK hr1 bYk .nil pass0) (pe_op op_add (pv 5) (pv 6)) (nomark _)))))))))))))),?_⟩
  refine⟨_,rfl,a,ns,0,rfl,hS,by omega,by decide,by decide,fun c0 H1 s1=>?_⟩
  refine⟨_,rfl,a,ns,1,rfl,s1.seq hS,by omega,by decide,by decide,fun c1 H2 s2=>?_⟩
  refine⟨c0,c1,rfl,fun po ws H3 s3 hpo wl wt=>?_⟩
  have t3:Same H H3:=(s1.trans s2).trans s3
  refine⟨_,rfl,a,ns,2,rfl,t3.seq hS,by omega,by decide,by decide,fun c2 H4 s4=>?_⟩
  refine⟨c2,rfl,fun le ls H5 s5 hle ll lb=>?_⟩
  have t5:Same H3 H5:=s4.trans s5
  refine⟨_,rfl,_,rfl,_,rfl,a,le,po,ns,ls,ws,rfl,(t3.trans t5).seq hS,hln,hle,ll,lb,t5 _ _ hpo,wl,fun x hx=>(wt x hx).tn.tx,fun t es H6 s6 L el eok=>?_⟩
  have t6:Same H H6:=(t3.trans t5).trans s6
  have hS6:=t6.seq hS
  have hle6:=s6 _ _ hle
  have hpo6:=s6 _ _ (t5 _ _ hpo)
  refine⟨_,rfl,by decide,by decide,fun D hD=>?_⟩
  refine lc_range (lo:=0) (n:=(5:Int).toNat) (fun j ys H7=>Same H6 H7/\∃cs:List Int,ys=cs.map V.int/\cs.length=j/\H7 D=some (.lst ys)) (by decide) ⟨(Same.refl H6).upd_free hD,[],rfl,rfl,upd_same⟩
   (fun j ys H7 ⟨_,cs,h1,h2,_⟩=>by rw[h1,List.length_map,h2];exact Nat.le_refl _) ?_ ?_
  ·rintro j ys H7 N M hj ⟨u1,cs,rfl,rfl,hD7⟩ hN hM
   refine⟨_,rfl,_,rfl,_,_,rfl,rfl,a,ns,_,rfl,u1.seq hS6,by omega,by omega,by omega,fun z H8 u8=>?_⟩
   exact hN _ H8 (u8 _ _ hD7) ⟨(u1.trans u8).upd_free hD,cs++[z],by rw[List.map_append];rfl,by rw[List.length_append];rfl,upd_same⟩
  rintro ys H7 ⟨u7,cs,rfl,hcl,hD7⟩
  have nDa:D≠le:=fun z=>by
   rw[z,hle6] at hD
   cases hD
  have nDb:D≠po:=fun z=>by
   rw[z,hpo6] at hD
   cases hD
  refine⟨_,rfl,_,rfl,D,le,po,false,cs,ls,ws,rfl,hD7,by omega,by omega,by omega,nDa,nDb,u7 _ _ hle6,ll,lb,u7 _ _ hpo6,wl,wt,fun p q cs' H8 kp8 hD8 lt8 hp hd hok hpl=>?_⟩
  have hd5:q.dep<5:=by omega
  have hpl40:q.pcs.length<=40:=by omega
  have L8:LogAt H8 t es:=(L.same u7).tsame (kp8.tups hD7)
  have hle8:=kp8 _ _ (u7 _ _ hle6) (Ne.symm nDa)
  have hpo8:=kp8 _ _ (u7 _ _ hpo6) (Ne.symm nDb)
  have hS8:SqL K H8 a (ns.map V.int):=by
   rcases hS6 with h|h
   ·rcases h with h|⟨ob,h⟩
    ·exact .inl (.inl (kp8 _ _ (u7 _ _ h) (ne_of_none h hD)))
    ·exact .inl (.inr ⟨ob,kp8 _ _ (u7 _ _ h) (ne_of_none h hD)⟩)
   ·exact .inr h
  have iq:=all_in q
  have hb0:=back_pos hok.ok
  have ho0:=on_pos hok.ok
  have hbb:((bkN q:Nat):Int)=backM q:=Int.toNat_of_nonneg hb0
  have hoo:((onN q:Nat):Int)=onM q:=Int.toNat_of_nonneg ho0
  have e63:es.length<=63:=by omega
  refine⟨_,rfl,p,q,rfl,hp,hd5,fun lb2 H9 s9 hlb=>?_⟩
  refine⟨lb2,_,rfl,SqL.of hlb,rfl,_,_,rfl,_,_,rfl,rfl,?_⟩
  refine⟨_,rfl,p,q,false,rfl,AAt.same s9 hp,hd5,hok,by omega,fun Ha sa=>?_⟩
  refine⟨q,rfl,hok,hd5,hpl40,fun o H10 sb hq10=>?_⟩
  have s10:=(s9.trans sa).trans sb
  obtain⟨qs,ht9,hE9⟩:=id (L8.same s10)
  have hel:qs.length=es.length:=hE9.1
  have hS10:SqL K H10 a (ns.map V.int):=s10.seq hS8
  intro x dx nx ndx nex
  refine⟨x,dx,o,rfl,upd_same,fun H11 hW kp=>⟨rfl,?_⟩⟩
  have s11:Same H10 H11:=(Old.new (C:=C) (fs:=[]) nx ndx).then kp
  have hW11:=hW q
  have keeps:∀(H':Hp) (rs:List Addr),WSt C H' x q o rs->∃(dx te:Addr) (fs:List (Str×V)) (us:List V),H' x=some (.ins C dx fs)/\fs.lookup ("entries":Str)=some (.ref te)/\fs.lookup ("kept":Str)=none/\H' te=some (.tup us)/\(us.length:Int)<=backM q+onM q:=by
   rintro H' rs ⟨dx,te,fs,h1,h2,h3⟩
   refine⟨dx,te,fs,_,h1,h2.e,h2.no.2.2.2.2,h3,?_⟩
   rw[List.length_map,List.length_drop]
   omega
  refine⟨_,rfl,_,rfl,a,t,ns,qs,rfl,s11.seq hS10,by omega,s11 _ _ ht9,by omega,fun lp up pss H12 s12 hlp hP hfl hul=>?_⟩
  have hW12:=hW11.same s12
  have t12:=s11.trans s12
  refine⟨lp,rfl,⟨_,SqL.of hlp⟩,?_⟩
  generalize hG:H12=G12 at s12 hlp hP hW12 t12
  have nlx:∀(H':Hp),H' lp=some (.lst up)->∀(dx:Addr) (fs:List (Str×V)),H' x=some (.ins C dx fs)->lp≠x:=fun H' h1 dx fs h2 z=>by rw[z,h2] at h1;cases h1
  have hp10:=AAt.same s10 hp
  have L10:=L8.same s10
  refine for_list (K:=K) (a:=lp) (xs:=up) (fun i σ H3=>∃(v10 v11:Option V),σ=[some (.ref a),some (.ref po),some (.ref le),some (.ref t),some (.ref p),some (.int (backM q)),some (.int (onM q)),some (.ref x),some (.int (((pss.take i).flatten.length:Nat):Int)),some (.int (((pss.take i).flatten.length-onN q:Nat):Int)),v10,v11]/\Same H10 H3/\WSt C H3 x q o (pss.take i).flatten/\H3 lp=some (.lst up)/\PcAt H3 up pss)
   ⟨none,none,?_,t12,by rw[List.take_zero];exact hW12,hlp,hP⟩ (fun i σ H3 _ ⟨_,_,_,_,_,h,_⟩=>SqL.of h) ?_ ?_
  ·have z:((([]:List (List Addr)).flatten.length-onN q:Nat):Int)=0:=by show((0-onN q:Nat):Int)=0;omega
   rw[List.take_zero,z]
   rfl
  ·rintro i u σ H3 hu' ⟨v10,v11,rfl,s3,hW3,hlp3,hP3⟩
   have hi:i<pss.length:=by
    have:=(List.getElem?_eq_some_iff.mp hu').1
    have:=hP3.1
    omega
   obtain⟨tp,e1,e2⟩:=hP3.2 i pss[i] (by simp[hi])
   rw[e1] at hu'
   cases hu'
   have eps:pss[i]?=some pss[i]:=by simp[hi]
   have efl:=flat_succ eps
   have ele:=flat_le pss (i+1)
   have epre:=flat_pre pss (i+1)
   rw[hfl] at ele epre
   obtain⟨dxw,tew,fsw,w1,w2,w3⟩:=hW3
   have hm:(pss.take (i+1)).flatten.length<=es.length:=by omega
   have hE3:EntsAt H3 ((pss.take i).flatten++pss[i]) (es.take (pss.take (i+1)).flatten.length):=by
    rw[<- efl]
    have:=ents_pre (hE9.tsame s3.tups) (pss.take (i+1)).flatten.length
    rw[<- epre] at this
    exact this
   have htl:(es.take (pss.take (i+1)).flatten.length).length=(pss.take (i+1)).flatten.length:=by rw[List.length_take];omega
   have hlen2:(pss.take (i+1)).flatten.length=(pss.take i).flatten.length+pss[i].length:=by rw[efl,List.length_append]
   refine⟨_,rfl,_,rfl,tp,_,rfl,.inr (SqT.of e2),_,_,rfl,rfl,?_⟩
   have et:(((pss.take i).flatten.length:Nat):Int)+(((pss[i].map V.ref).length:Nat):Int)=(((pss.take (i+1)).flatten.length:Nat):Int):=by rw[List.length_map];omega
   show gName 8 (V.int ((((pss.take i).flatten.length:Nat):Int)+(((pss[i].map V.ref).length:Nat):Int))) _ H3 _
   rw[et]
   refine⟨_,rfl,_,rfl,_,rfl,_,_,rfl,rfl,_,_,rfl,?_⟩
   have est:(if (((pss.take (i+1)).flatten.length:Nat):Int)-onM q > (((pss.take i).flatten.length-onN q:Nat):Int) then(((pss.take (i+1)).flatten.length:Nat):Int)-onM q else(((pss.take i).flatten.length-onN q:Nat):Int))=(((pss.take (i+1)).flatten.length-onN q:Nat):Int):=by
    split<;>omega
   rw[est]
   refine⟨_,rfl,x,dxw,fsw,rfl,w1,w2.no.1,_,rfl,x,tp,o,(pss.take i).flatten,pss[i],es.take (pss.take (i+1)).flatten.length,q,rfl,⟨dxw,tew,fsw,w1,w2,w3⟩,QAt.same s3 hq10,hd5,hok.ok,iq,e2,hE3,by omega,fun pf us4 H4 kp4 hpf hA4 hW4=>?_⟩
   rw[htl] at hA4
   rw[ans_pre hok.ok hm (by omega)] at hA4
   rw[<- efl] at hW4
   have s4:Same H10 H4:=kp4.base s3 nx
   have ts4:=kp4.tupsI w1
   have hlp4:=kp4 _ _ hlp3 (nlx H3 hlp3 _ _ w1)
   have hP4:=hP3.tsame ts4
   refine⟨_,rfl,_,rfl,_,rfl,_,rfl,pf,t,p,us4,q,es,_,_,rfl,hpf,by omega,by omega,hA4,AAt.same s4 hp10,hd5,hok.ok,L10.same s4,e63,eok,fun H5 s5=>⟨true,rfl,iteF ?_⟩⟩
   have s45:=s4.trans s5
   obtain⟨k1,k2,k3,k4,k5,k6,k7,k8,k9⟩:=keeps _ _ (hW4.same s5)
   refine⟨_,rfl,x,k1,k3,rfl,k5,k7,x,k1,k2,k3,k4,rfl,k5,k6,k8,_,rfl,_,rfl,_,_,rfl,rfl,_,_,rfl,rfl,_,rfl,?_⟩
   refine iteFK (decide_eq_false (by omega)) ?_
   exact⟨_,rfl,some (.ref tp),some (.int (((pss.take (i+1)).flatten.length-onN q:Nat):Int)),rfl,s45,hW4.same s5,s5 _ _ hlp4,hP4.tsame s5.tups⟩
  ·rintro σ H3 ⟨v10,v11,rfl,s3,hW3,hlp3,hP3⟩
   rw[hP3.1,List.take_of_length_le (Nat.le_refl _),hfl] at hW3
   rw[hP3.1,List.take_of_length_le (Nat.le_refl _),hfl,hel]
   obtain⟨dxw,tew,fsw,w1,w2,w3⟩:=hW3
   refine⟨_,rfl,x,dxw,fsw,rfl,w1,w2.no.2.1,x,o,qs,es,q,rfl,⟨dxw,tew,fsw,w1,w2,w3⟩,QAt.same s3 hq10,hd5,hok.ok,iq,hE9.tsame s3.tups,e63,fun pf us4 H4 kp4 hpf hA4 hO4=>?_⟩
   have s4:Same H10 H4:=kp4.base s3 nx
   have hql:(qs.map V.ref).length=es.length:=by rw[List.length_map];exact hel
   refine⟨_,rfl,_,rfl,_,rfl,_,rfl,t,_,rfl,.inr (SqT.of (s4 _ _ ht9)),?_⟩
   rw[hql]
   refine⟨pf,t,p,us4,q,es,_,_,rfl,hpf,by omega,Nat.le_refl _,hA4,AAt.same s4 hp10,hd5,hok.ok,L10.same s4,e63,eok,fun H5 s5=>⟨true,rfl,iteT ?_⟩⟩
   obtain⟨dx5,qo5,te5,fs5,f5,lo5,o1,o2,o3⟩:=hO4
   refine⟨_,rfl,x,dx5,fs5,rfl,s5 _ _ o1,o2.no.2.2.2.2,x,dx5,te5,fs5,[],rfl,s5 _ _ o1,o2.e,s5 _ _ o3,_,rfl,_,rfl,_,_,rfl,rfl,_,_,rfl,rfl,?_⟩
   show Q (V.bl (decide ((0:Int)<=backM q+onM q))) _
   rw[decide_eq_true (by omega)]
   exact k _
end
end QL
namespace QL
open PySem L2
theorem kinds_nd (as:Kd->Addr):((kindsT as).map (·.1)).Nodup:=by
 show([Str.ofString "row",Str.ofString "with",Str.ofString "behind",Str.ofString "ahead",Str.ofString "times",Str.ofString "both",Str.ofString "either",Str.ofString "not"]:List Str).Nodup
 decide +kernel
section
variable {P:Program} {w:World} {K:W.Frag} {mg:Str->Option Value} {base:Heap} {cl:Kd->Addr}
theorem ok_all {as:Kd->Addr}(F:Fun K "law" "law" sLaw f fd)(T:Txt mg)(TB:Tab P w K mg base ks cl 5 8)
  (M4:Mk4 P w K mg base cl fRi fWi fHi fAi dRi dWi dHi dAi) (M5:Mk5 P w K mg base cl fTi fJi fNi dTi dJi dNi) (TT:TK w K mg aK aL aG as) (WW:WM P w K mg base ks cl C 5 8 fI fT fE2 dI dT dE2) (FYk:Fun K "kept" "Watch.kept" sYk fYk dYk) (bYk:Binds K dYk ["self"] []) (mYk:Meth K C "kept" fYk)
  (FC1:Fun K "_law_cell_at" "_law_cell_at" sCe fC1 dC1) (bC1:Binds K dC1 ["_law_script","_law_k"] []) (gC1:mg "_law_cell_at"=some (.ref fC1))
  (FM1:Fun K "_law_mix" "_law_mix" sMi fM1 dM1) (bM1:Binds K dM1 ["_law_cell","_law_k"] []) (gM1:mg "_law_mix"=some (.ref fM1))
  (FP:Fun K "_law_pool" "_law_pool" sPo fP dP) (bP:Binds K dP ["_law_cell","_law_other"] []) (gP:mg "_law_pool"=some (.ref fP))
  (FL:Fun K "_law_letters" "_law_letters" sLe fL dL) (bL:Binds K dL ["_law_cell"] []) (gL:mg "_law_letters"=some (.ref fL))
  (FE:Fun K "_law_entry" "_law_entry" sEn fE dE) (bE:Binds K dE ["_law_cell","_law_letters_here","_law_pool_here"] []) (gE:mg "_law_entry"=some (.ref fE))
  (FG1:Fun K "_law_log" "_law_log" sLg fG1 dG1) (bG1:Binds K dG1 ["_law_script","_law_letters_here","_law_pool_here"] []) (gG1:mg "_law_log"=some (.ref fG1))
  (FS:Fun K "_law_same" "_law_same" sSa fS dS) (bS:Binds K dS ["_law_found","_law_due"] []) (gS:mg "_law_same"=some (.ref fS))
  (FCo:Fun K "_law_count" "_law_count" sCo fCo dCo) (bCo:Binds K dCo ["_law_cell","_law_k"] []) (gCo:mg "_law_count"=some (.ref fCo))
  (FSh:Fun K "_law_short" "_law_short" sSh fSh dSh) (bSh:Binds K dSh ["_law_cell","_law_letters_here","_law_pool_here"] []) (gSh:mg "_law_short"=some (.ref fSh))
  (FNr:Fun K "_law_nearer" "_law_nearer" sNr fNr dNr) (bNr:Binds K dNr ["_law_asked","_law_within"] []) (gNr:mg "_law_nearer"=some (.ref fNr))
  (FGw:Fun K "_law_grown" "_law_grown" sGw fGw dGw) (bGw:Binds K dGw ["_law_cells","_law_letters_here","_law_pool_here","_law_within"] []) (gGw:mg "_law_grown"=some (.ref fGw))
  (FGa:Fun K "_law_gap" "_law_gap" sGa fGa dGa) (bGa:Binds K dGa ["_law_entry_here","_law_letter","_law_gap_here"] []) (gGa:mg "_law_gap"=some (.ref fGa))
  (FNe:Fun K "_law_near" "_law_near" sNe fNe dNe) (bNe:Binds K dNe ["_law_log_here","_law_n","_law_asked"] []) (gNe:mg "_law_near"=some (.ref fNe))
  (FJu:Fun K "_law_judged" "_law_judged" sJu fJu dJu) (bJu:Binds K dJu ["_law_log_here","_law_n","_law_asked"] []) (gJu:mg "_law_judged"=some (.ref fJu))
  (FLk:Fun K "_law_looks" "_law_looks" sLk fLk dLk) (bLk:Binds K dLk ["_law_asked"] []) (gLk:mg "_law_looks"=some (.ref fLk))
  (FPc:Fun K "_law_pieces" "_law_pieces" sPc fPc dPc) (bPc:Binds K dPc ["_law_script","_law_log_here"] []) (gPc:mg "_law_pieces"=some (.ref fPc))
  (FTl:Fun K "_law_told" "_law_told" sTl fTl dTl) (bTl:Binds K dTl ["_law_found","_law_log_here","_law_asked","_law_begun","_law_stop"] []) (gTl:mg "_law_told"=some (.ref fTl))
  (FTe:Fun K "_law_text" "_law_text" sTe fTe dTe) (bTe:Binds K dTe ["_law_asked"] []) (gTe:mg "_law_text"=some (.ref fTe))
  (FXm:Fun K "made" "made" sMd fXm dXm) (bXm:Binds K dXm ["word","parts"] []) (gXm:mg "made"=some (.ref fXm))
  (FXv:Fun K "value_of" "value_of" sVo fXv dXv) (bXv:Binds K dXv ["kind","piece"] []) (gXv:mg "value_of"=some (.ref fXv))
  (FXp:Fun K "piece_at" "piece_at" sPi fXp dXp) (bXp:Binds K dXp ["pieces","at"] []) (gXp:mg "piece_at"=some (.ref fXp))
  (FXa:Fun K "part_at" "part_at" sPt fXa dXa) (bXa:Binds K dXa ["kind","pieces","at","within"] []) (gXa:mg "part_at"=some (.ref fXa))
  (FXq:Fun K "question_at" "question_at" sQt fXq dXq) (bXq:Binds K dXq ["pieces","at","within"] []) (gXq:mg "question_at"=some (.ref fXq))
  (FXo:Fun K "question_of" "question_of" sQo fXo dXo) (bXo:Binds K dXo ["text"] []) (gXo:mg "question_of"=some (.ref fXo))
  (FSo:Fun K "sort_of" "sort_of" SL.sSo fSo dSo) (bSo:Binds K dSo ["text"] []) (gSo:mg "sort_of"=some (.ref fSo))
  (GSo:FnOk P w K mg base CX0 5 fSo dSo ["text"] SL.spSo):FnOk P w K mg base CX0 19 f fd ["_law_script"] (spLaw K):=by
 have GP:FnOk P w K mg base CX0 2 fP dP ["_law_cell","_law_other"] spPo2:=ok_po2 FP T FM1 bM1 gM1
 have GG:FnOk P w K mg base CX0 3 fG1 dG1 ["_law_script","_law_letters_here","_law_pool_here"] (spLg K):=ok_lg FG1 T FM1 bM1 gM1 FE bE gE
 have GGw:FnOk P w K mg base CX0 8 fGw dGw ["_law_cells","_law_letters_here","_law_pool_here","_law_within"] (spGw 5):=ok_gw FGw bGw gGw FM1 bM1 gM1 FCo bCo gCo FSh bSh gSh FNr bNr gNr 5
 have GTe:FnOk P w K mg base CX0 6 fTe dTe ["_law_asked"] (spTe 5):=ok_te FTe T bTe gTe 5
 have GXp:FnOk P w K mg base CX0 1 fXp dXp ["pieces","at"] spPi:=ok_pi FXp T TT
 have GXv:FnOk P w K mg base CX0 6 fXv dXv ["kind","piece"] spVo:=ok_vo FXv T TT FSo bSo gSo GSo
 have GXm:FnOk P w K mg base CX0 3 fXm dXm ["word","parts"] (spMd cl):=ok_md FXm M4 M5
 have GXq:FnOk P w K mg base CX0 17 fXq dXq ["pieces","at","within"] (spQt cl 5):=ok_qt FXq bXq gXq TT FXp bXp gXp GXp FXv bXv gXv GXv FXa bXa gXa FXm bXm gXm GXm 5
 have GXo:FnOk P w K mg base CX0 18 fXo dXo ["text"] (spQo cl 5):=ok_qo (d:=5) FXo T FXq bXq gXq GXq
 have GJu:FnOk P w K mg base CX0 8 fJu dJu ["_law_log_here","_law_n","_law_asked"] (spJ 5):=ok_ju FJu bJu gJu T FGa bGa gGa FNe bNe gNe 5
 have GLk:FnOk P w K mg base CX0 6 fLk dLk ["_law_asked"] (spLk 5):=ok_lk FLk bLk gLk T 5
 have GPc:FnOk P w K mg base CX0 2 fPc dPc ["_law_script","_law_log_here"] (spPc K):=ok_pc FPc T FC1 bC1 gC1 FM1 bM1 gM1
 have GTl:FnOk P w K mg base CX0 9 fTl dTl ["_law_found","_law_log_here","_law_asked","_law_begun","_law_stop"] (spTl 5):=ok_tl (d:=5) FTl T FJu bJu gJu GJu FS bS gS
 exact ok_law F T FC1 bC1 gC1 FP bP gP GP FL bL gL FG1 bG1 gG1 GG FGw bGw gGw GGw FTe bTe gTe GTe FXo bXo gXo GXo WW FYk bYk mYk FLk bLk gLk GLk FPc bPc gPc GPc FTl bTl gTl GTl
end
end QL
namespace QL
open PySem L2
abbrev fO (x q:Str)(st:Stmt)(oc:Value)(od:Option Addr)(kV dc pm:Value)(an:Option Addr)(cd ct:Value)(sl:Array (Option Value)):Option Obj:=some ⟨oc,od,.func (W.fnOf x q (defArgs st) (defBody st) (defScope st) .none kV dc pm an cd ct),sl⟩
theorem all_mk {l:W.OpenLaw}{w:World}{K:W.Frag}{h:Heap}{mg:Str->Option Value}{CR CE SK:Addr}(X:K.In h)(G:h.Ns mainGlobals mg)(hfa:mg "law"=some (.ref fa))
  {U0 U1 U2 U3 U4 U5 U6 U7:Addr} {esK esL esG:Array DictEntry} {epK epL epG nt0 nt1 nt2 nt3 nt4 nt5 nt6 nt7:Nat} {it0 it1 it2 it3 it4 it5 it6 it7:Array Value}
  {tkf tks tkn tkm tka tkb tkc tkp:Tok}
  (aCR:W.nsIn K mainGlobals "Row"=some (some (.ref CR)))
  (pgCR:W.plainGet K CR Str.empty=true)
  (hdCR:W.hasDictIn K CR=true)
  (poCR:W.plainOver K CR=true)
  (saCR:W.findIn K (.ref CR) "__setattr__"=some (some (.builtin "object.__setattr__")))
  (mkCR:W.makesIn K CR=true)
  (kcCR:W.keepIn K (.ref CR)=true)
  (haCR:W.findIn K (.ref CR) "__class__"=some (some (.builtin "object.__class__")))
  (hmCR:W.mroIn K CR (.type "object")=some true)
  (nCR_wanted:W.findIn K (.ref CR) "wanted"=some none)
  (aCW:W.nsIn K mainGlobals "With"=some (some (.ref CW)))
  (pgCW:W.plainGet K CW Str.empty=true)
  (hdCW:W.hasDictIn K CW=true)
  (poCW:W.plainOver K CW=true)
  (saCW:W.findIn K (.ref CW) "__setattr__"=some (some (.builtin "object.__setattr__")))
  (mkCW:W.makesIn K CW=true)
  (kcCW:W.keepIn K (.ref CW)=true)
  (haCW:W.findIn K (.ref CW) "__class__"=some (some (.builtin "object.__class__")))
  (hmCW:W.mroIn K CW (.type "object")=some true)
  (nCW_here:W.findIn K (.ref CW) "here"=some none)
  (nCW_wanted:W.findIn K (.ref CW) "wanted"=some none)
  (aCH:W.nsIn K mainGlobals "Behind"=some (some (.ref CH)))
  (pgCH:W.plainGet K CH Str.empty=true)
  (hdCH:W.hasDictIn K CH=true)
  (poCH:W.plainOver K CH=true)
  (saCH:W.findIn K (.ref CH) "__setattr__"=some (some (.builtin "object.__setattr__")))
  (mkCH:W.makesIn K CH=true)
  (kcCH:W.keepIn K (.ref CH)=true)
  (haCH:W.findIn K (.ref CH) "__class__"=some (some (.builtin "object.__class__")))
  (hmCH:W.mroIn K CH (.type "object")=some true)
  (nCH_here:W.findIn K (.ref CH) "here"=some none)
  (nCH_away:W.findIn K (.ref CH) "away"=some none)
  (nCH_reach:W.findIn K (.ref CH) "reach"=some none)
  (aCA:W.nsIn K mainGlobals "Ahead"=some (some (.ref CA)))
  (pgCA:W.plainGet K CA Str.empty=true)
  (hdCA:W.hasDictIn K CA=true)
  (poCA:W.plainOver K CA=true)
  (saCA:W.findIn K (.ref CA) "__setattr__"=some (some (.builtin "object.__setattr__")))
  (mkCA:W.makesIn K CA=true)
  (kcCA:W.keepIn K (.ref CA)=true)
  (haCA:W.findIn K (.ref CA) "__class__"=some (some (.builtin "object.__class__")))
  (hmCA:W.mroIn K CA (.type "object")=some true)
  (nCA_here:W.findIn K (.ref CA) "here"=some none)
  (nCA_away:W.findIn K (.ref CA) "away"=some none)
  (nCA_reach:W.findIn K (.ref CA) "reach"=some none)
  (aCT:W.nsIn K mainGlobals "Times"=some (some (.ref CT)))
  (pgCT:W.plainGet K CT Str.empty=true)
  (hdCT:W.hasDictIn K CT=true)
  (poCT:W.plainOver K CT=true)
  (saCT:W.findIn K (.ref CT) "__setattr__"=some (some (.builtin "object.__setattr__")))
  (mkCT:W.makesIn K CT=true)
  (kcCT:W.keepIn K (.ref CT)=true)
  (haCT:W.findIn K (.ref CT) "__class__"=some (some (.builtin "object.__class__")))
  (hmCT:W.mroIn K CT (.type "object")=some true)
  (nCT_reach:W.findIn K (.ref CT) "reach"=some none)
  (nCT_least:W.findIn K (.ref CT) "least"=some none)
  (nCT_inner:W.findIn K (.ref CT) "inner"=some none)
  (aCB:W.nsIn K mainGlobals "Both"=some (some (.ref CB)))
  (pgCB:W.plainGet K CB Str.empty=true)
  (hdCB:W.hasDictIn K CB=true)
  (poCB:W.plainOver K CB=true)
  (saCB:W.findIn K (.ref CB) "__setattr__"=some (some (.builtin "object.__setattr__")))
  (mkCB:W.makesIn K CB=true)
  (kcCB:W.keepIn K (.ref CB)=true)
  (haCB:W.findIn K (.ref CB) "__class__"=some (some (.builtin "object.__class__")))
  (hmCB:W.mroIn K CB (.type "object")=some true)
  (nCB_one:W.findIn K (.ref CB) "one"=some none)
  (nCB_other:W.findIn K (.ref CB) "other"=some none)
  (aCE:W.nsIn K mainGlobals "Either"=some (some (.ref CE)))
  (pgCE:W.plainGet K CE Str.empty=true)
  (hdCE:W.hasDictIn K CE=true)
  (poCE:W.plainOver K CE=true)
  (saCE:W.findIn K (.ref CE) "__setattr__"=some (some (.builtin "object.__setattr__")))
  (mkCE:W.makesIn K CE=true)
  (kcCE:W.keepIn K (.ref CE)=true)
  (haCE:W.findIn K (.ref CE) "__class__"=some (some (.builtin "object.__class__")))
  (hmCE:W.mroIn K CE (.type "object")=some true)
  (nCE_one:W.findIn K (.ref CE) "one"=some none)
  (nCE_other:W.findIn K (.ref CE) "other"=some none)
  (aCN:W.nsIn K mainGlobals "Not"=some (some (.ref CN)))
  (pgCN:W.plainGet K CN Str.empty=true)
  (hdCN:W.hasDictIn K CN=true)
  (poCN:W.plainOver K CN=true)
  (saCN:W.findIn K (.ref CN) "__setattr__"=some (some (.builtin "object.__setattr__")))
  (mkCN:W.makesIn K CN=true)
  (kcCN:W.keepIn K (.ref CN)=true)
  (haCN:W.findIn K (.ref CN) "__class__"=some (some (.builtin "object.__class__")))
  (hmCN:W.mroIn K CN (.type "object")=some true)
  (nCN_one:W.findIn K (.ref CN) "one"=some none)
  (aCY:W.nsIn K mainGlobals "Watch"=some (some (.ref CY)))
  (pgCY:W.plainGet K CY Str.empty=true)
  (hdCY:W.hasDictIn K CY=true)
  (poCY:W.plainOver K CY=true)
  (saCY:W.findIn K (.ref CY) "__setattr__"=some (some (.builtin "object.__setattr__")))
  (mkCY:W.makesIn K CY=true)
  (kcCY:W.keepIn K (.ref CY)=true)
  (haCY:W.findIn K (.ref CY) "__class__"=some (some (.builtin "object.__class__")))
  (hmCY:W.mroIn K CY (.type "object")=some true)
  (nCY_question:W.findIn K (.ref CY) "question"=some none)
  (nCY_entries:W.findIn K (.ref CY) "entries"=some none)
  (nCY_first:W.findIn K (.ref CY) "first"=some none)
  (nCY_settled:W.findIn K (.ref CY) "settled"=some none)
  (nCY_over:W.findIn K (.ref CY) "over"=some none)
  (aSN:W.nsIn K mainGlobals "Number"=some (some (.ref SN)))
  (pgSN:W.plainGet K SN Str.empty=true)
  (hdSN:W.hasDictIn K SN=true)
  (poSN:W.plainOver K SN=true)
  (saSN:W.findIn K (.ref SN) "__setattr__"=some (some (.builtin "object.__setattr__")))
  (mkSN:W.makesIn K SN=true)
  (kcSN:W.keepIn K (.ref SN)=true)
  (haSN:W.findIn K (.ref SN) "__class__"=some (some (.builtin "object.__class__")))
  (hmSN:W.mroIn K SN (.type "object")=some true)
  (inSN:W.findIn K (.ref SN) "__init__"=some (some (.builtin "object.__init__")))
  (aSA:W.nsIn K mainGlobals "Name"=some (some (.ref SA)))
  (pgSA:W.plainGet K SA Str.empty=true)
  (hdSA:W.hasDictIn K SA=true)
  (poSA:W.plainOver K SA=true)
  (saSA:W.findIn K (.ref SA) "__setattr__"=some (some (.builtin "object.__setattr__")))
  (mkSA:W.makesIn K SA=true)
  (kcSA:W.keepIn K (.ref SA)=true)
  (haSA:W.findIn K (.ref SA) "__class__"=some (some (.builtin "object.__class__")))
  (hmSA:W.mroIn K SA (.type "object")=some true)
  (inSA:W.findIn K (.ref SA) "__init__"=some (some (.builtin "object.__init__")))
  (aSI:W.nsIn K mainGlobals "Items"=some (some (.ref SI)))
  (pgSI:W.plainGet K SI Str.empty=true)
  (hdSI:W.hasDictIn K SI=true)
  (poSI:W.plainOver K SI=true)
  (saSI:W.findIn K (.ref SI) "__setattr__"=some (some (.builtin "object.__setattr__")))
  (mkSI:W.makesIn K SI=true)
  (kcSI:W.keepIn K (.ref SI)=true)
  (haSI:W.findIn K (.ref SI) "__class__"=some (some (.builtin "object.__class__")))
  (hmSI:W.mroIn K SI (.type "object")=some true)
  (inSI:W.findIn K (.ref SI) "__init__"=some (some (.builtin "object.__init__")))
  (aSK:W.nsIn K mainGlobals "Mark"=some (some (.ref SK)))
  (pgSK:W.plainGet K SK Str.empty=true)
  (hdSK:W.hasDictIn K SK=true)
  (poSK:W.plainOver K SK=true)
  (saSK:W.findIn K (.ref SK) "__setattr__"=some (some (.builtin "object.__setattr__")))
  (mkSK:W.makesIn K SK=true)
  (kcSK:W.keepIn K (.ref SK)=true)
  (haSK:W.findIn K (.ref SK) "__class__"=some (some (.builtin "object.__class__")))
  (hmSK:W.mroIn K SK (.type "object")=some true)
  (inSK:W.findIn K (.ref SK) "__init__"=some (some (.builtin "object.__init__")))
  (aAK:W.nsIn K mainGlobals "KINDS"=some (some (.ref AK)))
  (aAL:W.nsIn K mainGlobals "LEAST"=some (some (.ref AL)))
  (aAG:W.nsIn K mainGlobals "GREATEST"=some (some (.ref AG)))
  (hn:W.specialIn K (.builtin "object.__class__") "__get__"=some (some (.builtin "getset_descriptor.__get__")))
  (htk:W.takesIn K (.builtin "object.__class__")=some true)
  (lkK:K.lookup AK=some ⟨.type "dict",none,.dict esK epK,#[]⟩)
  (smK:(AK==sysModules)=false)
  (lkL:K.lookup AL=some ⟨.type "dict",none,.dict esL epL,#[]⟩)
  (smL:(AL==sysModules)=false)
  (lkG:K.lookup AG=some ⟨.type "dict",none,.dict esG epG,#[]⟩)
  (smG:(AG==sysModules)=false)
  (enK:KEnt w.params esK.toList (kindsT (clF U0 U1 U2 U3 U4 U5 U6 U7)))
  (enL:KEnt w.params esL.toList leastT)
  (enG:KEnt w.params esG.toList greatT)
  (lT0:K.lookup U0=some ⟨.type "tuple",none,.seq it0 nt0,#[]⟩)
  (zT0:it0.size<=sizeLine)
  (vT0:Vals ((kindsOf .row).map V.str) it0.toList)
  (lT1:K.lookup U1=some ⟨.type "tuple",none,.seq it1 nt1,#[]⟩)
  (zT1:it1.size<=sizeLine)
  (vT1:Vals ((kindsOf .wit).map V.str) it1.toList)
  (lT2:K.lookup U2=some ⟨.type "tuple",none,.seq it2 nt2,#[]⟩)
  (zT2:it2.size<=sizeLine)
  (vT2:Vals ((kindsOf .beh).map V.str) it2.toList)
  (lT3:K.lookup U3=some ⟨.type "tuple",none,.seq it3 nt3,#[]⟩)
  (zT3:it3.size<=sizeLine)
  (vT3:Vals ((kindsOf .ahd).map V.str) it3.toList)
  (lT4:K.lookup U4=some ⟨.type "tuple",none,.seq it4 nt4,#[]⟩)
  (zT4:it4.size<=sizeLine)
  (vT4:Vals ((kindsOf .tim).map V.str) it4.toList)
  (lT5:K.lookup U5=some ⟨.type "tuple",none,.seq it5 nt5,#[]⟩)
  (zT5:it5.size<=sizeLine)
  (vT5:Vals ((kindsOf .bot).map V.str) it5.toList)
  (lT6:K.lookup U6=some ⟨.type "tuple",none,.seq it6 nt6,#[]⟩)
  (zT6:it6.size<=sizeLine)
  (vT6:Vals ((kindsOf .eit).map V.str) it6.toList)
  (lT7:K.lookup U7=some ⟨.type "tuple",none,.seq it7 nt7,#[]⟩)
  (zT7:it7.size<=sizeLine)
  (vT7:Vals ((kindsOf .non).map V.str) it7.toList)
  (aW:W.nsIn K mainGlobals "word_at"=some (some (.ref fW)))
  (lW:K.lookup fW=fO "word_at" "word_at" sWa ocW odW kVW dcW pmW anW cdW ctW slW)
  (cW:W.codeIn K cdW "word_at"=true)
  (kW:W.keepIn K (.ref fW)=true)
  (aS2:W.nsIn K mainGlobals "same_word"=some (some (.ref fS2)))
  (lS2:K.lookup fS2=fO "same_word" "same_word" sSw ocS2 odS2 kVS2 dcS2 pmS2 anS2 cdS2 ctS2 slS2)
  (cS2:W.codeIn K cdS2 "same_word"=true)
  (kS2:W.keepIn K (.ref fS2)=true)
  (aMv:W.nsIn K mainGlobals "moved"=some (some (.ref fMv)))
  (lMv:K.lookup fMv=fO "moved" "moved" sMv ocMv odMv kVMv dcMv pmMv anMv cdMv ctMv slMv)
  (cMv:W.codeIn K cdMv "moved"=true)
  (kMv:W.keepIn K (.ref fMv)=true)
  (aC1:W.nsIn K mainGlobals "_law_cell_at"=some (some (.ref fC1)))
  (lC1:K.lookup fC1=fO "_law_cell_at" "_law_cell_at" sCe ocC1 odC1 kVC1 dcC1 pmC1 anC1 cdC1 ctC1 slC1)
  (cC1:W.codeIn K cdC1 "_law_cell_at"=true)
  (kC1:W.keepIn K (.ref fC1)=true)
  (aM1:W.nsIn K mainGlobals "_law_mix"=some (some (.ref fM1)))
  (lM1:K.lookup fM1=fO "_law_mix" "_law_mix" sMi ocM1 odM1 kVM1 dcM1 pmM1 anM1 cdM1 ctM1 slM1)
  (cM1:W.codeIn K cdM1 "_law_mix"=true)
  (kM1:W.keepIn K (.ref fM1)=true)
  (aP:W.nsIn K mainGlobals "_law_pool"=some (some (.ref fP)))
  (lP:K.lookup fP=fO "_law_pool" "_law_pool" sPo ocP odP kVP dcP pmP anP cdP ctP slP)
  (cP:W.codeIn K cdP "_law_pool"=true)
  (kP:W.keepIn K (.ref fP)=true)
  (aL:W.nsIn K mainGlobals "_law_letters"=some (some (.ref fL)))
  (lL:K.lookup fL=fO "_law_letters" "_law_letters" sLe ocL odL kVL dcL pmL anL cdL ctL slL)
  (cL:W.codeIn K cdL "_law_letters"=true)
  (kL:W.keepIn K (.ref fL)=true)
  (aE:W.nsIn K mainGlobals "_law_entry"=some (some (.ref fE)))
  (lE:K.lookup fE=fO "_law_entry" "_law_entry" sEn ocE odE kVE dcE pmE anE cdE ctE slE)
  (cE:W.codeIn K cdE "_law_entry"=true)
  (kE:W.keepIn K (.ref fE)=true)
  (aG1:W.nsIn K mainGlobals "_law_log"=some (some (.ref fG1)))
  (lG1:K.lookup fG1=fO "_law_log" "_law_log" sLg ocG1 odG1 kVG1 dcG1 pmG1 anG1 cdG1 ctG1 slG1)
  (cG1:W.codeIn K cdG1 "_law_log"=true)
  (kG1:W.keepIn K (.ref fG1)=true)
  (aS:W.nsIn K mainGlobals "_law_same"=some (some (.ref fS)))
  (lS:K.lookup fS=fO "_law_same" "_law_same" sSa ocS odS kVS dcS pmS anS cdS ctS slS)
  (cS:W.codeIn K cdS "_law_same"=true)
  (kS:W.keepIn K (.ref fS)=true)
  (aCo:W.nsIn K mainGlobals "_law_count"=some (some (.ref fCo)))
  (lCo:K.lookup fCo=fO "_law_count" "_law_count" sCo ocCo odCo kVCo dcCo pmCo anCo cdCo ctCo slCo)
  (cCo:W.codeIn K cdCo "_law_count"=true)
  (kCo:W.keepIn K (.ref fCo)=true)
  (aSh:W.nsIn K mainGlobals "_law_short"=some (some (.ref fSh)))
  (lSh:K.lookup fSh=fO "_law_short" "_law_short" sSh ocSh odSh kVSh dcSh pmSh anSh cdSh ctSh slSh)
  (cSh:W.codeIn K cdSh "_law_short"=true)
  (kSh:W.keepIn K (.ref fSh)=true)
  (aNr:W.nsIn K mainGlobals "_law_nearer"=some (some (.ref fNr)))
  (lNr:K.lookup fNr=fO "_law_nearer" "_law_nearer" sNr ocNr odNr kVNr dcNr pmNr anNr cdNr ctNr slNr)
  (cNr:W.codeIn K cdNr "_law_nearer"=true)
  (kNr:W.keepIn K (.ref fNr)=true)
  (aGw:W.nsIn K mainGlobals "_law_grown"=some (some (.ref fGw)))
  (lGw:K.lookup fGw=fO "_law_grown" "_law_grown" sGw ocGw odGw kVGw dcGw pmGw anGw cdGw ctGw slGw)
  (cGw:W.codeIn K cdGw "_law_grown"=true)
  (kGw:W.keepIn K (.ref fGw)=true)
  (aGa:W.nsIn K mainGlobals "_law_gap"=some (some (.ref fGa)))
  (lGa:K.lookup fGa=fO "_law_gap" "_law_gap" sGa ocGa odGa kVGa dcGa pmGa anGa cdGa ctGa slGa)
  (cGa:W.codeIn K cdGa "_law_gap"=true)
  (kGa:W.keepIn K (.ref fGa)=true)
  (aNe:W.nsIn K mainGlobals "_law_near"=some (some (.ref fNe)))
  (lNe:K.lookup fNe=fO "_law_near" "_law_near" sNe ocNe odNe kVNe dcNe pmNe anNe cdNe ctNe slNe)
  (cNe:W.codeIn K cdNe "_law_near"=true)
  (kNe:W.keepIn K (.ref fNe)=true)
  (aJu:W.nsIn K mainGlobals "_law_judged"=some (some (.ref fJu)))
  (lJu:K.lookup fJu=fO "_law_judged" "_law_judged" sJu ocJu odJu kVJu dcJu pmJu anJu cdJu ctJu slJu)
  (cJu:W.codeIn K cdJu "_law_judged"=true)
  (kJu:W.keepIn K (.ref fJu)=true)
  (aLk:W.nsIn K mainGlobals "_law_looks"=some (some (.ref fLk)))
  (lLk:K.lookup fLk=fO "_law_looks" "_law_looks" sLk ocLk odLk kVLk dcLk pmLk anLk cdLk ctLk slLk)
  (cLk:W.codeIn K cdLk "_law_looks"=true)
  (kLk:W.keepIn K (.ref fLk)=true)
  (aPc:W.nsIn K mainGlobals "_law_pieces"=some (some (.ref fPc)))
  (lPc:K.lookup fPc=fO "_law_pieces" "_law_pieces" sPc ocPc odPc kVPc dcPc pmPc anPc cdPc ctPc slPc)
  (cPc:W.codeIn K cdPc "_law_pieces"=true)
  (kPc:W.keepIn K (.ref fPc)=true)
  (aTl:W.nsIn K mainGlobals "_law_told"=some (some (.ref fTl)))
  (lTl:K.lookup fTl=fO "_law_told" "_law_told" sTl ocTl odTl kVTl dcTl pmTl anTl cdTl ctTl slTl)
  (cTl:W.codeIn K cdTl "_law_told"=true)
  (kTl:W.keepIn K (.ref fTl)=true)
  (aTe:W.nsIn K mainGlobals "_law_text"=some (some (.ref fTe)))
  (lTe:K.lookup fTe=fO "_law_text" "_law_text" sTe ocTe odTe kVTe dcTe pmTe anTe cdTe ctTe slTe)
  (cTe:W.codeIn K cdTe "_law_text"=true)
  (kTe:W.keepIn K (.ref fTe)=true)
  (aXm:W.nsIn K mainGlobals "made"=some (some (.ref fXm)))
  (lXm:K.lookup fXm=fO "made" "made" sMd ocXm odXm kVXm dcXm pmXm anXm cdXm ctXm slXm)
  (cXm:W.codeIn K cdXm "made"=true)
  (kXm:W.keepIn K (.ref fXm)=true)
  (aXv:W.nsIn K mainGlobals "value_of"=some (some (.ref fXv)))
  (lXv:K.lookup fXv=fO "value_of" "value_of" sVo ocXv odXv kVXv dcXv pmXv anXv cdXv ctXv slXv)
  (cXv:W.codeIn K cdXv "value_of"=true)
  (kXv:W.keepIn K (.ref fXv)=true)
  (aXp:W.nsIn K mainGlobals "piece_at"=some (some (.ref fXp)))
  (lXp:K.lookup fXp=fO "piece_at" "piece_at" sPi ocXp odXp kVXp dcXp pmXp anXp cdXp ctXp slXp)
  (cXp:W.codeIn K cdXp "piece_at"=true)
  (kXp:W.keepIn K (.ref fXp)=true)
  (aXa:W.nsIn K mainGlobals "part_at"=some (some (.ref fXa)))
  (lXa:K.lookup fXa=fO "part_at" "part_at" sPt ocXa odXa kVXa dcXa pmXa anXa cdXa ctXa slXa)
  (cXa:W.codeIn K cdXa "part_at"=true)
  (kXa:W.keepIn K (.ref fXa)=true)
  (aXq:W.nsIn K mainGlobals "question_at"=some (some (.ref fXq)))
  (lXq:K.lookup fXq=fO "question_at" "question_at" sQt ocXq odXq kVXq dcXq pmXq anXq cdXq ctXq slXq)
  (cXq:W.codeIn K cdXq "question_at"=true)
  (kXq:W.keepIn K (.ref fXq)=true)
  (aXo:W.nsIn K mainGlobals "question_of"=some (some (.ref fXo)))
  (lXo:K.lookup fXo=fO "question_of" "question_of" sQo ocXo odXo kVXo dcXo pmXo anXo cdXo ctXo slXo)
  (cXo:W.codeIn K cdXo "question_of"=true)
  (kXo:W.keepIn K (.ref fXo)=true)
  (aMo:W.nsIn K mainGlobals "made_of"=some (some (.ref fMo)))
  (lMo:K.lookup fMo=fO "made_of" "made_of" SL.sMo ocMo odMo kVMo dcMo pmMo anMo cdMo ctMo slMo)
  (cMo:W.codeIn K cdMo "made_of"=true)
  (kMo:W.keepIn K (.ref fMo)=true)
  (aIi:W.nsIn K mainGlobals "is_item"=some (some (.ref fIi)))
  (lIi:K.lookup fIi=fO "is_item" "is_item" SL.sIi ocIi odIi kVIi dcIi pmIi anIi cdIi ctIi slIi)
  (cIi:W.codeIn K cdIi "is_item"=true)
  (kIi:W.keepIn K (.ref fIi)=true)
  (aAl:W.nsIn K mainGlobals "all_sorts"=some (some (.ref fAl)))
  (lAl:K.lookup fAl=fO "all_sorts" "all_sorts" SL.sAl ocAl odAl kVAl dcAl pmAl anAl cdAl ctAl slAl)
  (cAl:W.codeIn K cdAl "all_sorts"=true)
  (kAl:W.keepIn K (.ref fAl)=true)
  (aSo:W.nsIn K mainGlobals "sort_of"=some (some (.ref fSo)))
  (lSo:K.lookup fSo=fO "sort_of" "sort_of" SL.sSo ocSo odSo kVSo dcSo pmSo anSo cdSo ctSo slSo)
  (cSo:W.codeIn K cdSo "sort_of"=true)
  (kSo:W.keepIn K (.ref fSo)=true)
  (aZ:W.nsIn K mainGlobals "law"=some (some (.ref fZ)))
  (lZ:K.lookup fZ=fO "law" "law" sLaw ocZ odZ kVZ dcZ pmZ anZ cdZ ctZ slZ)
  (cZ:W.codeIn K cdZ "law"=true)
  (kZ:W.keepIn K (.ref fZ)=true)
  (aQb:W.findIn K (.ref CR) "back"=some (some (.ref fQb)))
  (iQb:W.isFn K (.ref fQb)=true)
  (lQb:K.lookup fQb=fO "back" "Question.back" sBk ocQb odQb kVQb dcQb pmQb anQb cdQb ctQb slQb)
  (cQb:W.codeIn K cdQb "Question.back"=true)
  (kQb:W.keepIn K (.ref fQb)=true)
  (aQo:W.findIn K (.ref CR) "on"=some (some (.ref fQo)))
  (iQo:W.isFn K (.ref fQo)=true)
  (lQo:K.lookup fQo=fO "on" "Question.on" sOn ocQo odQo kVQo dcQo pmQo anQo cdQo ctQo slQo)
  (cQo:W.codeIn K cdQo "Question.on"=true)
  (kQo:W.keepIn K (.ref fQo)=true)
  (aRf:W.findIn K (.ref CR) "found"=some (some (.ref fRf)))
  (iRf:W.isFn K (.ref fRf)=true)
  (lRf:K.lookup fRf=fO "found" "Row.found" sRf ocRf odRf kVRf dcRf pmRf anRf cdRf ctRf slRf)
  (cRf:W.codeIn K cdRf "Row.found"=true)
  (kRf:W.keepIn K (.ref fRf)=true)
  (aWf:W.findIn K (.ref CW) "found"=some (some (.ref fWf)))
  (iWf:W.isFn K (.ref fWf)=true)
  (lWf:K.lookup fWf=fO "found" "With.found" sWf ocWf odWf kVWf dcWf pmWf anWf cdWf ctWf slWf)
  (cWf:W.codeIn K cdWf "With.found"=true)
  (kWf:W.keepIn K (.ref fWf)=true)
  (aHo:W.findIn K (.ref CH) "on"=some (some (.ref fHo)))
  (iHo:W.isFn K (.ref fHo)=true)
  (lHo:K.lookup fHo=fO "on" "Behind.on" sHo ocHo odHo kVHo dcHo pmHo anHo cdHo ctHo slHo)
  (cHo:W.codeIn K cdHo "Behind.on"=true)
  (kHo:W.keepIn K (.ref fHo)=true)
  (aHf:W.findIn K (.ref CH) "found"=some (some (.ref fHf)))
  (iHf:W.isFn K (.ref fHf)=true)
  (lHf:K.lookup fHf=fO "found" "Behind.found" sHf ocHf odHf kVHf dcHf pmHf anHf cdHf ctHf slHf)
  (cHf:W.codeIn K cdHf "Behind.found"=true)
  (kHf:W.keepIn K (.ref fHf)=true)
  (aAb:W.findIn K (.ref CA) "back"=some (some (.ref fAb)))
  (iAb:W.isFn K (.ref fAb)=true)
  (lAb:K.lookup fAb=fO "back" "Ahead.back" sAb ocAb odAb kVAb dcAb pmAb anAb cdAb ctAb slAb)
  (cAb:W.codeIn K cdAb "Ahead.back"=true)
  (kAb:W.keepIn K (.ref fAb)=true)
  (aAf:W.findIn K (.ref CA) "found"=some (some (.ref fAf)))
  (iAf:W.isFn K (.ref fAf)=true)
  (lAf:K.lookup fAf=fO "found" "Ahead.found" sAf ocAf odAf kVAf dcAf pmAf anAf cdAf ctAf slAf)
  (cAf:W.codeIn K cdAf "Ahead.found"=true)
  (kAf:W.keepIn K (.ref fAf)=true)
  (aTb:W.findIn K (.ref CT) "back"=some (some (.ref fTb)))
  (iTb:W.isFn K (.ref fTb)=true)
  (lTb:K.lookup fTb=fO "back" "Times.back" sTb ocTb odTb kVTb dcTb pmTb anTb cdTb ctTb slTb)
  (cTb:W.codeIn K cdTb "Times.back"=true)
  (kTb:W.keepIn K (.ref fTb)=true)
  (aTo:W.findIn K (.ref CT) "on"=some (some (.ref fTo)))
  (iTo:W.isFn K (.ref fTo)=true)
  (lTo:K.lookup fTo=fO "on" "Times.on" sTo ocTo odTo kVTo dcTo pmTo anTo cdTo ctTo slTo)
  (cTo:W.codeIn K cdTo "Times.on"=true)
  (kTo:W.keepIn K (.ref fTo)=true)
  (aTf:W.findIn K (.ref CT) "found"=some (some (.ref fTf)))
  (iTf:W.isFn K (.ref fTf)=true)
  (lTf:K.lookup fTf=fO "found" "Times.found" sTf ocTf odTf kVTf dcTf pmTf anTf cdTf ctTf slTf)
  (cTf:W.codeIn K cdTf "Times.found"=true)
  (kTf:W.keepIn K (.ref fTf)=true)
  (aJb:W.findIn K (.ref CB) "back"=some (some (.ref fJb)))
  (iJb:W.isFn K (.ref fJb)=true)
  (lJb:K.lookup fJb=fO "back" "Joint.back" sJb ocJb odJb kVJb dcJb pmJb anJb cdJb ctJb slJb)
  (cJb:W.codeIn K cdJb "Joint.back"=true)
  (kJb:W.keepIn K (.ref fJb)=true)
  (aJo:W.findIn K (.ref CB) "on"=some (some (.ref fJo)))
  (iJo:W.isFn K (.ref fJo)=true)
  (lJo:K.lookup fJo=fO "on" "Joint.on" sJo ocJo odJo kVJo dcJo pmJo anJo cdJo ctJo slJo)
  (cJo:W.codeIn K cdJo "Joint.on"=true)
  (kJo:W.keepIn K (.ref fJo)=true)
  (aBf:W.findIn K (.ref CB) "found"=some (some (.ref fBf)))
  (iBf:W.isFn K (.ref fBf)=true)
  (lBf:K.lookup fBf=fO "found" "Both.found" sBf ocBf odBf kVBf dcBf pmBf anBf cdBf ctBf slBf)
  (cBf:W.codeIn K cdBf "Both.found"=true)
  (kBf:W.keepIn K (.ref fBf)=true)
  (aEf:W.findIn K (.ref CE) "found"=some (some (.ref fEf)))
  (iEf:W.isFn K (.ref fEf)=true)
  (lEf:K.lookup fEf=fO "found" "Either.found" sEf ocEf odEf kVEf dcEf pmEf anEf cdEf ctEf slEf)
  (cEf:W.codeIn K cdEf "Either.found"=true)
  (kEf:W.keepIn K (.ref fEf)=true)
  (aNb:W.findIn K (.ref CN) "back"=some (some (.ref fNb)))
  (iNb:W.isFn K (.ref fNb)=true)
  (lNb:K.lookup fNb=fO "back" "Not.back" sNb ocNb odNb kVNb dcNb pmNb anNb cdNb ctNb slNb)
  (cNb:W.codeIn K cdNb "Not.back"=true)
  (kNb:W.keepIn K (.ref fNb)=true)
  (aNo:W.findIn K (.ref CN) "on"=some (some (.ref fNo)))
  (iNo:W.isFn K (.ref fNo)=true)
  (lNo:K.lookup fNo=fO "on" "Not.on" sNo ocNo odNo kVNo dcNo pmNo anNo cdNo ctNo slNo)
  (cNo:W.codeIn K cdNo "Not.on"=true)
  (kNo:W.keepIn K (.ref fNo)=true)
  (aNf:W.findIn K (.ref CN) "found"=some (some (.ref fNf)))
  (iNf:W.isFn K (.ref fNf)=true)
  (lNf:K.lookup fNf=fO "found" "Not.found" sNf ocNf odNf kVNf dcNf pmNf anNf cdNf ctNf slNf)
  (cNf:W.codeIn K cdNf "Not.found"=true)
  (kNf:W.keepIn K (.ref fNf)=true)
  (aRi:W.findIn K (.ref CR) "__init__"=some (some (.ref fRi)))
  (iRi:W.isFn K (.ref fRi)=true)
  (lRi:K.lookup fRi=fO "__init__" "Row.__init__" sRi ocRi odRi kVRi dcRi pmRi anRi cdRi ctRi slRi)
  (cRi:W.codeIn K cdRi "Row.__init__"=true)
  (kRi:W.keepIn K (.ref fRi)=true)
  (aWi:W.findIn K (.ref CW) "__init__"=some (some (.ref fWi)))
  (iWi:W.isFn K (.ref fWi)=true)
  (lWi:K.lookup fWi=fO "__init__" "With.__init__" sWi ocWi odWi kVWi dcWi pmWi anWi cdWi ctWi slWi)
  (cWi:W.codeIn K cdWi "With.__init__"=true)
  (kWi:W.keepIn K (.ref fWi)=true)
  (aHi:W.findIn K (.ref CH) "__init__"=some (some (.ref fHi)))
  (iHi:W.isFn K (.ref fHi)=true)
  (lHi:K.lookup fHi=fO "__init__" "Behind.__init__" sHi ocHi odHi kVHi dcHi pmHi anHi cdHi ctHi slHi)
  (cHi:W.codeIn K cdHi "Behind.__init__"=true)
  (kHi:W.keepIn K (.ref fHi)=true)
  (aAi:W.findIn K (.ref CA) "__init__"=some (some (.ref fAi)))
  (iAi:W.isFn K (.ref fAi)=true)
  (lAi:K.lookup fAi=fO "__init__" "Ahead.__init__" sAi ocAi odAi kVAi dcAi pmAi anAi cdAi ctAi slAi)
  (cAi:W.codeIn K cdAi "Ahead.__init__"=true)
  (kAi:W.keepIn K (.ref fAi)=true)
  (aTi:W.findIn K (.ref CT) "__init__"=some (some (.ref fTi)))
  (iTi:W.isFn K (.ref fTi)=true)
  (lTi:K.lookup fTi=fO "__init__" "Times.__init__" sTi ocTi odTi kVTi dcTi pmTi anTi cdTi ctTi slTi)
  (cTi:W.codeIn K cdTi "Times.__init__"=true)
  (kTi:W.keepIn K (.ref fTi)=true)
  (aJi:W.findIn K (.ref CB) "__init__"=some (some (.ref fJi)))
  (iJi:W.isFn K (.ref fJi)=true)
  (lJi:K.lookup fJi=fO "__init__" "Joint.__init__" sJi ocJi odJi kVJi dcJi pmJi anJi cdJi ctJi slJi)
  (cJi:W.codeIn K cdJi "Joint.__init__"=true)
  (kJi:W.keepIn K (.ref fJi)=true)
  (aNi:W.findIn K (.ref CN) "__init__"=some (some (.ref fNi)))
  (iNi:W.isFn K (.ref fNi)=true)
  (lNi:K.lookup fNi=fO "__init__" "Not.__init__" sNi ocNi odNi kVNi dcNi pmNi anNi cdNi ctNi slNi)
  (cNi:W.codeIn K cdNi "Not.__init__"=true)
  (kNi:W.keepIn K (.ref fNi)=true)
  (aYi:W.findIn K (.ref CY) "__init__"=some (some (.ref fYi)))
  (iYi:W.isFn K (.ref fYi)=true)
  (lYi:K.lookup fYi=fO "__init__" "Watch.__init__" sYi ocYi odYi kVYi dcYi pmYi anYi cdYi ctYi slYi)
  (cYi:W.codeIn K cdYi "Watch.__init__"=true)
  (kYi:W.keepIn K (.ref fYi)=true)
  (aYt:W.findIn K (.ref CY) "take"=some (some (.ref fYt)))
  (iYt:W.isFn K (.ref fYt)=true)
  (lYt:K.lookup fYt=fO "take" "Watch.take" sYt ocYt odYt kVYt dcYt pmYt anYt cdYt ctYt slYt)
  (cYt:W.codeIn K cdYt "Watch.take"=true)
  (kYt:W.keepIn K (.ref fYt)=true)
  (aYe:W.findIn K (.ref CY) "end"=some (some (.ref fYe)))
  (iYe:W.isFn K (.ref fYe)=true)
  (lYe:K.lookup fYe=fO "end" "Watch.end" sYe ocYe odYe kVYe dcYe pmYe anYe cdYe ctYe slYe)
  (cYe:W.codeIn K cdYe "Watch.end"=true)
  (kYe:W.keepIn K (.ref fYe)=true)
  (aYr:W.findIn K (.ref CY) "refuse_if_over"=some (some (.ref fYr)))
  (iYr:W.isFn K (.ref fYr)=true)
  (lYr:K.lookup fYr=fO "refuse_if_over" "Watch.refuse_if_over" sYr ocYr odYr kVYr dcYr pmYr anYr cdYr ctYr slYr)
  (cYr:W.codeIn K cdYr "Watch.refuse_if_over"=true)
  (kYr:W.keepIn K (.ref fYr)=true)
  (aYs:W.findIn K (.ref CY) "settle"=some (some (.ref fYs)))
  (iYs:W.isFn K (.ref fYs)=true)
  (lYs:K.lookup fYs=fO "settle" "Watch.settle" sYs ocYs odYs kVYs dcYs pmYs anYs cdYs ctYs slYs)
  (cYs:W.codeIn K cdYs "Watch.settle"=true)
  (kYs:W.keepIn K (.ref fYs)=true)
  (aYk:W.findIn K (.ref CY) "kept"=some (some (.ref fYk)))
  (iYk:W.isFn K (.ref fYk)=true)
  (lYk:K.lookup fYk=fO "kept" "Watch.kept" sYk ocYk odYk kVYk dcYk pmYk anYk cdYk ctYk slYk)
  (cYk:W.codeIn K cdYk "Watch.kept"=true)
  (kYk:W.keepIn K (.ref fYk)=true)
  (aNt:W.findIn K (.ref SN) "takes"=some (some (.ref fNt)))
  (iNt:W.isFn K (.ref fNt)=true)
  (lNt:K.lookup fNt=fO "takes" "Number.takes" SL.sNt ocNt odNt kVNt dcNt pmNt anNt cdNt ctNt slNt)
  (cNt:W.codeIn K cdNt "Number.takes"=true)
  (kNt:W.keepIn K (.ref fNt)=true)
  (aNw:W.findIn K (.ref SN) "word"=some (some (.ref fNw)))
  (iNw:W.isFn K (.ref fNw)=true)
  (lNw:K.lookup fNw=fO "word" "Number.word" SL.sNw ocNw odNw kVNw dcNw pmNw anNw cdNw ctNw slNw)
  (cNw:W.codeIn K cdNw "Number.word"=true)
  (kNw:W.keepIn K (.ref fNw)=true)
  (aAt:W.findIn K (.ref SA) "takes"=some (some (.ref fAt)))
  (iAt:W.isFn K (.ref fAt)=true)
  (lAt:K.lookup fAt=fO "takes" "Name.takes" SL.sAt ocAt odAt kVAt dcAt pmAt anAt cdAt ctAt slAt)
  (cAt:W.codeIn K cdAt "Name.takes"=true)
  (kAt:W.keepIn K (.ref fAt)=true)
  (aAw:W.findIn K (.ref SA) "word"=some (some (.ref fAw)))
  (iAw:W.isFn K (.ref fAw)=true)
  (lAw:K.lookup fAw=fO "word" "Name.word" SL.sAw ocAw odAw kVAw dcAw pmAw anAw cdAw ctAw slAw)
  (cAw:W.codeIn K cdAw "Name.word"=true)
  (kAw:W.keepIn K (.ref fAw)=true)
  (aIt:W.findIn K (.ref SI) "takes"=some (some (.ref fIt)))
  (iIt:W.isFn K (.ref fIt)=true)
  (lIt:K.lookup fIt=fO "takes" "Items.takes" SL.sIt ocIt odIt kVIt dcIt pmIt anIt cdIt ctIt slIt)
  (cIt:W.codeIn K cdIt "Items.takes"=true)
  (kIt:W.keepIn K (.ref fIt)=true)
  (aIw:W.findIn K (.ref SI) "word"=some (some (.ref fIw)))
  (iIw:W.isFn K (.ref fIw)=true)
  (lIw:K.lookup fIw=fO "word" "Items.word" SL.sIw ocIw odIw kVIw dcIw pmIw anIw cdIw ctIw slIw)
  (cIw:W.codeIn K cdIw "Items.word"=true)
  (kIw:W.keepIn K (.ref fIw)=true)
  (aKt:W.findIn K (.ref SK) "takes"=some (some (.ref fKt)))
  (iKt:W.isFn K (.ref fKt)=true)
  (lKt:K.lookup fKt=fO "takes" "Mark.takes" SL.sKt ocKt odKt kVKt dcKt pmKt anKt cdKt ctKt slKt)
  (cKt:W.codeIn K cdKt "Mark.takes"=true)
  (kKt:W.keepIn K (.ref fKt)=true)
  (aKw:W.findIn K (.ref SK) "word"=some (some (.ref fKw)))
  (iKw:W.isFn K (.ref fKw)=true)
  (lKw:K.lookup fKw=fO "word" "Mark.word" SL.sKw ocKw odKw kVKw dcKw pmKw anKw cdKw ctKw slKw)
  (cKw:W.codeIn K cdKw "Mark.word"=true)
  (kKw:W.keepIn K (.ref fKw)=true)
  (aCWQb:W.findIn K (.ref CW) "back"=some (some (.ref fQb)))
  (aCWQo:W.findIn K (.ref CW) "on"=some (some (.ref fQo)))
  (aCHQb:W.findIn K (.ref CH) "back"=some (some (.ref fQb)))
  (aCAQo:W.findIn K (.ref CA) "on"=some (some (.ref fQo)))
  (aCEJb:W.findIn K (.ref CE) "back"=some (some (.ref fJb)))
  (aCEJo:W.findIn K (.ref CE) "on"=some (some (.ref fJo)))
  (aCEJi:W.findIn K (.ref CE) "__init__"=some (some (.ref fJi)))
  (qf:W.nsIn K mainGlobals "FIGURES"=some (some (.str SL.FIG tkf)))
  (qs:W.nsIn K mainGlobals "SMALL_LETTERS"=some (some (.str SL.SMA tks)))
  (qn:W.nsIn K mainGlobals "NAME_SIGNS"=some (some (.str SL.NAM tkn)))
  (qm:W.nsIn K mainGlobals "MARK_SIGNS"=some (some (.str SL.MAR tkm)))
  (qa:W.nsIn K mainGlobals "MOST_FIGURES"=some (some (.int 9 tka)))
  (qb:W.nsIn K mainGlobals "MOST_SIGNS"=some (some (.int 12 tkb)))
  (qc:W.nsIn K mainGlobals "MOST_ITEMS"=some (some (.int 4 tkc)))
  (qp:W.nsIn K mainGlobals "MOST_PIECES"=some (some (.int 40 tkp)))
  (zsorted:W.nsIn K mainGlobals "sorted"=some none)
  (zset:W.nsIn K mainGlobals "set"=some none)
  (zlen:W.nsIn K mainGlobals "len"=some none)
  (zrange:W.nsIn K mainGlobals "range"=some none)
  (ztuple:W.nsIn K mainGlobals "tuple"=some none)
  (zisin:W.nsIn K mainGlobals "isinstance"=some none)
  (zstr:W.nsIn K mainGlobals "str"=some none)
  (zlist:W.nsIn K mainGlobals "list"=some none)
  (zint:W.nsIn K mainGlobals "int"=some none)
  (zbool:W.nsIn K mainGlobals "bool"=some none)
  (zall:W.nsIn K mainGlobals "all"=some none)
  (zmin:W.nsIn K mainGlobals "min"=some none)
  (zmax:W.nsIn K mainGlobals "max"=some none)
  :∃fd:FuncData,(∀(s:Shared) (v:Value),BindsTo s fd ⟨[v],[]⟩ [("_law_script",v)])/\∀base:Heap,K.In base->base.Ns mainGlobals mg->FnOk l.prog w K mg base CX0 19 fa fd ["_law_script"] (spLaw K):=by
 have e:=hfa.symm.trans (W.mg_of X G aZ)
 cases e
 have T:Txt mg:=⟨W.mg_none_of X G zlen,W.mg_none_of X G zrange,W.mg_none_of X G ztuple,W.mg_none_of X G zisin,W.mg_none_of X G zstr,W.mg_none_of X G zlist,W.mg_none_of X G zint,W.mg_none_of X G zbool,W.mg_none_of X G zall,W.mg_none_of X G zmin,W.mg_none_of X G zmax⟩
 have mgCR:=W.mg_of X G aCR
 have clCR:Cls K CR:=⟨pgCR,hdCR,poCR,saCR⟩
 have mgCW:=W.mg_of X G aCW
 have clCW:Cls K CW:=⟨pgCW,hdCW,poCW,saCW⟩
 have mgCH:=W.mg_of X G aCH
 have clCH:Cls K CH:=⟨pgCH,hdCH,poCH,saCH⟩
 have mgCA:=W.mg_of X G aCA
 have clCA:Cls K CA:=⟨pgCA,hdCA,poCA,saCA⟩
 have mgCT:=W.mg_of X G aCT
 have clCT:Cls K CT:=⟨pgCT,hdCT,poCT,saCT⟩
 have mgCB:=W.mg_of X G aCB
 have clCB:Cls K CB:=⟨pgCB,hdCB,poCB,saCB⟩
 have mgCE:=W.mg_of X G aCE
 have clCE:Cls K CE:=⟨pgCE,hdCE,poCE,saCE⟩
 have mgCN:=W.mg_of X G aCN
 have clCN:Cls K CN:=⟨pgCN,hdCN,poCN,saCN⟩
 have mgCY:=W.mg_of X G aCY
 have clCY:Cls K CY:=⟨pgCY,hdCY,poCY,saCY⟩
 have mgSN:=W.mg_of X G aSN
 have clSN:Cls K SN:=⟨pgSN,hdSN,poSN,saSN⟩
 have MSN:MkN K SN:=⟨mkSN,inSN,kcSN⟩
 have mgSA:=W.mg_of X G aSA
 have clSA:Cls K SA:=⟨pgSA,hdSA,poSA,saSA⟩
 have MSA:MkN K SA:=⟨mkSA,inSA,kcSA⟩
 have mgSI:=W.mg_of X G aSI
 have clSI:Cls K SI:=⟨pgSI,hdSI,poSI,saSI⟩
 have MSI:MkN K SI:=⟨mkSI,inSI,kcSI⟩
 have mgSK:=W.mg_of X G aSK
 have clSK:Cls K SK:=⟨pgSK,hdSK,poSK,saSK⟩
 have MSK:MkN K SK:=⟨mkSK,inSK,kcSK⟩
 have mgAK:=W.mg_of X G aAK
 have mgAL:=W.mg_of X G aAL
 have mgAG:=W.mg_of X G aAG
 have FW:=fun_mk (st:=sWa) lW cW kW
 have bW:=FW.binds (ps:=["entry","place"]) fun _ _ _ _ _ _ u h=>match u,h with | [_,_],_=>rfl
 have FS2:=fun_mk (st:=sSw) lS2 cS2 kS2
 have bS2:=FS2.binds (ps:=["entry","place","other","away"]) fun _ _ _ _ _ _ u h=>match u,h with | [_,_,_,_],_=>rfl
 have FMv:=fun_mk (st:=sMv) lMv cMv kMv
 have bMv:=FMv.binds (ps:=["rows","far"]) fun _ _ _ _ _ _ u h=>match u,h with | [_,_],_=>rfl
 have FC1:=fun_mk (st:=sCe) lC1 cC1 kC1
 have bC1:=FC1.binds (ps:=["_law_script","_law_k"]) fun _ _ _ _ _ _ u h=>match u,h with | [_,_],_=>rfl
 have FM1:=fun_mk (st:=sMi) lM1 cM1 kM1
 have bM1:=FM1.binds (ps:=["_law_cell","_law_k"]) fun _ _ _ _ _ _ u h=>match u,h with | [_,_],_=>rfl
 have FP:=fun_mk (st:=sPo) lP cP kP
 have bP:=FP.binds (ps:=["_law_cell","_law_other"]) fun _ _ _ _ _ _ u h=>match u,h with | [_,_],_=>rfl
 have FL:=fun_mk (st:=sLe) lL cL kL
 have bL:=FL.binds (ps:=["_law_cell"]) fun _ _ _ _ _ _ u h=>match u,h with | [_],_=>rfl
 have FE:=fun_mk (st:=sEn) lE cE kE
 have bE:=FE.binds (ps:=["_law_cell","_law_letters_here","_law_pool_here"]) fun _ _ _ _ _ _ u h=>match u,h with | [_,_,_],_=>rfl
 have FG1:=fun_mk (st:=sLg) lG1 cG1 kG1
 have bG1:=FG1.binds (ps:=["_law_script","_law_letters_here","_law_pool_here"]) fun _ _ _ _ _ _ u h=>match u,h with | [_,_,_],_=>rfl
 have FS:=fun_mk (st:=sSa) lS cS kS
 have bS:=FS.binds (ps:=["_law_found","_law_due"]) fun _ _ _ _ _ _ u h=>match u,h with | [_,_],_=>rfl
 have FCo:=fun_mk (st:=sCo) lCo cCo kCo
 have bCo:=FCo.binds (ps:=["_law_cell","_law_k"]) fun _ _ _ _ _ _ u h=>match u,h with | [_,_],_=>rfl
 have FSh:=fun_mk (st:=sSh) lSh cSh kSh
 have bSh:=FSh.binds (ps:=["_law_cell","_law_letters_here","_law_pool_here"]) fun _ _ _ _ _ _ u h=>match u,h with | [_,_,_],_=>rfl
 have FNr:=fun_mk (st:=sNr) lNr cNr kNr
 have bNr:=FNr.binds (ps:=["_law_asked","_law_within"]) fun _ _ _ _ _ _ u h=>match u,h with | [_,_],_=>rfl
 have FGw:=fun_mk (st:=sGw) lGw cGw kGw
 have bGw:=FGw.binds (ps:=["_law_cells","_law_letters_here","_law_pool_here","_law_within"]) fun _ _ _ _ _ _ u h=>match u,h with | [_,_,_,_],_=>rfl
 have FGa:=fun_mk (st:=sGa) lGa cGa kGa
 have bGa:=FGa.binds (ps:=["_law_entry_here","_law_letter","_law_gap_here"]) fun _ _ _ _ _ _ u h=>match u,h with | [_,_,_],_=>rfl
 have FNe:=fun_mk (st:=sNe) lNe cNe kNe
 have bNe:=FNe.binds (ps:=["_law_log_here","_law_n","_law_asked"]) fun _ _ _ _ _ _ u h=>match u,h with | [_,_,_],_=>rfl
 have FJu:=fun_mk (st:=sJu) lJu cJu kJu
 have bJu:=FJu.binds (ps:=["_law_log_here","_law_n","_law_asked"]) fun _ _ _ _ _ _ u h=>match u,h with | [_,_,_],_=>rfl
 have FLk:=fun_mk (st:=sLk) lLk cLk kLk
 have bLk:=FLk.binds (ps:=["_law_asked"]) fun _ _ _ _ _ _ u h=>match u,h with | [_],_=>rfl
 have FPc:=fun_mk (st:=sPc) lPc cPc kPc
 have bPc:=FPc.binds (ps:=["_law_script","_law_log_here"]) fun _ _ _ _ _ _ u h=>match u,h with | [_,_],_=>rfl
 have FTl:=fun_mk (st:=sTl) lTl cTl kTl
 have bTl:=FTl.binds (ps:=["_law_found","_law_log_here","_law_asked","_law_begun","_law_stop"]) fun _ _ _ _ _ _ u h=>match u,h with | [_,_,_,_,_],_=>rfl
 have FTe:=fun_mk (st:=sTe) lTe cTe kTe
 have bTe:=FTe.binds (ps:=["_law_asked"]) fun _ _ _ _ _ _ u h=>match u,h with | [_],_=>rfl
 have FXm:=fun_mk (st:=sMd) lXm cXm kXm
 have bXm:=FXm.binds (ps:=["word","parts"]) fun _ _ _ _ _ _ u h=>match u,h with | [_,_],_=>rfl
 have FXv:=fun_mk (st:=sVo) lXv cXv kXv
 have bXv:=FXv.binds (ps:=["kind","piece"]) fun _ _ _ _ _ _ u h=>match u,h with | [_,_],_=>rfl
 have FXp:=fun_mk (st:=sPi) lXp cXp kXp
 have bXp:=FXp.binds (ps:=["pieces","at"]) fun _ _ _ _ _ _ u h=>match u,h with | [_,_],_=>rfl
 have FXa:=fun_mk (st:=sPt) lXa cXa kXa
 have bXa:=FXa.binds (ps:=["kind","pieces","at","within"]) fun _ _ _ _ _ _ u h=>match u,h with | [_,_,_,_],_=>rfl
 have FXq:=fun_mk (st:=sQt) lXq cXq kXq
 have bXq:=FXq.binds (ps:=["pieces","at","within"]) fun _ _ _ _ _ _ u h=>match u,h with | [_,_,_],_=>rfl
 have FXo:=fun_mk (st:=sQo) lXo cXo kXo
 have bXo:=FXo.binds (ps:=["text"]) fun _ _ _ _ _ _ u h=>match u,h with | [_],_=>rfl
 have FMo:=fun_mk (st:=SL.sMo) lMo cMo kMo
 have bMo:=FMo.binds (ps:=["signs","text"]) fun _ _ _ _ _ _ u h=>match u,h with | [_,_],_=>rfl
 have FIi:=fun_mk (st:=SL.sIi) lIi cIi kIi
 have bIi:=FIi.binds (ps:=["text"]) fun _ _ _ _ _ _ u h=>match u,h with | [_],_=>rfl
 have FAl:=fun_mk (st:=SL.sAl) lAl cAl kAl
 have bAl:=FAl.binds (ps:=[]) fun _ _ _ _ _ _ u h=>match u,h with | [],_=>rfl
 have FSo:=fun_mk (st:=SL.sSo) lSo cSo kSo
 have bSo:=FSo.binds (ps:=["text"]) fun _ _ _ _ _ _ u h=>match u,h with | [_],_=>rfl
 have FZ:=fun_mk (st:=sLaw) lZ cZ kZ
 have FQb:=fun_mk (st:=sBk) lQb cQb kQb
 have bQb:=FQb.binds (ps:=["self"]) fun _ _ _ _ _ _ u h=>match u,h with | [_],_=>rfl
 have FQo:=fun_mk (st:=sOn) lQo cQo kQo
 have bQo:=FQo.binds (ps:=["self"]) fun _ _ _ _ _ _ u h=>match u,h with | [_],_=>rfl
 have FRf:=fun_mk (st:=sRf) lRf cRf kRf
 have bRf:=FRf.binds (ps:=["self","log","n"]) fun _ _ _ _ _ _ u h=>match u,h with | [_,_,_],_=>rfl
 have FWf:=fun_mk (st:=sWf) lWf cWf kWf
 have bWf:=FWf.binds (ps:=["self","log","n"]) fun _ _ _ _ _ _ u h=>match u,h with | [_,_,_],_=>rfl
 have FHo:=fun_mk (st:=sHo) lHo cHo kHo
 have bHo:=FHo.binds (ps:=["self"]) fun _ _ _ _ _ _ u h=>match u,h with | [_],_=>rfl
 have FHf:=fun_mk (st:=sHf) lHf cHf kHf
 have bHf:=FHf.binds (ps:=["self","log","n"]) fun _ _ _ _ _ _ u h=>match u,h with | [_,_,_],_=>rfl
 have FAb:=fun_mk (st:=sAb) lAb cAb kAb
 have bAb:=FAb.binds (ps:=["self"]) fun _ _ _ _ _ _ u h=>match u,h with | [_],_=>rfl
 have FAf:=fun_mk (st:=sAf) lAf cAf kAf
 have bAf:=FAf.binds (ps:=["self","log","n"]) fun _ _ _ _ _ _ u h=>match u,h with | [_,_,_],_=>rfl
 have FTb:=fun_mk (st:=sTb) lTb cTb kTb
 have bTb:=FTb.binds (ps:=["self"]) fun _ _ _ _ _ _ u h=>match u,h with | [_],_=>rfl
 have FTo:=fun_mk (st:=sTo) lTo cTo kTo
 have bTo:=FTo.binds (ps:=["self"]) fun _ _ _ _ _ _ u h=>match u,h with | [_],_=>rfl
 have FTf:=fun_mk (st:=sTf) lTf cTf kTf
 have bTf:=FTf.binds (ps:=["self","log","n"]) fun _ _ _ _ _ _ u h=>match u,h with | [_,_,_],_=>rfl
 have FJb:=fun_mk (st:=sJb) lJb cJb kJb
 have bJb:=FJb.binds (ps:=["self"]) fun _ _ _ _ _ _ u h=>match u,h with | [_],_=>rfl
 have FJo:=fun_mk (st:=sJo) lJo cJo kJo
 have bJo:=FJo.binds (ps:=["self"]) fun _ _ _ _ _ _ u h=>match u,h with | [_],_=>rfl
 have FBf:=fun_mk (st:=sBf) lBf cBf kBf
 have bBf:=FBf.binds (ps:=["self","log","n"]) fun _ _ _ _ _ _ u h=>match u,h with | [_,_,_],_=>rfl
 have FEf:=fun_mk (st:=sEf) lEf cEf kEf
 have bEf:=FEf.binds (ps:=["self","log","n"]) fun _ _ _ _ _ _ u h=>match u,h with | [_,_,_],_=>rfl
 have FNb:=fun_mk (st:=sNb) lNb cNb kNb
 have bNb:=FNb.binds (ps:=["self"]) fun _ _ _ _ _ _ u h=>match u,h with | [_],_=>rfl
 have FNo:=fun_mk (st:=sNo) lNo cNo kNo
 have bNo:=FNo.binds (ps:=["self"]) fun _ _ _ _ _ _ u h=>match u,h with | [_],_=>rfl
 have FNf:=fun_mk (st:=sNf) lNf cNf kNf
 have bNf:=FNf.binds (ps:=["self","log","n"]) fun _ _ _ _ _ _ u h=>match u,h with | [_,_,_],_=>rfl
 have FRi:=fun_mk (st:=sRi) lRi cRi kRi
 have bRi:=FRi.binds (ps:=["self","letter"]) fun _ _ _ _ _ _ u h=>match u,h with | [_,_],_=>rfl
 have FWi:=fun_mk (st:=sWi) lWi cWi kWi
 have bWi:=FWi.binds (ps:=["self","letter","gap","word"]) fun _ _ _ _ _ _ u h=>match u,h with | [_,_,_,_],_=>rfl
 have FHi:=fun_mk (st:=sHi) lHi cHi kHi
 have bHi:=FHi.binds (ps:=["self","letter","gap","other","there","reach"]) fun _ _ _ _ _ _ u h=>match u,h with | [_,_,_,_,_,_],_=>rfl
 have FAi:=fun_mk (st:=sAi) lAi cAi kAi
 have bAi:=FAi.binds (ps:=["self","letter","gap","other","there","reach"]) fun _ _ _ _ _ _ u h=>match u,h with | [_,_,_,_,_,_],_=>rfl
 have FTi:=fun_mk (st:=sTi) lTi cTi kTi
 have bTi:=FTi.binds (ps:=["self","reach","least","question"]) fun _ _ _ _ _ _ u h=>match u,h with | [_,_,_,_],_=>rfl
 have FJi:=fun_mk (st:=sJi) lJi cJi kJi
 have bJi:=FJi.binds (ps:=["self","one","other"]) fun _ _ _ _ _ _ u h=>match u,h with | [_,_,_],_=>rfl
 have FNi:=fun_mk (st:=sNi) lNi cNi kNi
 have bNi:=FNi.binds (ps:=["self","one"]) fun _ _ _ _ _ _ u h=>match u,h with | [_,_],_=>rfl
 have FYi:=fun_mk (st:=sYi) lYi cYi kYi
 have bYi:=FYi.binds (ps:=["self","question"]) fun _ _ _ _ _ _ u h=>match u,h with | [_,_],_=>rfl
 have FYt:=fun_mk (st:=sYt) lYt cYt kYt
 have bYt:=FYt.binds (ps:=["self","piece"]) fun _ _ _ _ _ _ u h=>match u,h with | [_,_],_=>rfl
 have FYe:=fun_mk (st:=sYe) lYe cYe kYe
 have bYe:=FYe.binds (ps:=["self"]) fun _ _ _ _ _ _ u h=>match u,h with | [_],_=>rfl
 have FYr:=fun_mk (st:=sYr) lYr cYr kYr
 have bYr:=FYr.binds (ps:=["self"]) fun _ _ _ _ _ _ u h=>match u,h with | [_],_=>rfl
 have FYs:=fun_mk (st:=sYs) lYs cYs kYs
 have bYs:=FYs.binds (ps:=["self","entries","stop"]) fun _ _ _ _ _ _ u h=>match u,h with | [_,_,_],_=>rfl
 have FYk:=fun_mk (st:=sYk) lYk cYk kYk
 have bYk:=FYk.binds (ps:=["self"]) fun _ _ _ _ _ _ u h=>match u,h with | [_],_=>rfl
 have FNt:=fun_mk (st:=SL.sNt) lNt cNt kNt
 have bNt:=FNt.binds (ps:=["self","text"]) fun _ _ _ _ _ _ u h=>match u,h with | [_,_],_=>rfl
 have FNw:=fun_mk (st:=SL.sNw) lNw cNw kNw
 have bNw:=FNw.binds (ps:=["self"]) fun _ _ _ _ _ _ u h=>match u,h with | [_],_=>rfl
 have FAt:=fun_mk (st:=SL.sAt) lAt cAt kAt
 have bAt:=FAt.binds (ps:=["self","text"]) fun _ _ _ _ _ _ u h=>match u,h with | [_,_],_=>rfl
 have FAw:=fun_mk (st:=SL.sAw) lAw cAw kAw
 have bAw:=FAw.binds (ps:=["self"]) fun _ _ _ _ _ _ u h=>match u,h with | [_],_=>rfl
 have FIt:=fun_mk (st:=SL.sIt) lIt cIt kIt
 have bIt:=FIt.binds (ps:=["self","text"]) fun _ _ _ _ _ _ u h=>match u,h with | [_,_],_=>rfl
 have FIw:=fun_mk (st:=SL.sIw) lIw cIw kIw
 have bIw:=FIw.binds (ps:=["self"]) fun _ _ _ _ _ _ u h=>match u,h with | [_],_=>rfl
 have FKt:=fun_mk (st:=SL.sKt) lKt cKt kKt
 have bKt:=FKt.binds (ps:=["self","text"]) fun _ _ _ _ _ _ u h=>match u,h with | [_,_],_=>rfl
 have FKw:=fun_mk (st:=SL.sKw) lKw cKw kKw
 have bKw:=FKw.binds (ps:=["self"]) fun _ _ _ _ _ _ u h=>match u,h with | [_],_=>rfl
 have gW:=W.mg_of X G aW
 have gS2:=W.mg_of X G aS2
 have gMv:=W.mg_of X G aMv
 have gC1:=W.mg_of X G aC1
 have gM1:=W.mg_of X G aM1
 have gP:=W.mg_of X G aP
 have gL:=W.mg_of X G aL
 have gE:=W.mg_of X G aE
 have gG1:=W.mg_of X G aG1
 have gS:=W.mg_of X G aS
 have gCo:=W.mg_of X G aCo
 have gSh:=W.mg_of X G aSh
 have gNr:=W.mg_of X G aNr
 have gGw:=W.mg_of X G aGw
 have gGa:=W.mg_of X G aGa
 have gNe:=W.mg_of X G aNe
 have gJu:=W.mg_of X G aJu
 have gLk:=W.mg_of X G aLk
 have gPc:=W.mg_of X G aPc
 have gTl:=W.mg_of X G aTl
 have gTe:=W.mg_of X G aTe
 have gXm:=W.mg_of X G aXm
 have gXv:=W.mg_of X G aXv
 have gXp:=W.mg_of X G aXp
 have gXa:=W.mg_of X G aXa
 have gXq:=W.mg_of X G aXq
 have gXo:=W.mg_of X G aXo
 have gMo:=W.mg_of X G aMo
 have gIi:=W.mg_of X G aIi
 have gAl:=W.mg_of X G aAl
 have gSo:=W.mg_of X G aSo
 have mQb:Meth K CR "back" fQb:=⟨aQb,iQb,kQb⟩
 have mQo:Meth K CR "on" fQo:=⟨aQo,iQo,kQo⟩
 have mRf:Meth K CR "found" fRf:=⟨aRf,iRf,kRf⟩
 have mWf:Meth K CW "found" fWf:=⟨aWf,iWf,kWf⟩
 have mHo:Meth K CH "on" fHo:=⟨aHo,iHo,kHo⟩
 have mHf:Meth K CH "found" fHf:=⟨aHf,iHf,kHf⟩
 have mAb:Meth K CA "back" fAb:=⟨aAb,iAb,kAb⟩
 have mAf:Meth K CA "found" fAf:=⟨aAf,iAf,kAf⟩
 have mTb:Meth K CT "back" fTb:=⟨aTb,iTb,kTb⟩
 have mTo:Meth K CT "on" fTo:=⟨aTo,iTo,kTo⟩
 have mTf:Meth K CT "found" fTf:=⟨aTf,iTf,kTf⟩
 have mJb:Meth K CB "back" fJb:=⟨aJb,iJb,kJb⟩
 have mJo:Meth K CB "on" fJo:=⟨aJo,iJo,kJo⟩
 have mBf:Meth K CB "found" fBf:=⟨aBf,iBf,kBf⟩
 have mEf:Meth K CE "found" fEf:=⟨aEf,iEf,kEf⟩
 have mNb:Meth K CN "back" fNb:=⟨aNb,iNb,kNb⟩
 have mNo:Meth K CN "on" fNo:=⟨aNo,iNo,kNo⟩
 have mNf:Meth K CN "found" fNf:=⟨aNf,iNf,kNf⟩
 have MCR:Mk K CR fRi:=⟨mkCR,aRi,iRi,kcCR⟩
 have MCW:Mk K CW fWi:=⟨mkCW,aWi,iWi,kcCW⟩
 have MCH:Mk K CH fHi:=⟨mkCH,aHi,iHi,kcCH⟩
 have MCA:Mk K CA fAi:=⟨mkCA,aAi,iAi,kcCA⟩
 have MCT:Mk K CT fTi:=⟨mkCT,aTi,iTi,kcCT⟩
 have MCB:Mk K CB fJi:=⟨mkCB,aJi,iJi,kcCB⟩
 have MCN:Mk K CN fNi:=⟨mkCN,aNi,iNi,kcCN⟩
 have MCY:Mk K CY fYi:=⟨mkCY,aYi,iYi,kcCY⟩
 have mYt:Meth K CY "take" fYt:=⟨aYt,iYt,kYt⟩
 have mYe:Meth K CY "end" fYe:=⟨aYe,iYe,kYe⟩
 have mYr:Meth K CY "refuse_if_over" fYr:=⟨aYr,iYr,kYr⟩
 have mYs:Meth K CY "settle" fYs:=⟨aYs,iYs,kYs⟩
 have mYk:Meth K CY "kept" fYk:=⟨aYk,iYk,kYk⟩
 have mNt:Meth K SN "takes" fNt:=⟨aNt,iNt,kNt⟩
 have mNw:Meth K SN "word" fNw:=⟨aNw,iNw,kNw⟩
 have mAt:Meth K SA "takes" fAt:=⟨aAt,iAt,kAt⟩
 have mAw:Meth K SA "word" fAw:=⟨aAw,iAw,kAw⟩
 have mIt:Meth K SI "takes" fIt:=⟨aIt,iIt,kIt⟩
 have mIw:Meth K SI "word" fIw:=⟨aIw,iIw,kIw⟩
 have mKt:Meth K SK "takes" fKt:=⟨aKt,iKt,kKt⟩
 have mKw:Meth K SK "word" fKw:=⟨aKw,iKw,kKw⟩
 have mCWQb:Meth K CW "back" fQb:=⟨aCWQb,iQb,kQb⟩
 have mCWQo:Meth K CW "on" fQo:=⟨aCWQo,iQo,kQo⟩
 have mCHQb:Meth K CH "back" fQb:=⟨aCHQb,iQb,kQb⟩
 have mCAQo:Meth K CA "on" fQo:=⟨aCAQo,iQo,kQo⟩
 have mCEJb:Meth K CE "back" fJb:=⟨aCEJb,iJb,kJb⟩
 have mCEJo:Meth K CE "on" fJo:=⟨aCEJo,iJo,kJo⟩
 have mCEJi:Meth K CE "__init__" fJi:=⟨aCEJi,iJi,kJi⟩
 have T2:Txt2 mg:=⟨W.mg_none_of X G zsorted,W.mg_none_of X G zset⟩
 have XP:Prog K mg (clF CR CW CH CA CT CB CE CN) _ _ _ _ _ _ _ _ _ _ _ _ _ _ _ _ _ _ _ _ _ _ _ _ _ _ _ _ _ _ _ _ _ _ _ _ _ _ _ _:=⟨T,FW,bW,gW,FS2,bS2,gS2,T2,clCR,nCR_wanted,clCW,nCW_here,nCW_wanted,clCH,nCH_here,nCH_away,nCH_reach,clCA,nCA_here,nCA_away,nCA_reach,clCT,nCT_reach,nCT_least,nCT_inner,clCB,nCB_one,nCB_other,clCE,nCE_one,nCE_other,clCN,nCN_one,FQb,bQb,FQo,bQo,FRf,bRf,FWf,bWf,FHo,bHo,FHf,bHf,FAb,bAb,FAf,bAf,FTb,bTb,FTo,bTo,FTf,bTf,FJb,bJb,FJo,bJo,FBf,bBf,FEf,bEf,FNb,bNb,FNo,bNo,FNf,bNf,mQb,mQo,mRf,mCWQb,mCWQo,mWf,mCHQb,mHo,mHf,mAb,mCAQo,mAf,mTb,mTo,mTf,mJb,mJo,mBf,mCEJb,mCEJo,mEf,mNb,mNo,mNf⟩
 have MCE:Mk K CE fJi:=⟨mkCE,aCEJi,iJi,kcCE⟩
 have YY:WK K CY:=⟨clCY,nCY_question,nCY_entries,nCY_first,nCY_settled,nCY_over⟩
 have TS:SL.TS mg:=⟨T.len,T.all,⟨_,W.mg_of X G qf,_,rfl⟩,⟨_,W.mg_of X G qs,_,rfl⟩,⟨_,W.mg_of X G qn,_,rfl⟩,⟨_,W.mg_of X G qm,_,rfl⟩,⟨_,W.mg_of X G qa,_,rfl⟩,⟨_,W.mg_of X G qb,_,rfl⟩,⟨_,W.mg_of X G qc,_,rfl⟩⟩
 have TKK:TK w K mg AK AL AG (clF U0 U1 U2 U3 U4 U5 U6 U7):=⟨mgAK,mgAL,mgAG,⟨_,W.mg_of X G qp,_,rfl⟩,⟨_,_,lkK,smK,enK,kinds_nd _⟩,⟨_,_,lkL,smL,enL,by decide +kernel⟩,⟨_,_,lkG,smG,enG,by decide +kernel⟩,fun k=>match k with | .row=>⟨_,_,_,lT0,rfl,rfl,zT0,vT0⟩ | .wit=>⟨_,_,_,lT1,rfl,rfl,zT1,vT1⟩ | .beh=>⟨_,_,_,lT2,rfl,rfl,zT2,vT2⟩ | .ahd=>⟨_,_,_,lT3,rfl,rfl,zT3,vT3⟩ | .tim=>⟨_,_,_,lT4,rfl,rfl,zT4,vT4⟩ | .bot=>⟨_,_,_,lT5,rfl,rfl,zT5,vT5⟩ | .eit=>⟨_,_,_,lT6,rfl,rfl,zT6,vT6⟩ | .non=>⟨_,_,_,lT7,rfl,rfl,zT7,vT7⟩⟩
 exact⟨W.fnOf "law" "law" (defArgs sLaw) (defBody sLaw) (defScope sLaw) .none kVZ dcZ pmZ anZ cdZ ctZ,fun s v=>.of_eq rfl,fun base _ _=>ok_all FZ T (cl:=(clF CR CW CH CA CT CB CE CN)) (tab XP 5) ⟨MCR,MCW,MCH,MCA,mgCR,mgCW,mgCH,mgCA,bRi,bWi,bHi,bAi,ok_ri FRi clCR nCR_wanted,ok_wi FWi clCW nCW_here nCW_wanted,ok_hi FHi clCH nCH_here nCH_away nCH_reach,ok_ai FAi clCA nCA_here nCA_away nCA_reach⟩ ⟨MCT,MCB,MCE,MCN,mgCT,mgCB,mgCE,mgCN,bTi,bJi,bNi,ok_ti FTi clCT nCT_reach nCT_least nCT_inner,ok_ji true FJi clCB nCB_one nCB_other,ok_ji false FJi clCE nCE_one nCE_other,ok_ni FNi clCN nCN_one⟩ TKK ⟨YY,MCY,mgCY,bYi,ok_yi FYi YY,mYt,bYt,ok_yt FYt T YY (tab XP 5) FYr bYr mYr bYs mYs (ok_ys FYs T YY (tab XP 5) (by decide) FMv bMv gMv),mYe,bYe,ok_ye FYe T YY FYr bYr mYr bYs mYs (ok_ys FYs T YY (tab XP 5) (by decide) FMv bMv gMv)⟩ FYk bYk mYk FC1 bC1 gC1 FM1 bM1 gM1 FP bP gP FL bL gL FE bE gE FG1 bG1 gG1 FS bS gS FCo bCo gCo FSh bSh gSh FNr bNr gNr FGw bGw gGw FGa bGa gGa FNe bNe gNe FJu bJu gJu FLk bLk gLk FPc bPc gPc FTl bTl gTl FTe bTe gTe FXm bXm gXm FXv bXv gXv FXp bXp gXp FXa bXa gXa FXq bXq gXq FXo bXo gXo FSo bSo gSo (SL.sorts_ok TS ⟨MSN,mgSN,clSN,mNt,bNt,mNw,bNw⟩ ⟨MSA,mgSA,clSA,mAt,bAt,mAw,bAw⟩ ⟨MSI,mgSI,clSI,mIt,bIt,mIw,bIw⟩ ⟨MSK,mgSK,clSK,mKt,bKt,mKw,bKw⟩ FNt FNw FAt FAw FIt FIw FKt FKw FMo bMo gMo FIi bIi gIi FAl bAl gAl FSo)⟩
theorem walk {l:W.OpenLaw}{q:Program}{loose:List Str}{XP:(Str->Option Value)->Heap->Prop}{YP:World->Heap->Prop}{d:DefRec}{K:Params->W.Frag}(hn:l.most=some 63)(hdf:d.params.defaults=[])
  (hY:∀(w:World) (h:Heap),YP w h->(K w.params).In h)
  (F:∀(w:World) (mg:Str->Option Value) (fa:Addr) (h:Heap),(K w.params).In h->h.Ns mainGlobals mg->mg d.name=some (.ref fa)→
   ∃fd:FuncData,(∀(s:Shared) (u:Value),BindsTo s fd ⟨[u],[]⟩ [("_law_script",u)])/\∀base:Heap,(K w.params).In base->base.Ns mainGlobals mg->FnOk l.prog w (K w.params) mg base CX0 19 fa fd ["_law_script"] (spLaw (K w.params))):
  W.WalkO q loose XP YP l.row.toRowW d [] (fun f vs=>PySem.call f vs):=
 L2.walk_of (n:=63) (k:=19) (x:="_law_script") (CX:=fun _=>CX0) (sp:=fun w=>spLaw (K w.params)) hn (by decide) hdf ⟨rfl,by decide,by decide⟩ hY F (fun _ _ a ns hl _ hS=>⟨a,ns,rfl,hS,hl,fun _=>rfl⟩) fun _ _ _ _ _ z=>z
end QL
open PySem PySem.W PyProof.Rows
set_option maxRecDepth 100000 in
set_option maxHeartbeats 0 in
theorem PySem.Challenge.cw_logloom_k59_whole_watch_holds : PySem.Challenge.rw_logloom_k59_whole_watch.Holds := by
 w_on;refine PySem.W.holds_law hWs59 fun said=>?_
 refine PySem.W.holds_open (q:=QL.hQ) (loose:=[PySem.Str.ofString "KINDS",PySem.Str.ofString "LEAST",PySem.Str.ofString "GREATEST"]) (Xt:=QL.hX)
  (XP:=PySem.W.XL QL.hQ [])
  (Yf:=(PySem.W.kHook QL.hK QL.hA QL.hE).obs) (Ya:=(PySem.W.kHook QL.hK QL.hA QL.hE).val)
  (YP:=(PySem.W.kHook QL.hK QL.hA QL.hE).says)
  (N:=13586) QL.hL (PySem.W.kHook QL.hK QL.hA QL.hE).of (PySem.W.kHook QL.hK QL.hA QL.hE).keeps
  (fun s e=>PySem.W.xl_of s (Bool.and_eq_true_iff.mp e).1) PySem.W.XL.keeps
  rfl rfl rfl
  (fun s e=>PySem.W.recFacts_of (Bool.and_eq_true_iff.mp e).2)
  rfl (by first|assumption|decide +kernel) (by decide +kernel)
  ⟨rfl,rfl,rfl,rfl,rfl,by decide +kernel⟩ ?hw ?hc
 case hw=>w_witness2
 k_fill
 refine QL.walk (l:=PySem.Challenge.rw_logloom_k59_whole_watch) rfl rfl (fun w h Y=>PySem.W.kIn_of Y) ?F
 case F=>
  intro w mg fa h KX G hmg
  refine' QL.all_mk KX G hmg ?aCR ?pgCR ?hdCR ?poCR ?saCR ?mkCR ?kcCR ?haCR ?hmCR ?nCR_wanted ?aCW ?pgCW ?hdCW ?poCW ?saCW ?mkCW ?kcCW ?haCW ?hmCW ?nCW_here ?nCW_wanted ?aCH ?pgCH ?hdCH ?poCH ?saCH ?mkCH ?kcCH ?haCH ?hmCH ?nCH_here ?nCH_away ?nCH_reach ?aCA ?pgCA ?hdCA ?poCA ?saCA ?mkCA ?kcCA ?haCA ?hmCA ?nCA_here ?nCA_away ?nCA_reach ?aCT ?pgCT ?hdCT ?poCT ?saCT ?mkCT ?kcCT ?haCT ?hmCT ?nCT_reach ?nCT_least ?nCT_inner ?aCB ?pgCB ?hdCB ?poCB ?saCB ?mkCB ?kcCB ?haCB ?hmCB ?nCB_one ?nCB_other ?aCE ?pgCE ?hdCE ?poCE ?saCE ?mkCE ?kcCE ?haCE ?hmCE ?nCE_one ?nCE_other ?aCN ?pgCN ?hdCN ?poCN ?saCN ?mkCN ?kcCN ?haCN ?hmCN ?nCN_one ?aCY ?pgCY ?hdCY ?poCY ?saCY ?mkCY ?kcCY ?haCY ?hmCY ?nCY_question ?nCY_entries ?nCY_first ?nCY_settled ?nCY_over ?aSN ?pgSN ?hdSN ?poSN ?saSN ?mkSN ?kcSN ?haSN ?hmSN ?inSN ?aSA ?pgSA ?hdSA ?poSA ?saSA ?mkSA ?kcSA ?haSA ?hmSA ?inSA ?aSI ?pgSI ?hdSI ?poSI ?saSI ?mkSI ?kcSI ?haSI ?hmSI ?inSI ?aSK ?pgSK ?hdSK ?poSK ?saSK ?mkSK ?kcSK ?haSK ?hmSK ?inSK ?aAK ?aAL ?aAG ?hn ?htk ?lkK ?smK ?lkL ?smL ?lkG ?smG ?enK ?enL ?enG ?lT0 ?zT0 ?vT0 ?lT1 ?zT1 ?vT1 ?lT2 ?zT2 ?vT2 ?lT3 ?zT3 ?vT3 ?lT4 ?zT4 ?vT4 ?lT5 ?zT5 ?vT5 ?lT6 ?zT6 ?vT6 ?lT7 ?zT7 ?vT7 ?aW ?lW ?cW ?kW ?aS2 ?lS2 ?cS2 ?kS2 ?aMv ?lMv ?cMv ?kMv ?aC1 ?lC1 ?cC1 ?kC1 ?aM1 ?lM1 ?cM1 ?kM1 ?aP ?lP ?cP ?kP ?aL ?lL ?cL ?kL ?aE ?lE ?cE ?kE ?aG1 ?lG1 ?cG1 ?kG1 ?aS ?lS ?cS ?kS ?aCo ?lCo ?cCo ?kCo ?aSh ?lSh ?cSh ?kSh ?aNr ?lNr ?cNr ?kNr ?aGw ?lGw ?cGw ?kGw ?aGa ?lGa ?cGa ?kGa ?aNe ?lNe ?cNe ?kNe ?aJu ?lJu ?cJu ?kJu ?aLk ?lLk ?cLk ?kLk ?aPc ?lPc ?cPc ?kPc ?aTl ?lTl ?cTl ?kTl ?aTe ?lTe ?cTe ?kTe ?aXm ?lXm ?cXm ?kXm ?aXv ?lXv ?cXv ?kXv ?aXp ?lXp ?cXp ?kXp ?aXa ?lXa ?cXa ?kXa ?aXq ?lXq ?cXq ?kXq ?aXo ?lXo ?cXo ?kXo ?aMo ?lMo ?cMo ?kMo ?aIi ?lIi ?cIi ?kIi ?aAl ?lAl ?cAl ?kAl ?aSo ?lSo ?cSo ?kSo ?aZ ?lZ ?cZ ?kZ ?aQb ?iQb ?lQb ?cQb ?kQb ?aQo ?iQo ?lQo ?cQo ?kQo ?aRf ?iRf ?lRf ?cRf ?kRf ?aWf ?iWf ?lWf ?cWf ?kWf ?aHo ?iHo ?lHo ?cHo ?kHo ?aHf ?iHf ?lHf ?cHf ?kHf ?aAb ?iAb ?lAb ?cAb ?kAb ?aAf ?iAf ?lAf ?cAf ?kAf ?aTb ?iTb ?lTb ?cTb ?kTb ?aTo ?iTo ?lTo ?cTo ?kTo ?aTf ?iTf ?lTf ?cTf ?kTf ?aJb ?iJb ?lJb ?cJb ?kJb ?aJo ?iJo ?lJo ?cJo ?kJo ?aBf ?iBf ?lBf ?cBf ?kBf ?aEf ?iEf ?lEf ?cEf ?kEf ?aNb ?iNb ?lNb ?cNb ?kNb ?aNo ?iNo ?lNo ?cNo ?kNo ?aNf ?iNf ?lNf ?cNf ?kNf ?aRi ?iRi ?lRi ?cRi ?kRi ?aWi ?iWi ?lWi ?cWi ?kWi ?aHi ?iHi ?lHi ?cHi ?kHi ?aAi ?iAi ?lAi ?cAi ?kAi ?aTi ?iTi ?lTi ?cTi ?kTi ?aJi ?iJi ?lJi ?cJi ?kJi ?aNi ?iNi ?lNi ?cNi ?kNi ?aYi ?iYi ?lYi ?cYi ?kYi ?aYt ?iYt ?lYt ?cYt ?kYt ?aYe ?iYe ?lYe ?cYe ?kYe ?aYr ?iYr ?lYr ?cYr ?kYr ?aYs ?iYs ?lYs ?cYs ?kYs ?aYk ?iYk ?lYk ?cYk ?kYk ?aNt ?iNt ?lNt ?cNt ?kNt ?aNw ?iNw ?lNw ?cNw ?kNw ?aAt ?iAt ?lAt ?cAt ?kAt ?aAw ?iAw ?lAw ?cAw ?kAw ?aIt ?iIt ?lIt ?cIt ?kIt ?aIw ?iIw ?lIw ?cIw ?kIw ?aKt ?iKt ?lKt ?cKt ?kKt ?aKw ?iKw ?lKw ?cKw ?kKw ?aCWQb ?aCWQo ?aCHQb ?aCAQo ?aCEJb ?aCEJo ?aCEJi ?qf ?qs ?qn ?qm ?qa ?qb ?qc ?qp ?zsorted ?zset ?zlen ?zrange ?ztuple ?zisin ?zstr ?zlist ?zint ?zbool ?zall ?zmin ?zmax
  case aCR|pgCR|hdCR|poCR|saCR|mkCR|kcCR|haCR|hmCR|nCR_wanted|aCW|pgCW|hdCW|poCW|saCW|mkCW|kcCW|haCW|hmCW|nCW_here|nCW_wanted|aCH|pgCH|hdCH|poCH|saCH|mkCH|kcCH|haCH|hmCH|nCH_here|nCH_away|nCH_reach|aCA|pgCA|hdCA|poCA|saCA|mkCA|kcCA|haCA|hmCA|nCA_here|nCA_away|nCA_reach|aCT|pgCT|hdCT|poCT|saCT|mkCT|kcCT|haCT|hmCT|nCT_reach|nCT_least|nCT_inner|aCB|pgCB|hdCB|poCB|saCB|mkCB|kcCB|haCB|hmCB|nCB_one|nCB_other|aCE|pgCE|hdCE|poCE|saCE|mkCE|kcCE|haCE|hmCE|nCE_one|nCE_other|aCN|pgCN|hdCN|poCN|saCN|mkCN|kcCN|haCN|hmCN|nCN_one|aCY|pgCY|hdCY|poCY|saCY|mkCY|kcCY|haCY|hmCY|nCY_question|nCY_entries|nCY_first|nCY_settled|nCY_over|aSN|pgSN|hdSN|poSN|saSN|mkSN|kcSN|haSN|hmSN|inSN|aSA|pgSA|hdSA|poSA|saSA|mkSA|kcSA|haSA|hmSA|inSA|aSI|pgSI|hdSI|poSI|saSI|mkSI|kcSI|haSI|hmSI|inSI|aSK|pgSK|hdSK|poSK|saSK|mkSK|kcSK|haSK|hmSK|inSK|aAK|aAL|aAG|hn|htk|lkK=>k_is
  case smK=>(first|kernel_rfl|decide +kernel)
  case lkL=>k_is
  case smL=>(first|kernel_rfl|decide +kernel)
  case lkG=>k_is
  case smG=>(first|kernel_rfl|decide +kernel)
  (case enK=>(exact⟨⟨rfl,⟨_,rfl⟩,rfl⟩,⟨rfl,⟨_,rfl⟩,rfl⟩,⟨rfl,⟨_,rfl⟩,rfl⟩,⟨rfl,⟨_,rfl⟩,rfl⟩,⟨rfl,⟨_,rfl⟩,rfl⟩,⟨rfl,⟨_,rfl⟩,rfl⟩,⟨rfl,⟨_,rfl⟩,rfl⟩,⟨rfl,⟨_,rfl⟩,rfl⟩,True.intro⟩))
  (case enL=>(exact⟨⟨rfl,⟨_,rfl⟩,⟨_,rfl⟩⟩,⟨rfl,⟨_,rfl⟩,⟨_,rfl⟩⟩,⟨rfl,⟨_,rfl⟩,⟨_,rfl⟩⟩,True.intro⟩))
  (case enG=>(exact⟨⟨rfl,⟨_,rfl⟩,⟨_,rfl⟩⟩,⟨rfl,⟨_,rfl⟩,⟨_,rfl⟩⟩,⟨rfl,⟨_,rfl⟩,⟨_,rfl⟩⟩,True.intro⟩))
  case lT0=>k_is
  (case zT0=>(exact Nat.le_of_lt (L2.small1000 (by show 1<=1000;decide))))
  (case vT0=>(exact .cons ⟨_,rfl⟩ (.nil)))
  case lT1=>k_is
  (case zT1=>(exact Nat.le_of_lt (L2.small1000 (by show 3<=1000;decide))))
  (case vT1=>(exact .cons ⟨_,rfl⟩ (.cons ⟨_,rfl⟩ (.cons ⟨_,rfl⟩ (.nil)))))
  case lT2=>k_is
  (case zT2=>(exact Nat.le_of_lt (L2.small1000 (by show 5<=1000;decide))))
  (case vT2=>(exact .cons ⟨_,rfl⟩ (.cons ⟨_,rfl⟩ (.cons ⟨_,rfl⟩ (.cons ⟨_,rfl⟩ (.cons ⟨_,rfl⟩ (.nil)))))))
  case lT3=>k_is
  (case zT3=>(exact Nat.le_of_lt (L2.small1000 (by show 5<=1000;decide))))
  (case vT3=>(exact .cons ⟨_,rfl⟩ (.cons ⟨_,rfl⟩ (.cons ⟨_,rfl⟩ (.cons ⟨_,rfl⟩ (.cons ⟨_,rfl⟩ (.nil)))))))
  case lT4=>k_is
  (case zT4=>(exact Nat.le_of_lt (L2.small1000 (by show 3<=1000;decide))))
  (case vT4=>(exact .cons ⟨_,rfl⟩ (.cons ⟨_,rfl⟩ (.cons ⟨_,rfl⟩ (.nil)))))
  case lT5=>k_is
  (case zT5=>(exact Nat.le_of_lt (L2.small1000 (by show 2<=1000;decide))))
  (case vT5=>(exact .cons ⟨_,rfl⟩ (.cons ⟨_,rfl⟩ (.nil))))
  case lT6=>k_is
  (case zT6=>(exact Nat.le_of_lt (L2.small1000 (by show 2<=1000;decide))))
  (case vT6=>(exact .cons ⟨_,rfl⟩ (.cons ⟨_,rfl⟩ (.nil))))
  case lT7=>k_is
  (case zT7=>(exact Nat.le_of_lt (L2.small1000 (by show 1<=1000;decide))))
  (case vT7=>(exact .cons ⟨_,rfl⟩ (.nil)))
  case aW|lW|cW|kW|aS2|lS2|cS2|kS2|aMv|lMv|cMv|kMv|aC1|lC1|cC1|kC1|aM1|lM1|cM1|kM1|aP|lP|cP|kP|aL|lL|cL|kL|aE|lE|cE|kE|aG1|lG1|cG1|kG1|aS|lS|cS|kS|aCo|lCo|cCo|kCo|aSh|lSh|cSh|kSh|aNr|lNr|cNr|kNr|aGw|lGw|cGw|kGw|aGa|lGa|cGa|kGa|aNe|lNe|cNe|kNe|aJu|lJu|cJu|kJu|aLk|lLk|cLk|kLk|aPc|lPc|cPc|kPc|aTl|lTl|cTl|kTl|aTe|lTe|cTe|kTe|aXm|lXm|cXm|kXm|aXv|lXv|cXv|kXv|aXp|lXp|cXp|kXp|aXa|lXa|cXa|kXa|aXq|lXq|cXq|kXq|aXo|lXo|cXo|kXo|aMo|lMo|cMo|kMo|aIi|lIi|cIi|kIi|aAl|lAl|cAl|kAl|aSo|lSo|cSo|kSo|aZ|lZ|cZ|kZ|aQb|iQb|lQb|cQb|kQb|aQo|iQo|lQo|cQo|kQo|aRf|iRf|lRf|cRf|kRf|aWf|iWf|lWf|cWf|kWf|aHo|iHo|lHo|cHo|kHo|aHf|iHf|lHf|cHf|kHf|aAb|iAb|lAb|cAb|kAb|aAf|iAf|lAf|cAf|kAf|aTb|iTb|lTb|cTb|kTb|aTo|iTo|lTo|cTo|kTo|aTf|iTf|lTf|cTf|kTf|aJb|iJb|lJb|cJb|kJb|aJo|iJo|lJo|cJo|kJo|aBf|iBf|lBf|cBf|kBf|aEf|iEf|lEf|cEf|kEf|aNb|iNb|lNb|cNb|kNb|aNo|iNo|lNo|cNo|kNo|aNf|iNf|lNf|cNf|kNf|aRi|iRi|lRi|cRi|kRi|aWi|iWi|lWi|cWi|kWi|aHi|iHi|lHi|cHi|kHi|aAi|iAi|lAi|cAi|kAi|aTi|iTi|lTi|cTi|kTi|aJi|iJi|lJi|cJi|kJi|aNi|iNi|lNi|cNi|kNi|aYi|iYi|lYi|cYi|kYi|aYt|iYt|lYt|cYt|kYt|aYe|iYe|lYe|cYe|kYe|aYr|iYr|lYr|cYr|kYr|aYs|iYs|lYs|cYs|kYs|aYk|iYk|lYk|cYk|kYk|aNt|iNt|lNt|cNt|kNt|aNw|iNw|lNw|cNw|kNw|aAt|iAt|lAt|cAt|kAt|aAw|iAw|lAw|cAw|kAw|aIt|iIt|lIt|cIt|kIt|aIw|iIw|lIw|cIw|kIw|aKt|iKt|lKt|cKt|kKt|aKw|iKw|lKw|cKw|kKw|aCWQb|aCWQo|aCHQb|aCAQo|aCEJb|aCEJo|aCEJi|qf|qs|qn|qm|qa|qb|qc|qp|zsorted|zset|zlen|zrange|ztuple|zisin|zstr|zlist|zint|zbool|zall|zmin|zmax=>k_is
