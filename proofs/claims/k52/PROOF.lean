import PyProof.Rows.All
import Wide.All
import OpenK.AllK
import Wide.FinOn
import Lean
import PyProof.EqAt
import PyProof.EqKinds
import PyProof.TupleCall
import PySem.Challenge.RW_fewrooms_k52_plans_shown_there
noncomputable section
set_option compiler.extract_closed false
set_option bootstrap.genMatcherCode false
open PySem.W renaming Frag→Ab1
abbrev Aa0:=List (List Int)
abbrev Aa1:=PySem.Value->PySem.Shared->Prop
abbrev Aa2:=List (PySem.Addr × PySem.Obj)
abbrev Ab0:=PySem.Str->Option PySem.Value
open PyProof.Rows renaming wpS_bind→B77,wpS_pure→B78,pendingOf→B79,wpS_forRange→B90,wpS_modify→B93,IntsAre→C01,wpS_mono→C05,wpS_get→C23,SortKind→C34,AllBare→C44,failedOf→C49,reverseSlice'_eq→C50
open PySem renaming wpAny_bind→B73,wpAny_pure→B74,sizeLine→B75,Program→B76,sizeLine_eq→B80,bootBuiltins→B81,wpAny_newObj_type→B82,wpAny_mono→B83,wpAny_holding→B84,starEach→B85,wpAny_call_entry→B86,wpAny_field→B87,FuncData→B88,mainGlobals→B89,wpAny_truthy_bool→B91,codeAny_builtin→B92,compareOp→B94,wpAny_seqItems→B95,wpAny_passesOwn→B96,wpAny_loadPart'→B97,wpAny_rule→B98,codeAny_mono→B99,sysModules→C00,wpAny_setField→C02,wpAny_setState_of→C03,plainId_quiet→C04,wpAny_Call_Name_kw→C06,wpAny_setField_rec→C07,wpAny_execs_nil→C08,Arguments→C09,wpAny_attempt→C10,wpAny_typeNameOfWhole_keyiter→C11,wpAny_isInstance→C12,binaryOp→C13,codeAny→C14,behindInMarks→C15,wpAny_standAt→C16,wpAny_pyIter_list→C17,wpAny_loadPart_at→C18,wpAny_call→C19,hashInt→C20,wpAny_tryCatch→C21,wpAny_typeNameOf_keyiter→C22,SetTable→C24,wpAny_of_eq→C25,wpAny_letGo→C26,foldedSetIterable→C27,intKind→C28,firstArgMember→C29,assignEach→C30,NameKind→C31,wpAny_askSetting→C32,codeAny_call_builtin→C33,wpAny_onRaise→C35,holding→C36,getItem→C37,sliceBounds→C38,codeAny_of_tree→C39,wpAny_ite_false→C40,GenState→C41,bindArgs→C42,wpAny_typeOf→C43,call_meets→C45,wpAny_pyNext_list_item→C46,wpAny_execs_cons→C47,ZipApart→C48,wpAny_pyNext_list_end→C51,builtinsNs→C52,letOwnedTupleGo→C53,wpAny_updateSeq_pair→C54
open Array renaming getElem?_eq_getElem→C8,length_toList→D6,toList_append→F0,getElem?_toList→F9,getD_eq_getD_getElem?→L0,getElem?_eq_some_iff→W7,toList_reverse→X9,toList_push→Y6,perm_iff_toList_perm→d6,getElem_toList→d9,forIn_toList→j8,toList_setIfInBounds→A13,getElem?_eq_none→A48,find?_toList→A85,toList→B13
open Bool renaming false_ne_true→B6,false_eq_true→G0,and_eq_true→L3,false_and→O9,and_eq_true_iff→P4,true_and→Q6,eq_iff_iff→R4,eq_false_iff→V7,not_true→c6,and_false→p8,or_eq_true→A01,not_eq_true'→B08,not_false→B41
open False renaming elim→P1
open ForInStep renaming yield→P9,done→p9
open Int renaming le_refl→T8,emod_lt_of_pos→X0,toNat_natCast→Y3,eq_ofNat_of_zero_le→Z4,emod_nonneg→b7,fdiv_eq_ediv_of_nonneg→A10,fmod_eq_emod_of_nonneg→A11,le_of_lt→A55,natCast_nonneg→A96
open List renaming length_map→A0,length_append→A6,getElem?_eq_getElem→B0,mem_singleton→B3,getElem?_eq_some_iff→B5,mem_append→B7,mem_cons→C0,length_singleton→C1,mem_cons_of_mem→C2,size_toArray→C3,map_append→C4,getElem?_map→C6,length_take→C9,take_of_length_le→D3,mem_of_getElem?→D4,map_cons→D8,take_add_one→E8,replicate→F1,mem_cons_self→F6,mem_append_right→F7,length_drop→J2,length_cons→J7,mem_map→J8,getD_eq_getElem?_getD→J9,getElem?_append_right→L4,all_eq_true→L7,append_nil→M4,take_length→O1,getElem?_append_left→O2,append_assoc→O3,zip_cons_cons→O5,replicate_succ→O7,length_eq_zero_iff→P3,getElem?_set_self→P6,drop_eq_getElem_cons→Q0,eq_nil_of_length_eq_zero→Q1,getElem_of_mem→Q2,mem_filter→Q4,mem_of_mem_drop→Q7,mem_of_mem_take→Q8,getElem_mem→Q9,pairwise_iff_getElem→R3,lookup_cons_self→R6,forIn_cons→R7,getElem?_eq_none→R8,length_filter_le→T1,getElem?_set_ne→U7,pairwise_append→U9,getElem?_of_mem→V0,mem_range→V3,flatten_cons→V5,length_nil→W0,nodup_cons→W1,length_set→W2,foldl_cons→W3,length_reverse→W4,map_congr_left→W6,filter_cons→W9,take_append_drop→X1,map_map→X3,mem_or_eq_of_mem_set→X7,getElem?_zip_eq_some→X8,range→Y1,pairwise_map→Y7,eq_of_mem_replicate→Y8,length→Z1,reverse_append→Z3,lookup_cons→Z5,drop_zero→Z6,filter_eq_nil_iff→Z8,length_replicate→Z9,nil_append→a8,find?_cons→a9,pairwise_reverse→b9,any_cons→c8,drop_sublist→c9,mem_iff_getElem→d8,drop_drop→i8,mem_reverse→j4,mem_filterMap→k7,set_eq_take_append_cons_drop→m4,drop_eq_nil_of_le→m7,lookup→n8,take_sublist→n9,reverse_cons→o6,not_mem_nil→t8,any_eq_true→t9,mem_flatMap→u8,countP_cons→u9,mem_append_left→w5,filterMap_cons→y7,of_mem_zip→y8,length_zip→A05,flatMap_append→A08,perm_ext_iff_of_nodup→A15,filter_append→A20,mem_of_find?_eq_some→A22,getElem?_take_of_lt→A27,getElem_take→A28,getElem_drop→A29,reverse_perm→A31,cons_append→A43,map_nil→A52,range_succ→A56,reverse_reverse→A60,nodup_nil→A64,forIn_nil→A66,take_zero→A69,map_id→A79,take_nil→A93,contains_cons→A95,foldl→B02,foldl_append→B05,ext_getElem?→B10,map_reverse→B29,drop_length→B30,find?_some→B38,filter_nil→B39,foldl_nil→B43,drop_take→B45,all_cons→B58,findIdx?→B60,take_add→B62
open List.Nodup renaming length_le_of_subset→r8
open List.Perm renaming append_left→t0,swap→B42,refl→B44
open List.Sublist renaming refl→B12
open Nat renaming le_refl→B4,lt_of_lt_of_le→D9,ne_of_lt→E7,le_trans→F4,le_of_lt→F5,zero_le→J5,min_eq_left→S0,lt_irrefl→V1,ne_of_gt→V4,le_succ→X5,lt_succ_of_lt→Y5,add_assoc→j9,lt_of_le_of_lt→k9,not_lt_zero→l9,pos_of_ne_zero→m5,mul_le_mul→q9,le_of_not_lt→t7,pow_le_pow_right→w6,pow_le_pow_left→A09,lt_trans→A18,sub_zero→A19,add_mul_mod_self_left→A23,lt_of_succ_lt→A24,lt_trichotomy→A34,sub_self→A54,add_sub_cancel→A92,mod_lt→B04,succ_mul→B15,zero_add→B16,lt_succ_self→B24,succ_ne_self→B25,mod_eq_of_lt→B28
open Ne renaming symm→J4
open Option renaming toList_some→E9,some→Y9,map_eq_some_iff→Z7,isSome_map→o8,map_some→A00,isSome_iff_exists→A26,getD_some→A40,getD_none→B19,none→B70
open Option.some renaming inj→D7
open Or renaming inl→F3,inr→A53
open PyProof renaming noPylong_small→A45
open PyProof.Rows renaming slot_tuple_getitem→M7,callWith_type1→V9,callWith_kw→A33
open PyProof.Rows.IntsAre renaming int_at→A02
open PySem renaming mem_of_lookup→N9,seqSlot_of→B27,call→B50,eqBool→B66
open PySem.Around renaming under_plainId→L9,under→A51,frames_deeper→A59,under_plain→A91
open PySem.Builtin.Builtins renaming bindParams→A06
open PySem.Builtin.Dict_items renaming ownsTuple→x9
open PySem.Builtin.Frozenset renaming updateFrom→x6,newClass→B40,sizeOf→B52,slot0→B61
open PySem.Builtin.List renaming listTooLong→Y4,listLengthHint→A03
open PySem.Builtin.ObjectAttr renaming storeInDict→R9,storeInOwnDict→l8,newKeyGuard→t5
open PySem.Builtin.Range renaming rangeSize→Z0,small→A76
open PySem.Builtin.Slice renaming slicePlaces→X4,sliceAdjust→h9,sliceApplied→A12
open PySem.Builtin.SmallTypes renaming ownedTupleIsFree→W5,nextOf→X6,newRecord→B31
open PySem.Builtin.Tuple renaming tupleExact→O6,tupleItemsOf→d5,tupleIsExact→A14,tupleHashOf→A21
open PySem.Calls renaming callWith_builtin→A47
open PySem.ClassData renaming mk→B65
open PySem.Code renaming quiet_builtin→l7,isFrame→B14
open PySem.Data renaming cell→A84,fields→B35
open PySem.EntryCells renaming newEntry→A77
open PySem.F renaming plainAttrs_list→M5,called_set→O8,plain_min_loop→P7,slot_dict_keyiterator_next→Q3,slot_list_append→T5,type_list_append→T6,slot_tuple_iterator_next→W8,slot_zip_next→b8,args_tuple_add_2→j7,entry_tuple_add→k8,slot_tuple_add→m6,entry_min_loop→m8,args_dict_keyiterator_next_1→t6,entry_dict_keyiterator_next→u7,args_tuple_iterator_next_1→x8,slot_int_rmul→y9,entry_tuple_iterator_next→A04,args_zip_next_1→A30,store_ValueError→A32,slot_list_extend→A35,type_list_extend→A36,plain_list_iadd→A38,entry_zip_next→A41,slot_tuple_mul→A44,slot_tuple_eq→A49,slot_list_lt→A62,called_tuple→A65,args_int_rmul_2→B03,entry_type_call→B06,plain_tuple_new→B07,slot_tuple_rmul→B09,slot_int_index→B20,entry_int_rmul→B21,typeCall_set_1→B22,entry_set_init→B23,slot_dict_iter→B26
open PySem.Heap renaming get?_push_of_some→A1,get?_push_size→B8,lt_size→B9,get?_update_other→D5,get?_update_self→L6,size_push→O4,get?_update_ne→A78
open PySem.Heap.IsSliceOf renaming new→A88
open PySem.Heap.SameBut renaming update→Z2
open PySem.Heap.UpToSlots renaming refl→B71
open PySem.NameKind renaming free→O0,cell→B59
open PySem.Obj renaming mapSeq→P2,data_mapFields→P5,mapFields→V2,isFreed_of_fields→X2,cls_mapFields→p7,mk→B48
open PySem.Paired renaming length→C5,snoc→Q5
open PySem.PassesOwn renaming never→L5
open PySem.PyData renaming depthAll→A07,leavesShortAll→A57,showableAll→A97,hasDictAll→B11,bulkAll→B47,int→B54,str→B55
open PySem.SeqAt.EqAt renaming int_none→A70,str_none→A71,none_int→A72,none_str→A73,int_str→A81,str_int→A82,int_int→A87,same→B33
open PySem.SeqAt.RcNeAt renaming lists_lengths→A98,lists→B53
open PySem.SetTable renaming below→F2,insertAt→J6,bits→l6,fits→A89,fill→A90,runEnd→B37,has→B67
open PySem.SetTable.below renaming go→o9
open PySem.SetTable.probe renaming go→V6
open PySem.Str renaming ofString→B1,empty→U8
open PySem.Value renaming ref→C7,none→M3,int→V8,bool→Y0,type→j6,isInt→A37,str→A80,isStrOf→B57
open PySem.W renaming kitOne→K0,findIn→L8,keepIn→M8,kia_one→P8,fnOf→R5,nsIn→c5,codeIn→f9,kla_fn→i9,methodObj→m9,isFn→A16,callWith_K→A17,specialIn→A25,mg_of→A39,cellsFrom_some→A46,instObj→A50,hideAll_none→A58,looks_findIn→A61,lookIn→A63,exmOne→A67,noTabs→A68,hideAll_get→A74,kdu_collect→A75,of_hideAll→A83,mroIn→A86,isNs_of_in→A94,hasDictIn→A99,kitx_list→B00,kitx_dict→B01,plainGet→B18,hideAll→B34,takesIn→B36,tabObj→B46,kHook→B56,tabIn→B63
open PySem.W.Looks renaming ld→A42
open PySem.W.OpenLaw renaming wellSaid→B49,row→B68
open PySem.W.OpenRow renaming toRowW→B64
open PySem.Walks renaming list→B51
open PySem.Within renaming cons→B72
open PySem.pickOrder renaming go→B17
open Sum renaming inr→P0,inl→d7
open Sum.inl renaming inj→B32
open Sum.inr renaming inj→B69
open True renaming intro→Y2
set_option Elab.async false
set_option linter.all false
set_option maxRecDepth 100000
set_option maxHeartbeats 0
namespace _F
open PySem
noncomputable def inCl (s:Stmt)(j:Nat):Stmt:=match s with
 |.ClassDef _ _ _ body _ _ _ _ _ _ _=>body.getD j (.Pass ⟨0,0,0,0⟩)
 |_=>.Pass ⟨0,0,0,0⟩
noncomputable def top (i:Nat):Stmt:=PySem.Challenge.pw_fewrooms_k52_plans_shown_there.main.body.getD i (.Pass ⟨0,0,0,0⟩)
abbrev qEM:Stmt:=top 4
abbrev qFQ:Stmt:=top 5
abbrev qGS:Stmt:=top 6
noncomputable abbrev qGT:Stmt:=top 8
abbrev qFP:Stmt:=top 10
noncomputable abbrev qGR:Stmt:=top 12
noncomputable abbrev qD5:Stmt:=top 14
abbrev qD4:Stmt:=top 15
abbrev qCE:Stmt:=top 16
abbrev qD3:Stmt:=top 17
abbrev qD2:Stmt:=top 18
abbrev qBY:Stmt:=top 19
abbrev qGQ:Stmt:=top 20
abbrev qBO:Stmt:=top 21
abbrev qCF:Stmt:=top 22
abbrev qDY:Stmt:=top 23
abbrev qEN:Stmt:=top 24
abbrev qD1:Stmt:=top 25
abbrev qD0:Stmt:=top 26
noncomputable abbrev qIW:Stmt:=top 28
noncomputable abbrev qMC:Stmt:=top 29
abbrev qJI:Stmt:=top 30
noncomputable abbrev qD6:Stmt:=top 31
noncomputable abbrev qEO:Stmt:=top 32
noncomputable abbrev qQK:Stmt:=top 33
noncomputable abbrev qIX:Stmt:=top 34
abbrev qIU:Stmt:=top 35
abbrev qIV:Stmt:=top 36
abbrev qQJ:Stmt:=top 37
abbrev qDZ:Stmt:=top 38
abbrev qFR:Stmt:=top 39
abbrev qQL:Stmt:=top 40
abbrev qYX:Stmt:=top 41
abbrev qGU:Stmt:=top 42
abbrev qCQ:Stmt:=top 43
abbrev qMD:Stmt:=top 44
noncomputable abbrev qKS:Stmt:=top 45
abbrev qBP:Stmt:=inCl (top 2) 0
noncomputable def dA (s:Stmt):C09:=match s with
 |.FunctionDef _ a _ _ _ _ _ _ _ _=>a
 |_=>{posonlyargs:=[],args:=[],vararg:=none,kwonlyargs:=[],kw_defaults:=[],kwarg:=none,defaults:=[]}
noncomputable def dB (s:Stmt):List Stmt:=match s with
 |.FunctionDef _ _ b _ _ _ _ _ _ _=>b
 |_=>[]
noncomputable def dS (s:Stmt):Scope:=match s with
 |.FunctionDef _ _ _ _ _ _ sc _ _ _=>sc
 |_=>{kind:=.function,names:=[],isGenerator:=false,isCoroutine:=false}
noncomputable abbrev so (s:String):Str:=PySem.Str.ofString s
noncomputable abbrev kh (P:Params)(s:Str):Int:=PySem.PyData.keyHash P s
noncomputable abbrev hde (P:Params)(s:String)(n:Nat)(v:Value):DictEntry:=⟨kh P (so s),.str (so s) n,v⟩
noncomputable abbrev hvs (s:String)(n:Nat):Value:=.str (so s) n
noncomputable abbrev hcut (n:Nat):Value:=hvs "/claim/cut.py" n
noncomputable abbrev hfd (x q:String)(s:Stmt)(a b c d:Value)(e:Option Addr)(f g:Value)(i:Addr):B88:=⟨so x,so q,dA s,.stmts (dB s),dS s,3,[],a,b,c,d,e,f,g,i⟩
noncomputable abbrev htp (d:Data) (s:Array (Option Value)):Obj:=⟨.type "tuple",none,d,s⟩
noncomputable abbrev hcd (d:Data) (s:Array (Option Value)):Obj:=⟨.type "code",none,d,s⟩
noncomputable abbrev hfn (d:Data) (s:Array (Option Value)):Obj:=⟨.type "function",none,d,s⟩
noncomputable abbrev ht0:Obj:=htp (.seq #[]) #[]
noncomputable def hvl:List String->Nat->List Value
 |[],_=>[]
 |x::r,n=>hvs x n::hvl r (n+1)
noncomputable abbrev hts (l:List String)(n:Nat):Obj:=htp (.seq (hvl l n).toArray) #[]
noncomputable abbrev hco (x:String)(t:Nat)(ln ac fl:Int)(b:Nat)(md e:Int)(n:Nat):Obj:=hcd (.fields #[hvs x t,hvs x (t+1),hcut (t+2),.int ln 0,.int ac 0,.int 0 0,.int 0 0,.int fl 0,.ref b,.bool .true,.int md 0,.ref (b+1),.none,.ref (b+2),.ref (b+3),.ref (b+4),.int e 0,.int ln 0,hcut n]) #[]
noncomputable abbrev hcp (x:String)(t:Nat)(ln ac:Int)(b:Nat)(md e:Int):Obj:=hcd (.fields #[hvs x t,hvs x (t+1),hcut (t+2),.int ln 0,.int ac 0,.int 0 0,.int 0 0,.int 3 0,.ref b,.bool .true,.int md 0,.ref (b+1),.none,.none,.none,.ref (b+2),.int e 0,.int ln 0,hcut (t+4)]) #[]
noncomputable abbrev hfo (x:String)(s:Stmt)(m:String)(t c:Nat):Obj:=hfn (.func (hfd x x s .none .none .none (hvs m t) .none (.ref c) .none 0)) #[]
noncomputable def hpK:Params->Ab1:=λP=>
 (nat_lit 2,B48 .none .none (.dict #[]) #[])::
 (nat_lit 3,B48 (.type "dict") .none (.dict #[hde P "__name__" 165 (hvs "law_fewrooms_k52_plans_shown_there" 412),hde P "__doc__" 166 .none,hde P "__package__" 167 .none,hde P "__loader__" 168 (.builtin "__main__.__loader__#opaque"),hde P "__spec__" 169 .none,hde P "__annotations__" 170 (.ref 6),hde P "__builtins__" 171 (.ref 4),hde P "__file__" 173 (hcut 172),hde P "__cached__" 174 .none,hde P "RoomError" 206 (.ref 24),hde P "Barred" 233 (.ref 44),hde P "is_number" 242 (.ref 53),hde P "is_below" 250 (.ref 60),hde P "is_pair" 257 (.ref 67),hde P "has_all" 265 (.ref 72),hde P "steps_of" 273 (.ref 77),hde P "plan_to" 284 (.ref 84),hde P "fault_of_do" 299 (.ref 91),hde P "fault_there" 310 (.ref 98),hde P "layout_behind" 320 (.ref 105),hde P "moved_there" 332 (.ref 112),hde P "moves_there" 338 (.ref 117),hde P "layouts_reached" 354 (.ref 124),hde P "rank_of" 360 (.ref 129),hde P "least_there" 366 (.ref 134),hde P "is_move_there" 375 (.ref 141),hde P "does_there" 381 (.ref 146),hde P "is_layout" 394 (.ref 153),hde P "never_there" 400 (.ref 158),hde P "shows_there" 411 (.ref 165),hde P "_law_begin" 421 (.ref 172),hde P "_law_take" 434 (.ref 179),hde P "_law_same" 440 (.ref 184),hde P "_law_some_needs" 451 (.ref 191),hde P "_law_tree_net" 463 (.ref 198),hde P "_law_net" 469 (.ref 203),hde P "_law_asked" 479 (.ref 210),hde P "_law_there" 485 (.ref 215),hde P "_law_fault" 491 (.ref 220),hde P "_law_put" 501 (.ref 227),hde P "_law_all_moves" 507 (.ref 232),hde P "_law_has_all" 513 (.ref 237),hde P "_law_led" 519 (.ref 242),hde P "_law_fits" 525 (.ref 247),hde P "_law_judged" 531 (.ref 252),hde P "_law_shown_right" 543 (.ref 259),hde P "_law_bent" 549 (.ref 264),hde P "law" 568 (.ref 271)] 48) #[])::
 (nat_lit 15,htp (.seq #[.type "ValueError"]) #[])::
 (nat_lit 22,ht0)::
 (nat_lit 23,B48 (.type "dict") .none (.dict #[hde P "__module__" 196 (hvs "fewrooms.errors" 187),hde P "__firstlineno__" 200 (.int 2 199),hde P "__static_attributes__" 201 (.ref 22),hde P "__weakref__" 203 (.ref 25),hde P "__doc__" 204 .none] 3) #[])::
 (nat_lit 24,B48 (.type "type") .none (.cls (B65 (so "RoomError") [.type "ValueError"] [.ref 24,.type "ValueError",.type "Exception",.type "BaseException",.type "object"] 23 (so "RoomError") .true [] [.ref 44] .false .none .false)) #[Y9 (.ref 15),.none,Y9 (hvs "RoomError" 189),Y9 (hvs "RoomError" 197),Y9 (.builtin "ValueError.__new__"),Y9 (.bool .true)])::
 (nat_lit 25,B48 (.type "getset_descriptor") .none (.fields #[hvs "__weakref__" 202,.ref 24,.builtin "ExceptionGroup.__weakref__",.none]) #[])::
 (nat_lit 28,htp (.seq #[.ref 24]) #[])::
 (nat_lit 35,ht0)::
 (nat_lit 37,hts ["self","move","word"] 222)::
 (nat_lit 38,ht0)::
 (nat_lit 40,hcd (.fields #[hvs "__init__" 219,hvs "Barred.__init__" 220,hcut 221,.int 6 0,.int 3 0,.int 0 0,.int 0 0,.int 3 0,.ref 35,.bool .true,.int 181 0,.ref 36,.none,.ref 37,.ref 38,.ref 39,.int 225 0,.int 6 0,hcut 226]) #[])::
 (nat_lit 41,hfn (.func (hfd "__init__" "Barred.__init__" qBP .none .none .none (hvs "fewrooms.errors" 187) .none (.ref 40) .none 0)) #[])::
 (nat_lit 42,hts ["move","word"] 228)::
 (nat_lit 43,B48 (.type "dict") .none (.dict #[hde P "__module__" 214 (hvs "fewrooms.errors" 187),hde P "__firstlineno__" 218 (.int 4 217),hde P "__init__" 227 (.ref 41),hde P "__static_attributes__" 230 (.ref 42),hde P "__doc__" 231 .none] 2) #[])::
 (nat_lit 44,B48 (.type "type") .none (.cls (B65 (so "Barred") [.ref 24] [.ref 44,.ref 24,.type "ValueError",.type "Exception",.type "BaseException",.type "object"] 43 (so "Barred") .true [] [] .false .none .false)) #[Y9 (.ref 28),.none,Y9 (hvs "Barred" 207),Y9 (hvs "Barred" 215),Y9 (.builtin "ValueError.__new__"),Y9 (.bool .true)])::
 (nat_lit 47,ht0)::
 (nat_lit 49,hts ["thing"] 239)::
 (nat_lit 50,ht0)::
 (nat_lit 52,hco "is_number" 236 10 1 3 47 181 240 241)::
 (nat_lit 53,hfo "is_number" qEM "fewrooms.kinds" 234 52)::
 (nat_lit 54,ht0)::
 (nat_lit 56,hts ["thing","end"] 246)::
 (nat_lit 57,ht0)::
 (nat_lit 59,hco "is_below" 243 12 2 3 54 181 248 249)::
 (nat_lit 60,hfo "is_below" qFQ "fewrooms.kinds" 234 59)::
 (nat_lit 61,ht0)::
 (nat_lit 63,hts ["thing"] 254)::
 (nat_lit 64,ht0)::
 (nat_lit 66,hco "is_pair" 251 14 1 3 61 181 255 256)::
 (nat_lit 67,hfo "is_pair" qGS "fewrooms.kinds" 234 66)::
 (nat_lit 68,ht0)::
 (nat_lit 71,hcp "has_all" 260 17 2 68 181 263)::
 (nat_lit 72,hfo "has_all" qGT "fewrooms.moves" 258 71)::
 (nat_lit 73,ht0)::
 (nat_lit 76,hcp "steps_of" 268 20 1 73 181 271)::
 (nat_lit 77,hfo "steps_of" qFP "fewrooms.plans" 266 76)::
 (nat_lit 78,ht0)::
 (nat_lit 80,hts ["reached","stand","plan"] 279)::
 (nat_lit 81,ht0)::
 (nat_lit 83,hco "plan_to" 276 23 2 3 78 181 282 283)::
 (nat_lit 84,hfo "plan_to" qGR "fewrooms.stairs" 274 83)::
 (nat_lit 85,ht0)::
 (nat_lit 87,hts ["net","wides","sizes","layout","move","work","room"] 290)::
 (nat_lit 88,ht0)::
 (nat_lit 90,hco "fault_of_do" 287 31 5 3 85 181 297 298)::
 (nat_lit 91,hfo "fault_of_do" qD5 "fewrooms.unlike" 285 90)::
 (nat_lit 92,ht0)::
 (nat_lit 94,hts ["net","wides","sizes","layout","move"] 303)::
 (nat_lit 95,ht0)::
 (nat_lit 97,hco "fault_there" 300 43 5 3 92 181 308 309)::
 (nat_lit 98,hfo "fault_there" qD4 "fewrooms.unlike" 285 97)::
 (nat_lit 99,ht0)::
 (nat_lit 101,hts ["layout","move","room","result"] 314)::
 (nat_lit 102,ht0)::
 (nat_lit 104,hco "layout_behind" 311 49 2 3 99 181 318 319)::
 (nat_lit 105,hfo "layout_behind" qCE "fewrooms.unlike" 285 104)::
 (nat_lit 106,ht0)::
 (nat_lit 108,hts ["net","wides","sizes","layout","move","word"] 324)::
 (nat_lit 109,ht0)::
 (nat_lit 111,hco "moved_there" 321 53 5 3 106 181 330 331)::
 (nat_lit 112,hfo "moved_there" qD3 "fewrooms.unlike" 285 111)::
 (nat_lit 113,ht0)::
 (nat_lit 116,hcp "moves_there" 333 58 4 113 181 336)::
 (nat_lit 117,hfo "moves_there" qD2 "fewrooms.unlike" 285 116)::
 (nat_lit 118,ht0)::
 (nat_lit 120,hts ["net","wides","sizes","start","reached","due","later","layout","move","further"] 342)::
 (nat_lit 121,ht0)::
 (nat_lit 123,hco "layouts_reached" 339 63 3 3 118 181 352 353)::
 (nat_lit 124,hfo "layouts_reached" qBY "fewrooms.unlike" 285 123)::
 (nat_lit 125,ht0)::
 (nat_lit 128,hcp "rank_of" 355 77 1 125 181 358)::
 (nat_lit 129,hfo "rank_of" qGQ "fewrooms.unlike" 285 128)::
 (nat_lit 130,ht0)::
 (nat_lit 133,hcp "least_there" 361 79 4 130 181 364)::
 (nat_lit 134,hfo "least_there" qBO "fewrooms.unlike" 285 133)::
 (nat_lit 135,ht0)::
 (nat_lit 137,hts ["net","sizes","thing"] 370)::
 (nat_lit 138,ht0)::
 (nat_lit 140,hco "is_move_there" 367 86 3 3 135 181 373 374)::
 (nat_lit 141,hfo "is_move_there" qCF "fewrooms.unlike" 285 140)::
 (nat_lit 142,ht0)::
 (nat_lit 145,hcp "does_there" 376 92 5 142 181 379)::
 (nat_lit 146,hfo "does_there" qDY "fewrooms.unlike" 285 145)::
 (nat_lit 147,ht0)::
 (nat_lit 149,hts ["net","wides","sizes","thing","there","size","result"] 385)::
 (nat_lit 150,ht0)::
 (nat_lit 152,hco "is_layout" 382 102 4 3 147 181 392 393)::
 (nat_lit 153,hfo "is_layout" qEN "fewrooms.unlike" 285 152)::
 (nat_lit 154,ht0)::
 (nat_lit 157,hcp "never_there" 395 113 5 154 181 398)::
 (nat_lit 158,hfo "never_there" qD1 "fewrooms.unlike" 285 157)::
 (nat_lit 159,ht0)::
 (nat_lit 161,hts ["net","wides","sizes","asked","thing"] 404)::
 (nat_lit 162,ht0)::
 (nat_lit 164,hco "shows_there" 401 124 5 3 159 181 409 410)::
 (nat_lit 165,hfo "shows_there" qD0 "fewrooms.unlike" 285 164)::
 (nat_lit 166,ht0)::
 (nat_lit 168,hts ["_law_script","_law_cells"] 417)::
 (nat_lit 169,ht0)::
 (nat_lit 171,hco "_law_begin" 414 133 1 3 166 181 419 420)::
 (nat_lit 172,hfo "_law_begin" qIW "law_fewrooms_k52_plans_shown_there" 412 171)::
 (nat_lit 173,ht0)::
 (nat_lit 175,hts ["_law_state","_law_many","_law_turn","_law_place","_law_cell","_law_digit","_law_mixed"] 425)::
 (nat_lit 176,ht0)::
 (nat_lit 178,hco "_law_take" 422 138 2 3 173 181 432 433)::
 (nat_lit 179,hfo "_law_take" qMC "law_fewrooms_k52_plans_shown_there" 412 178)::
 (nat_lit 180,ht0)::
 (nat_lit 183,hcp "_law_same" 435 149 2 180 181 438)::
 (nat_lit 184,hfo "_law_same" qJI "law_fewrooms_k52_plans_shown_there" 412 183)::
 (nat_lit 185,ht0)::
 (nat_lit 187,hts ["_law_state","_law_k","_law_found","_law_turn","_law_far"] 444)::
 (nat_lit 188,ht0)::
 (nat_lit 190,hco "_law_some_needs" 441 161 2 3 185 181 449 450)::
 (nat_lit 191,hfo "_law_some_needs" qD6 "law_fewrooms_k52_plans_shown_there" 412 190)::
 (nat_lit 192,ht0)::
 (nat_lit 194,hts ["_law_state","_law_many","_law_open_ones","_law_found","_law_k","_law_so_many"] 455)::
 (nat_lit 195,ht0)::
 (nat_lit 197,hco "_law_tree_net" 452 168 2 3 192 181 461 462)::
 (nat_lit 198,hfo "_law_tree_net" qEO "law_fewrooms_k52_plans_shown_there" 412 197)::
 (nat_lit 199,ht0)::
 (nat_lit 202,hcp "_law_net" 464 176 2 199 181 467)::
 (nat_lit 203,hfo "_law_net" qQK "law_fewrooms_k52_plans_shown_there" 412 202)::
 (nat_lit 204,ht0)::
 (nat_lit 206,hts ["_law_state","_law_net_here","_law_found","_law_turn"] 473)::
 (nat_lit 207,ht0)::
 (nat_lit 209,hco "_law_asked" 470 191 2 3 204 181 477 478)::
 (nat_lit 210,hfo "_law_asked" qIX "law_fewrooms_k52_plans_shown_there" 412 209)::
 (nat_lit 211,ht0)::
 (nat_lit 214,hcp "_law_there" 480 196 1 211 181 483)::
 (nat_lit 215,hfo "_law_there" qIU "law_fewrooms_k52_plans_shown_there" 412 214)::
 (nat_lit 216,ht0)::
 (nat_lit 219,hcp "_law_fault" 486 208 5 216 181 489)::
 (nat_lit 220,hfo "_law_fault" qIV "law_fewrooms_k52_plans_shown_there" 412 219)::
 (nat_lit 221,ht0)::
 (nat_lit 223,hts ["_law_layout","_law_move","_law_room","_law_work"] 495)::
 (nat_lit 224,ht0)::
 (nat_lit 226,hco "_law_put" 492 219 2 3 221 181 499 500)::
 (nat_lit 227,hfo "_law_put" qQJ "law_fewrooms_k52_plans_shown_there" 412 226)::
 (nat_lit 228,ht0)::
 (nat_lit 231,hcp "_law_all_moves" 502 223 2 228 181 505)::
 (nat_lit 232,hfo "_law_all_moves" qDZ "law_fewrooms_k52_plans_shown_there" 412 231)::
 (nat_lit 233,ht0)::
 (nat_lit 236,hcp "_law_has_all" 508 228 2 233 181 511)::
 (nat_lit 237,hfo "_law_has_all" qFR "law_fewrooms_k52_plans_shown_there" 412 236)::
 (nat_lit 238,ht0)::
 (nat_lit 241,hcp "_law_led" 514 230 4 238 181 517)::
 (nat_lit 242,hfo "_law_led" qQL "law_fewrooms_k52_plans_shown_there" 412 241)::
 (nat_lit 243,ht0)::
 (nat_lit 246,hcp "_law_fits" 520 240 3 243 181 523)::
 (nat_lit 247,hfo "_law_fits" qYX "law_fewrooms_k52_plans_shown_there" 412 246)::
 (nat_lit 248,ht0)::
 (nat_lit 251,hcp "_law_judged" 526 245 5 248 181 529)::
 (nat_lit 252,hfo "_law_judged" qGU "law_fewrooms_k52_plans_shown_there" 412 251)::
 (nat_lit 253,ht0)::
 (nat_lit 255,hts ["_law_net_here","_law_wides","_law_sizes","_law_asked_here","_law_thing","_law_found"] 535)::
 (nat_lit 256,ht0)::
 (nat_lit 258,hco "_law_shown_right" 532 261 5 3 253 181 541 542)::
 (nat_lit 259,hfo "_law_shown_right" qCQ "law_fewrooms_k52_plans_shown_there" 412 258)::
 (nat_lit 260,ht0)::
 (nat_lit 263,hcp "_law_bent" 544 264 5 260 181 547)::
 (nat_lit 264,hfo "_law_bent" qMD "law_fewrooms_k52_plans_shown_there" 412 263)::
 (nat_lit 265,ht0)::
 (nat_lit 267,hts ["_law_script","_law_state","_law_turn","_law_net_here","_law_wides","_law_sizes","_law_asked_here","_law_told","_law_others","_law_thing","_law_bent_here","_law_held","_law_more"] 553)::
 (nat_lit 268,ht0)::
 (nat_lit 270,hco "law" 550 298 1 3 265 181 566 567)::
 (nat_lit 271,hfo "law" qKS "law_fewrooms_k52_plans_shown_there" 412 270)::
 []
noncomputable def hpA:List Addr:=[2,3,15,22,23,24,25,28,35,37,38,40,41,42,43,44,47,49,50,52,53,54,56,57,59,60,61,63,64,66,67,68,71,72,73,76,77,78,80,81,83,84,85,87,88,90,91,92,94,95,97,98,99,101,102,104,105,106,108,109,111,112,113,116,117,118,120,121,123,124,125,128,129,130,133,134,135,137,138,140,141,142,145,146,147,149,150,152,153,154,157,158,159,161,162,164,165,166,168,169,171,172,173,175,176,178,179,180,183,184,185,187,188,190,191,192,194,195,197,198,199,202,203,204,206,207,209,210,211,214,215,216,219,220,221,223,224,226,227,228,231,232,233,236,237,238,241,242,243,246,247,248,251,252,253,255,256,258,259,260,263,264,265,267,268,270,271]
noncomputable def hpQ:B76:=PySem.W.view PySem.Challenge.pw_fewrooms_k52_plans_shown_there [1,2,4,5,6,8,10,12,14,15,16,17,18,19,20,21,22,23,24,25,26,28,29,30,31,32,33,34,35,36,37,38,39,40,41,42,43,44,45]
def hpN:Nat:=3324
theorem hpE (P:Params):hpA=(hpK P).map (·.1):=by kernel_rfl
noncomputable def hpX (s:Shared):Bool:=PySem.W.xlAt hpQ [] s&&PySem.W.recOk (PySem.W.RowW.records (B64 (B68 PySem.Challenge.rw_fewrooms_k52_plans_shown_there))) s
theorem hpLeft:PySem.W.LeftO PySem.Challenge.pw_fewrooms_k52_plans_shown_there hpQ [] hpX (B56 hpK hpA hpE).obs (B56 hpK hpA hpE).val hpN:=λw=>by kernel_rfl
theorem hpSaid:B49 PySem.Challenge.rw_fewrooms_k52_plans_shown_there=true:=by kernel_rfl
end _F
theorem xR {f:A->P} {K:A->Prop} (e:y=f a)(k:K a):∃a,y=f a/\K a:=⟨a,e,k⟩
theorem xB {f:A->B->P} {K:A->B->Prop} (a b)(z:y=f a b)(k:K a b):∃a b,y=f a b/\K a b:=⟨a,b,z,k⟩
theorem xC {f:A->B->C->P} {K:A->B->C->Prop} (a b c)(z:y=f a b c)(k:K a b c):∃a b c,y=f a b c/\K a b c:=⟨a,b,c,z,k⟩
theorem xD {f:A->B->C->D->P} {K:A->B->C->D->Prop} (a b c d)(z:y=f a b c d)(k:K a b c d):∃a b c d,y=f a b c d/\K a b c d:=⟨a,b,c,d,z,k⟩
theorem xE {f:A->B->C->D->E->P} {K:A->B->C->D->E->Prop} (a b c d p)(z:y=f a b c d p)(k:K a b c d p):∃a b c d p,y=f a b c d p/\K a b c d p:=⟨a,b,c,d,p,z,k⟩
theorem xF {f:A->B->C->D->E->F->P} {K:A->B->C->D->E->F->Prop} (a b c d p q)(z:y=f a b c d p q)(k:K a b c d p q):∃a b c d p q,y=f a b c d p q/\K a b c d p q:=⟨a,b,c,d,p,q,z,k⟩
theorem xH {f:A->B->C->D->E->F->G->H->P} {K:A->B->C->D->E->F->G->H->Prop} (a b c d p q g h)(z:y=f a b c d p q g h)(k:K a b c d p q g h):∃a b c d p q g h,y=f a b c d p q g h/\K a b c d p q g h:=⟨a,b,c,d,p,q,g,h,z,k⟩
theorem xI {f:A->B->C->D->E->F->G->H->I->P} {K:A->B->C->D->E->F->G->H->I->Prop} (a b c d p q g h i)(z:y=f a b c d p q g h i)(k:K a b c d p q g h i):∃a b c d p q g h i,y=f a b c d p q g h i/\K a b c d p q g h i:=⟨a,b,c,d,p,q,g,h,i,z,k⟩
theorem xJ {f:A->B->C->D->E->F->G->H->I->J->P} {K:A->B->C->D->E->F->G->H->I->J->Prop} (a b c d p q g h i j)(z:y=f a b c d p q g h i j)(k:K a b c d p q g h i j):∃a b c d p q g h i j,y=f a b c d p q g h i j/\K a b c d p q g h i j:=⟨a,b,c,d,p,q,g,h,i,j,z,k⟩
theorem xK {f:A->B->C->D->E->F->G->H->I->J->L->P} {K:A->B->C->D->E->F->G->H->I->J->L->Prop} (a b c d p q g h i j l)(z:y=f a b c d p q g h i j l)(k:K a b c d p q g h i j l):∃a b c d p q g h i j l,y=f a b c d p q g h i j l/\K a b c d p q g h i j l:=⟨a,b,c,d,p,q,g,h,i,j,l,z,k⟩
theorem xL {f:A->B->C->D->E->F->G->H->I->J->L->M->P} {K:A->B->C->D->E->F->G->H->I->J->L->M->Prop} (a b c d p q g h i j l m)(z:y=f a b c d p q g h i j l m)(k:K a b c d p q g h i j l m):∃a b c d p q g h i j l m,y=f a b c d p q g h i j l m/\K a b c d p q g h i j l m:=⟨a,b,c,d,p,q,g,h,i,j,l,m,z,k⟩
theorem xM {f:A->B->C->D->E->F->G->H->I->J->L->M->N->P} {K:A->B->C->D->E->F->G->H->I->J->L->M->N->Prop} (a b c d p q g h i j l m n)(z:y=f a b c d p q g h i j l m n)(k:K a b c d p q g h i j l m n):∃a b c d p q g h i j l m n,y=f a b c d p q g h i j l m n/\K a b c d p q g h i j l m n:=⟨a,b,c,d,p,q,g,h,i,j,l,m,n,z,k⟩
theorem xN {f:A->B->C->D->E->F->G->H->I->J->L->M->N->O->P} {K:A->B->C->D->E->F->G->H->I->J->L->M->N->O->Prop} (a b c d p q g h i j l m n o)(z:y=f a b c d p q g h i j l m n o)(k:K a b c d p q g h i j l m n o):∃a b c d p q g h i j l m n o,y=f a b c d p q g h i j l m n o/\K a b c d p q g h i j l m n o:=⟨a,b,c,d,p,q,g,h,i,j,l,m,n,o,z,k⟩
namespace _L
open PySem PySem.Spec PyProof.Rows
abbrev Key:=Sum Int Str
noncomputable def qOI:Key->Value->Bool
 |.inl k,v=>A37 k v
 |.inr x,v=>B57 x v
noncomputable def keyH (w:World):Key->Int
 |.inl k=>C20 k
 |.inr x=>hashStr w x
theorem qAX:∀{k:Key} {v:Value},qOI k v=true->(∃i t,k=d7 i/\v=V8 i t)\/(∃x t,k=P0 x/\v=A80 x t)
 |.inl i,v,h=>by
  obtain⟨t,e⟩:=Value.isInt_shape (k:=i) (v:=v) h;exact .inl ⟨i,t,rfl,e⟩
 |.inr x,v,h=>by
  obtain⟨t,e⟩:=Value.isStrOf_shape (x:=x) (v:=v) h;exact .inr ⟨x,t,rfl,e⟩
theorem qOH (i:Int)(t:Tok):qOI (.inl i) (.int i t)=true:=by simp[qOI,A37]
theorem qOG (x:Str)(t:Tok):qOI (.inr x) (.str x t)=true:=by simp[qOI,B57]
theorem qc0 (a b:Int):decide ((d7 a:Key)=d7 b)=(a==b):=by
 by_cases e:a=b
 ·subst e;simp
 ·have h:¬(d7 a:Key)=d7 b:=λq=>e (B32 q);rw[decide_eq_false h];exact(beq_eq_false_iff_ne.mpr e).symm
theorem qbX (a b:Str):decide ((P0 a:Key)=P0 b)=decide (a=b):=by
 by_cases e:a=b
 ·subst e;simp
 ·have h:¬(P0 a:Key)=P0 b:=λq=>e (B69 q);rw[decide_eq_false h,decide_eq_false e]
theorem qbZ (a:Int)(b:Str):decide ((d7 a:Key)=P0 b)=false:=decide_eq_false (λq=>nomatch q)
theorem qbY (a:Str)(b:Int):decide ((P0 a:Key)=d7 b)=false:=decide_eq_false (λq=>nomatch q)
noncomputable def qCW (prog:B76)(w:World):PySem.KeyKind prog w Key where
 is:=qOI
 hash:=keyH w
 inj:=λv a b g d=>by
  rcases qAX g with⟨i,t,rfl,rfl⟩|⟨x,t,rfl,rfl⟩
  ·rcases qAX d with⟨j,u,rfl,e⟩|⟨y,u,rfl,e⟩
   ·injection e with e1 _;rw[e1]
   ·exact nomatch e
  ·rcases qAX d with⟨j,u,rfl,e⟩|⟨y,u,rfl,e⟩
   ·exact nomatch e
   ·injection e with e1 _;rw[e1]
 byValue:=λk v h=>by
  rcases qAX h with⟨i,t,rfl,rfl⟩|⟨x,t,rfl,rfl⟩<;>rfl
 pyHash:=λc h=>by
  rcases qAX c with⟨i,t,rfl,rfl⟩|⟨x,t,rfl,rfl⟩
  ·exact wpAny_pyHash_int h
  ·exact wpAny_pyHash_str h
 eqBool:=λf c h=>by
  rcases qAX f with⟨i,t,rfl,rfl⟩|⟨x,t,rfl,rfl⟩
  ·rcases qAX c with⟨j,u,rfl,rfl⟩|⟨y,u,rfl,rfl⟩
   ·rw[qc0] at h;exact wpAny_eqBool_int h
   ·rw[qbZ] at h;exact A81 i t y u _ _ _ _ h
  ·rcases qAX c with⟨j,u,rfl,rfl⟩|⟨y,u,rfl,rfl⟩
   ·rw[qbY] at h;exact A82 x t j u _ _ _ _ h
   ·rw[qbX] at h;exact wpAny_eqBool_str h
 «strs»:=λk x t v h=>by
  rcases qAX h with⟨i,u,rfl,e⟩|⟨y,u,rfl,e⟩
  ·exact nomatch e
  ·injection e with e1 _
   subst e1;cases v<;>rfl
theorem qPT (prog:B76)(w:World)(i:Int)(t:Tok):(qCW prog w).is (.inl i) (.int i t)=true:=qOH i t
theorem qPS (prog:B76)(w:World)(x:Str)(t:Tok):(qCW prog w).is (.inr x) (.str x t)=true:=qOG x t
abbrev KI:=Option Key
def kiIs:KI->Value->Bool
 |some k,v=>qOI k v
 |none,.none=>true
 |none,_=>false
def kiH (w:World):KI->Int
 |some k=>keyH w k
 |none=>0xFCA86420
theorem qDH:∀{k:KI} {v:Value},kiIs k v=true->(∃i,k=some i/\qOI i v=true)\/(k=none/\v=.none)
 |some i,v,h=>.inl ⟨i,rfl,h⟩
 |none,v,h=>by
  cases v with
  |none=>exact .inr ⟨rfl,rfl⟩
  |_=>exact nomatch h
theorem qbW {a b:KI} {v:Value} (d:kiIs a v=true)(c:kiIs b v=true):a=b:=by
 rcases qDH d with⟨i,rfl,x⟩|⟨rfl,rfl⟩<;>rcases qDH c with⟨j,rfl,y⟩|⟨rfl,e⟩
 ·rcases qAX x with⟨k,t,rfl,rfl⟩|⟨k,t,rfl,rfl⟩<;>rcases qAX y with⟨m,u,rfl,e⟩|⟨m,u,rfl,e⟩<;>first|(injection e with e _;rw[e])|exact nomatch e
 ·subst e;rcases qAX x with⟨_,_,_,z⟩|⟨_,_,_,z⟩<;>exact nomatch z
 ·rcases qAX y with⟨_,_,_,z⟩|⟨_,_,_,z⟩<;>exact nomatch z
 ·rfl
section
variable{prog:B76}{w:World}{A:Around}{E:Aa1}{s:Shared}
theorem qZL {k:KI} {v:Value} {Q:Int->Shared->Prop} (a:A.units<cLine)(h:kiIs k v=true)(q:Q (kiH w k) {s with toks:=s.toks+1}):wpAny (model prog w) A (pyHash v) Q E s:=by
 rcases qDH h with⟨i,rfl,x⟩|⟨rfl,rfl⟩
 ·exact(qCW prog w).pyHash x q
 ·exact W.pyHash_slot (T:="NoneType") rfl F.slot_NoneType_hash F.entry_NoneType_hash (F.args_NoneType_hash_1 _) (beq_builtin_none _) (.inr a) (B73 (B74 (B73 (wpAny_mkInt (B74 ⟨_,xR rfl q⟩)))))
theorem qdJ {a b:KI} {u v:Value} {Q:Bool->Shared->Prop} (g:kiIs a u=true)(f:kiIs b v=true)(q:Q (decide (a=b)) s):wpAny (model prog w) A (B66 u v) Q E s:=by
 have d:∀{c:Bool},c=decide (a=b)->SeqAt.EqAt A s u v c->wpAny (model prog w) A (B66 u v) Q E s:=λe z=>z _ _ _ _ (e▸q);rcases qDH g with⟨i,rfl,x⟩|⟨rfl,rfl⟩<;>rcases qDH f with⟨j,rfl,y⟩|⟨rfl,rfl⟩
 ·refine(qCW prog w).eqBool x y ?_;have e:decide (i=j)=decide ((some i:KI)=some j):=decide_eq_decide.mpr ⟨congrArg some,λz=>D7 z⟩;rw[e];exact q
 ·rcases qAX x with⟨k,t,rfl,rfl⟩|⟨k,t,rfl,rfl⟩
  ·exact d rfl (A70 k t)
  ·exact d rfl (A71 k t)
 ·rcases qAX y with⟨k,t,rfl,rfl⟩|⟨k,t,rfl,rfl⟩
  ·exact d rfl (A72 k t)
  ·exact d rfl (A73 k t)
 ·exact d rfl (B33 _)
def IsNK (h:Heap) (ks:List KI) (a:Addr):Prop:=∃o items n,h.get? a=some o/\o.cls=.type "tuple"/\o.data=.seq items n/\Paired (λk v=>kiIs k v=true) ks items.toList
theorem qUM:∀{x y:List KI} {vs:List Value},Paired (λk v=>kiIs k v=true) x vs->Paired (λk v=>kiIs k v=true) y vs->x=y
 |[],_,_,.nil,h=>by cases h;rfl
 |_::_,_,_,.cons a r,h=>by
  cases h with
  |cons b t=>rw[qbW a b,qUM r t]
theorem qUL:∀{x:List KI} {vs:List Value},Paired (λk v=>kiIs k v=true) x vs->∀v∈vs,carriedByValue v=true
 |_,_,.nil,v,hv=>by simp at hv
 |_,_,.cons a r,v,hv=>by
  rcases C0.mp hv with e|hv
  ·subst e;rcases qDH a with⟨i,_,x⟩|⟨_,e⟩
   ·rcases qAX x with⟨_,_,_,rfl⟩|⟨_,_,_,rfl⟩<;>rfl
   ·rw[e];rfl
  ·exact qUL r v hv
theorem IsNK.typeIs {ks:List KI} {a:Addr} (x:IsNK s.heap ks a):s.TypeIs (.ref a) "tuple":=let⟨o,_,_,ho,hc,_⟩:=x;⟨o,ho,hc⟩
theorem IsNK.inj {h:Heap} {a:Addr} {x y:List KI} (j:IsNK h x a)(m:IsNK h y a):x=y:=by
 obtain⟨o,f,n,l,_,g,i⟩:=j;obtain⟨k,c,p,e,_,b,d⟩:=m;obtain rfl:o=k:=D7 (l.symm.trans e);rw[g] at b
 injection b with h1 _
 subst h1;exact qUM i d
def qU7 (w:World)(ks:List KI):Int:=reduceHash (A21 (ks.map (kiH w)))
theorem qZC {ks:List KI} {a:Addr} {Q:Int->Shared->Prop} (f:A.units+1<cLine)(e:IsNK s.heap ks a)(h:Q (qU7 w ks) {s with toks:=s.toks+(ks.length+1)}):wpAny (model prog w) A (pyHash (.ref a)) Q E s:=by
 have g:=e.typeIs;obtain⟨o,d,n,l,_,i,j⟩:=e;refine W.pyHash_slot (T:="tuple") g F.slot_tuple_hash F.entry_tuple_hash (F.args_tuple_hash_1 _) (beq_builtin_none _) (.inr (A24 f)) ?_;show wpAny _ _ (d5 (.ref a) >>= _) _ _ s;refine B73 (wpAny_tupleItemsOf l i ?_);refine B73 ?_;rw[<- j8];refine wpAny_forIn_list _
  (λc (b:Array Int) s'=>∃done left,ks=done++left/\Paired (λk v=>kiIs k v=true) left c/\b.toList=done.map (kiH w)/\s'={s with toks:=s.toks+done.length})
  _ ?_ ?_ _ _ ⟨[],ks,rfl,j,rfl,rfl⟩
 ·rintro x c b s' ⟨done,left,rfl,hl,hb,rfl⟩;cases hl with
  |@cons k _ ks' _ h1 hl'=>
   refine B73 (qZL f h1 ?_)
   first
    |exact B74 ⟨done++[k],ks',by simp,hl',by simp[hb],by simp[j9]⟩
    |exact B73 (B74 (B74 ⟨done++[k],ks',by simp,hl',by simp[hb],by simp[j9]⟩))
 ·rintro b s' ⟨done,left,rfl,hl,hb,rfl⟩;cases hl;rw[M4] at h;show wpAny _ _ (retInt (A21 b.toList)) _ _ _;rw[hb];exact B73 (wpAny_mkInt (B74 ⟨_,xR rfl (by simpa[qU7,j9] using h)⟩))
theorem qZB {x y:List KI} {a b:Addr} {P:Fin->Shared->Prop} (hx:IsNK s.heap x a)(hy:IsNK s.heap y b)(h:P (.done (.ret (.bool (decide (x=y))))) s):
  wpAny (model prog w) A (Builtin.«tuple.__eq__» ⟨[.ref a,.ref b],[]⟩) P E s:=by
 have a3:=hy.typeIs;obtain⟨oa,n,na,a0,_,a2,a1⟩:=hx;obtain⟨ob,o,nb,p,_,t,q⟩:=hy;show wpAny _ _ (isInstance (.ref b) (.type "tuple") >>= _) _ _ s;refine B73 (C12 a3 isSubtype_tuple_tuple ?_);simp only[c6,G0,if_false];refine B73 (wpAny_tupleItemsOf a0 a2 ?_);refine B73 (wpAny_tupleItemsOf p t ?_);refine B73 ?_;refine wpAny_forIn_list _
  (λf r m=>r.1=none/\m=s/\∃x' y' xs' ys',f=List.zip xs' ys'/\Paired (λk v=>kiIs k v=true) x' xs'/\Paired (λk v=>kiIs k v=true) y' ys'/\decide (x'=y')=decide (x=y)/\(xs'.length==ys'.length)=(n.size==o.size))
  _ ?_ ?_ _ _ ⟨rfl,rfl,x,y,n.toList,o.toList,rfl,a1,q,rfl,by simp⟩
 ·rintro⟨u,v⟩ f r m ⟨z,rfl,x',y',xs',ys',i,g,e,c,d⟩;cases g with
  |nil=>simp at i
  |@cons k1 u' x'' xs'' h1 hx''=>
   cases e with
   |nil=>simp at i
   |@cons k2 v' y'' ys'' h2 hy''=>
    simp only[O5,List.cons.injEq,Prod.mk.injEq] at i;obtain⟨⟨rfl,rfl⟩,rfl⟩:=i;refine B73 (qdJ (a:=k1) (b:=k2) h1 h2 ?_);by_cases hk:k1=k2
    ·subst hk;rw[decide_eq_true rfl];simp only[c6,G0,if_false];refine B74 ⟨rfl,rfl,x'',y'',xs'',ys'',rfl,hx'',hy'',?_,by simpa using d⟩
     rw[<- c];by_cases j:x''=y''
     ·simp[j]
     ·simp[j]
    ·rw[decide_eq_false hk];simp only[B41,if_true];have hf:decide (x=y)=false:=by rw[<- c];simp[hk]
     rw[hf] at h;exact B73 (B74 (B74 (B74 h)))
 ·rintro⟨r1,r2⟩ m ⟨z,rfl,x',y',xs',ys',i,g,e,c,d⟩;simp only at z;subst z;refine B74 ?_;have l:(n.size==o.size)=decide (x=y):=by
   rw[<- c,<- d];cases g with
   |nil=>
    cases e with
    |nil=>simp
    |cons _ _=>simp
   |cons _ _=>
    cases e with
    |nil=>simp
    |cons _ _=>simp at i
  show P (.done (.ret (.bool (n.size==o.size)))) m;rw[l];exact h
theorem qdD {x y:List KI} {a b:Addr} {Q:Bool->Shared->Prop} (g:A.units<cLine)(d:IsNK s.heap x a)(f:IsNK s.heap y b)(h:Q (decide (x=y)) s):wpAny (model prog w) A (eqBool (.ref a) (.ref b)) Q E s:=by
 unfold eqBool
 try with_reducible refine B84 ?_
 show wpAny _ _ (if(C7 a==C7 b)=true then _ else _) Q E s
 by_cases c:(C7 a==C7 b)=true
 ·rw[if_pos c];have e:a=b:=by have:=eq_of_beq c;injection this
  subst e;obtain rfl:=d.inj f;exact B73 (B98 (B74 (by simpa using h)))
 ·rw [if_neg c];exact B73 (wpAny_richCompare_same_room (op:=.Eq) d.typeIs f.typeIs A49
   (B86 A49 d.typeIs F.entry_tuple_eq (qZB d f ⟨_,rfl,(λe=>nomatch e),B91 h⟩) (F.args_tuple_eq_2 _ _)) g)
theorem qWR {ks:List KI} {a:Addr} {Q:Bool->Shared->Prop} (g:IsNK s.heap ks a)(h:Q true s):wpAny (model prog w) A (eqIsQuiet 8 (.ref a)) Q E s:=by
 have f:=g.typeIs;obtain⟨o,c,n,k,_,i,j⟩:=g;unfold eqIsQuiet;refine B73 (wpAny_specialOf f A49.lookup ?_);show wpAny _ _ (isInstance (.ref a) (.type "tuple") >>= _) _ _ s;refine B73 (C12 f isSubtype_tuple_tuple ?_);simp only[c6,G0,if_false];refine B73 (B95 k i ?_);refine B73 ?_;show wpAny _ _ (forIn c _ _) _ _ s;rw[<- j8];refine wpAny_forIn_list _ (λb r e=>r.1=none/\e=s/\∀v∈b,carriedByValue v=true) _ ?_ ?_ _ _ ⟨rfl,rfl,qUL j⟩
 ·rintro v b r e ⟨hr,rfl,hall⟩;rw[eqIsQuiet_byValue _ (hall v F6)];refine B73 (B74 ?_);simp only[c6,G0,if_false];exact B74 ⟨rfl,rfl,λu d=>hall u (C2 _ d)⟩
 ·rintro⟨l,m⟩ e ⟨hr,rfl,_⟩;simp only at hr;subst hr;exact B74 h
end
def qO8 (prog:B76)(w:World):HeapKind prog w (List KI) where
 is:=IsNK
 hash:=qU7 w
 draws:=λks=>ks.length+1
 room:=λA=>A.units+1<cLine
 inj:=λhx hy=>hx.inj hy
 keeps:=λx ho hd hs=>by
  obtain⟨o',items,n,ho',hc,hd',hi⟩:=x;refine⟨o',items,n,(hs.2 _ ?_).trans ho',hc,hd',hi⟩;rintro rfl;obtain rfl:=D7 (ho'.symm.trans ho);rw[hd] at hd';exact nomatch hd'
 pyHash:=λhu hk h=>qZC hu hk h
 eqBool:=λhu hx hy h=>qdD (A24 hu) hx hy h
 quiet:=λhk h=>qWR hk h
inductive V where
 |non|bl (b:Bool)|int (i:Int)|str (x:Str)|byt (b:Array UInt8)|flt (b:UInt64)|ref (a:Addr)|ty (n:String)
 deriving DecidableEq
def RelV:V->Value->Prop
 |.non,u=>u=M3
 |.bl b,u=>u=Y0 b
 |.int i,u=>∃t,u=V8 i t
 |.str x,u=>∃t,u=A80 x t
 |.byt b,u=>∃t,u=Value.bytes b t
 |.flt b,u=>∃t,u=Value.float b t
 |.ref a,u=>u=C7 a
 |.ty n,u=>u=j6 n
abbrev Vals:List V->List Value->Prop:=Paired RelV
theorem Vals.length {xs:List V} {a:List Value} (r:Vals xs a):xs.length=a.length:=C5 r
theorem Vals.get:∀{xs:List V} {us:List Value} {i:Nat} {x:V},Vals xs us->xs[i]?=some x->∃u,us[i]?=some u/\RelV x u
 |_,_,_,_,.nil,e=>by simp at e
 |_,_,0,_,.cons r _,e=>by simp at e;subst e;exact xR rfl r
 |_,_,i+1,x,.cons _ t,e=>by
  obtain⟨u,h1,h2⟩:=Vals.get (i:=i) (x:=x) t (by simpa using e)
  exact⟨u,by simpa using h1,h2⟩
theorem Vals.set {x:V} {u:Value} (r:RelV x u):∀{xs:List V} {us:List Value} (i:Nat),Vals xs us->Vals (xs.set i x) (us.set i u)
 |_,_,_,.nil=>.nil
 |_,_,0,.cons _ t=>.cons r t
 |_,_,i+1,.cons q t=>.cons q (Vals.set r i t)
theorem Vals.append:∀{xs ys:List V} {us ws:List Value},Vals xs us->Vals ys ws->Vals (xs++ys) (us++ws)
 |_,_,_,_,.nil,s=>s
 |_,_,_,_,.cons r t,s=>.cons r (Vals.append t s)
theorem Vals.take:∀{xs:List V} {us:List Value} (n:Nat),Vals xs us->Vals (xs.take n) (us.take n)
 |_,_,0,_=>.nil
 |_,_,_+1,.nil=>.nil
 |_,_,n+1,.cons r t=>.cons r (Vals.take n t)
theorem Vals.drop:∀{xs:List V} {us:List Value} (n:Nat),Vals xs us->Vals (xs.drop n) (us.drop n)
 |_,_,0,r=>r
 |_,_,_+1,.nil=>.nil
 |_,_,n+1,.cons _ t=>Vals.drop n t
def RelO:Option V->Option Value->Prop
 |some v,some u=>RelV v u
 |none,none=>True
 |_,_=>False
def KV {κ:Type}:List (κ×V)->List (κ×Value)->Prop:=Paired λ(p:κ×V) (q:κ×Value)=>p.1=q.1/\RelV p.2 q.2
inductive CTb where
 |tab (q:Str)
 |cod (q:Str)
noncomputable def kV:Key->V
 |.inl i=>.int i
 |.inr x=>.str x
def kI:KI->V
 |some k=>kV k
 |none=>.non
theorem qMN {A:Around} (a:A.units+2<cLine):(qO8 prog w).room A.in1:=by
 show A.in1.units+1<cLine;rw[Around.in1_units];exact a
inductive HO where
 |lst (xs:List V)
 |tup (xs:List V)
 |dK (Af:List (Key×V))|dT (Af:List (List KI×V))
 |set (S:Int->Bool) (n:Nat)
 |ins (C dx:Addr) (fs:List (Str×V))
 |own (x:Addr)
 |xd (fs:List (Str×V))
 |met (f x:Addr)
 |rng (lo hi:Int)
 |frz (o:Obj) (u:HO)
 |tbl (t:CTb)
 |ext (φ:Heap->Prop)
abbrev Hp:=Addr->Option HO
noncomputable def Ag (H:Hp)(a:Addr)(o:HO):Hp:=λb=>if b=a then some o else H b
theorem qA1 {H:Hp} {a:Addr} {o:HO} :Ag H a o a=some o:=by unfold Ag;rw[if_pos rfl]
theorem qAB {H:Hp} {a b:Addr} {o:HO} (h:b≠a):Ag H a o b=H b:=by unfold Ag;rw[if_neg h]
theorem qPB {H:Hp} {a:Addr} {o u:HO} :Ag (Ag H a o) a u=Ag H a u:=by
 funext b;unfold Ag;split<;>rfl
theorem qFB {H:Hp} {a b:Addr} {o u:HO} (h:H a=some o)(h':H b=some u)(d:o≠u):a≠b:=by
 intro e;subst e;rw[h] at h';exact d (D7 h')
theorem qA7 {H:Hp} {a b:Addr} {o:HO} (h:H a=some o)(h':H b=none):a≠b:=by
 intro e;subst e;rw[h] at h';cases h'
section
variable(P:B76)(w:World)
def ObjOk (H:Hp)(h:Heap)(a:Addr):HO->Prop
 |.lst xs=>xs.length<=B75/\∃(its:List Value) (n:Nat),Vals xs its/\h.get? a=some {cls:=.type "list",data:=.seq its.toArray n}
 |.tup xs=>xs.length<=B75/\∃its:List Value,Vals xs its/\IsTup h a its.toArray
 |.dK Af=>Af.length<=B75/\(a==C00)=false/\∃vs,KV Af vs/\h.DictOf (qCW P w) a vs
 |.dT Af=>Af.length<=B75/\(a==C00)=false/\∃xs:List (List KI×Addr×Value),
   Paired (λ(p:List KI×V) (q:List KI×Addr×Value)=>p.1=q.1/\H q.2.1=some (.tup (p.1.map kI))/\RelV p.2 q.2.2) Af xs/\
   ∃o es ep,h.get? a=some o/\o.ExactDict/\o.data=.dict es ep/\es.toList=xs.map (entryOfKey (qO8 P w))/\(xs.map (·.1)).Nodup
 |.set S n=>h.SetOf (C28 P w) a S n
 |.ins C dx fs=>H dx=some (.own a)/\fs.length<=1000/\dx≠a/\h.get? a=some (A50 C dx)/\
   ∃mA,h.Ns1 dx mA/\(∀f,RelO (fs.lookup f) (mA f))/\PySem.Within mA (fs.map (·.1))
 |.own _=>∃o,h.get? a=some o
 |.xd fs=>∃mA,h.Ns1 a mA/\∀f,RelO (fs.lookup f) (mA f)
 |.rng lo hi=>∃t u v,h.get? a=some {cls:=.type "range",data:=.fields #[.int lo t,.int hi u,.int 1 v]}
 |.frz o u=>h.get? a=some o/\ObjOk H h a u
 |.tbl (.tab q)=>∃more:Array Value,h.get? a=some {cls:=.none,data:=.fields more}/\TriplesOk more.toList/\∀pos cv,codeAmong pos more.toList=some cv->∃c,cv=.ref c/\H c=some (.tbl (.cod q))
 |.tbl (.cod q)=>h.CodeRec (.ref a) q
 |.met f x=>h.get? a=some (m9 (.ref f) (.ref x))
 |.ext φ=>φ h/\(∃o,h.get? a=some o)/\∀h1 h2:Heap,φ h1->(∀o,h1.get? a=some o->h2.get? a=some o)->φ h2
def HOk (H:Hp)(h:Heap):Prop:=∀a o,H a=some o->ObjOk P w H h a o
end
section
variable{P:B76}{w:World}{H H':Hp}{h h':Heap}{a:Addr}{o:HO}
theorem ObjOk.lt (x:ObjOk P w H h a o):a<h.objs.size:=by
 cases o with
 |lst xs=>obtain⟨_,_,_,_,e⟩:=x;exact B9 e
 |tup xs=>obtain⟨_,_,_,p⟩:=x;exact p.lt
 |dK Af=>obtain⟨_,_,_,_,o,_,_,e,_⟩:=x;exact B9 e
 |dT Af=>obtain⟨_,_,_,_,o,_,_,e,_⟩:=x;exact B9 e
 |set S n=>obtain⟨o,_,_,_,e,_⟩:=x;exact B9 e
 |ins C dx fs=>obtain⟨_,_,_,e,_⟩:=x;exact B9 e
 |own y=>obtain⟨_,e⟩:=x;exact B9 e
 |xd fs=>obtain⟨_,⟨_,_,_,e,_⟩,_⟩:=x;exact B9 e
 |rng lo hi=>obtain⟨_,_,_,e⟩:=x;exact B9 e
 |frz ob u=>obtain⟨e,_⟩:=x;exact B9 e
 |tbl t=>
  cases t with
  |tab q=>obtain⟨_,e,_⟩:=x;exact B9 e
  |cod q=>obtain⟨c,o,_,_,e,g,_⟩:=x;cases e;exact B9 g
 |met f y=>exact B9 (show h.get? a=some _ from x)
 |ext φ=>obtain⟨_,⟨_,e⟩,_⟩:=x;exact B9 e
theorem Paired.mapP {α β:Type} {F G:α->β->Prop} :∀{l₁:List α} {l₂:List β},Paired F l₁ l₂->(∀a b,F a b->G a b)->Paired G l₁ l₂
 |_,_,.nil,_=>.nil
 |_,_,.cons r t,f=>.cons (f _ _ r) (Paired.mapP t f)
theorem ObjOk.stay (x:ObjOk P w H h a o)(k:∀b u,(b=a\/H b=some (.own a))->h.get? b=some u->h'.get? b=some u)
  (ho:∀b,H b=some (.own a)->H' b=some (.own a)) (ht:∀b xs,H b=some (.tup xs)->H' b=some (.tup xs)) (hb:∀b t,H b=some (.tbl t)->H' b=some (.tbl t):=by exactλ_ _ q=>q):ObjOk P w H' h' a o:=by
 induction o with
 |lst xs=>obtain⟨z,s,n,r,e⟩:=x;exact⟨z,s,n,r,k _ _ (.inl rfl) e⟩
 |tup xs=>obtain⟨z,s,r,i,e,c⟩:=x;exact⟨z,s,r,i,k _ _ (.inl rfl) e,c⟩
 |dK Af=>obtain⟨z,y,vs,r,i,j,l,e,c⟩:=x;exact⟨z,y,vs,r,i,j,l,k _ _ (.inl rfl) e,c⟩
 |dT Af=>
  obtain⟨z,y,xs,r,i,j,l,e,c⟩:=x;exact⟨z,y,xs,Paired.mapP r λp q z=>⟨z.1,ht _ _ z.2.1,z.2.2⟩,i,j,l,k _ _ (.inl rfl) e,c⟩
 |set S n=>obtain⟨i,j,l,t,e,c⟩:=x;exact⟨i,j,l,t,k _ _ (.inl rfl) e,c⟩
 |ins C dx fs=>
  obtain⟨d,z,ne,e,mA,⟨od,j,l,e2,c⟩,r⟩:=x;exact⟨ho _ d,z,ne,k _ _ (.inl rfl) e,mA,⟨od,j,l,k _ _ (.inr d) e2,c⟩,r⟩
 |own y=>obtain⟨i,e⟩:=x;exact⟨i,k _ _ (.inl rfl) e⟩
 |xd fs=>obtain⟨mA,⟨od,j,l,e,c⟩,r⟩:=x;exact⟨mA,⟨od,j,l,k _ _ (.inl rfl) e,c⟩,r⟩
 |rng lo hi=>obtain⟨t,u,v,e⟩:=x;exact⟨t,u,v,k _ _ (.inl rfl) e⟩
 |frz i u ih=>obtain⟨e,q⟩:=x;exact⟨k _ _ (.inl rfl) e,ih q⟩
 |tbl t=>
  cases t with
  |tab q=>obtain⟨m,e,tr,c⟩:=x;exact⟨m,k a _ (.inl rfl) e,tr,λa0 cv z=>let⟨c',e1,e2⟩:=c a0 cv z;⟨c',e1,hb _ _ e2⟩⟩
  |cod q=>obtain⟨c,o,vs,t,e,g,r⟩:=x;cases e;exact⟨a,o,vs,t,rfl,k a _ (.inl rfl) g,r⟩
 |met f y=>
  have e:h.get? a=some (m9 (.ref f) (.ref y)):=x;show h'.get? a=some (m9 (.ref f) (.ref y));exact k a _ (.inl rfl) e
 |ext φ=>obtain⟨p,⟨o,e⟩,st⟩:=x;exact⟨st _ _ p λo q=>k _ _ (.inl rfl) q,⟨o,k _ _ (.inl rfl) e⟩,st⟩
theorem HOk.lt (x:HOk P w H h)(e:H a=some o):a<h.objs.size:=(x a o e).lt
theorem HOk.fresh (x:HOk P w H h)(e:h.objs.size<=a):H a=none:=by
 cases q:H a with
 |none=>rfl
 |some u=>exact absurd (D9 (x.lt q) e) (V1 _)
theorem HOk.kept (x:HOk P w H h)(k:∀b u,h.get? b=some u->h'.get? b=some u):HOk P w H h':=λa o e=>
 (x a o e).stay (λb u _ q=>k b u q) (λ_ q=>q) λ_ _ q=>q
theorem HOk.laid (x:HOk P w H h)(k:∀b u,h.get? b=some u->h'.get? b=some u)(i:h.objs.size<=a)(f:ObjOk P w (Ag H a o) h' a o):HOk P w (Ag H a o) h':=λb u e=>by
 have d:=x.fresh i;by_cases g:b=a
 ·subst g;rw[qA1] at e;cases e;exact f
 ·rw[qAB g] at e;exact(x b u e).stay (λc v _ q=>k c v q) (λc q=>by rw[qAB (qA7 q d)];exact q) (λc j q=>by rw[qAB (qA7 q d)];exact q) λc t q=>by rw[qAB (qA7 q d)];exact q
end
def Rd (H:Hp)(a:Addr)(u:HO):Prop:=H a=some u\/∃o,H a=some (.frz o u)
theorem Rd.ok {H:Hp} {h:Heap} {a:Addr} {u:HO} (r:Rd H a u)(x:HOk P w H h):ObjOk P w H h a u:=by
 rcases r with r|⟨o,r⟩
 ·exact x a u r
 ·obtain⟨_,q⟩:=x a _ r;exact q
def Mut:Option HO->Prop
 |some (.lst _)=>True
 |some (.dK _)=>True
 |some (.dT _)=>True
 |some (.set _ _)=>True
 |some (.ins _ _ _)=>True
 |some (.ext _)=>True
 |_=>False
section
variable{P:B76}{w:World}{H:Hp}{h h':Heap}{x e:Addr}{o':HO}
theorem HOk.write (p:HOk P w H h)(f:Mut (H x))(m:e=x\/H e=some (.own x))(k:∀b u,b≠e->h.get? b=some u->h'.get? b=some u)(l:∃u,h'.get? e=some u)
  (j:ObjOk P w (Ag H x o') h' x o'):HOk P w (Ag H x o') h':=λb u q=>by
 have d:∀c y,H c=some (.own y)->c≠x:=λc y r z=>by subst z;rw[r] at f;exact f
 have g:∀c xs,H c=some (.tup xs)->c≠x:=λc xs r z=>by subst z;rw[r] at f;exact f
 by_cases i:b=x
 ·subst i;rw[qA1] at q;cases q;exact j
 ·rw[qAB i] at q;by_cases a:b=e
  ·have n:H b=some (.own x):=by
    rcases m with z|z
    ·exact absurd (a.trans z) i
    ·rw[a];exact z
   rw[q] at n;cases n;obtain⟨v,o⟩:=l;exact⟨v,by rw[a];exact o⟩
  ·refine(p b u q).stay (λc v hc r=>k c v ?_ r) (λc r=>by rw[qAB (d c b r)];exact r) (λc xs r=>by rw[qAB (g c xs r)];exact r) λc t r=>by rw[qAB (λz=>by subst z;rw[r] at f;exact f)];exact r
   rcases hc with rfl|hc
   ·exact a
   ·rintro rfl;rcases m with z|z
    ·exact d c b hc z
    ·rw[hc] at z;cases z;exact i rfl
end
structure Un (fs ex:List Addr)(H H':Hp)(h h':Heap):Prop where
 keep:∀b o,h.get? b=some o->H b=none->b∉fs->b∉ex->h'.get? b=some o
 slot:∀b o,h.get? b=some o->H b=none->b∈fs->b∉ex->∃sl,h'.get? b=some {o with slots:=sl}
 free:∀b o,h.get? b=some o->H b=none->b∉ex->H' b=none
 there:∀b o,h.get? b=some o->b∉ex->∃o',h'.get? b=some o'
 tups:∀b xs,H b=some (.tup xs)->H' b=some (.tup xs)
 frzs:∀b o u,H b=some (.frz o u)->H' b=some (.frz o u)
 tbls:∀b ps,H b=some (.tbl ps)->H' b=some (.tbl ps)
section
variable{fs fs' ex ex':List Addr}{H H1 H2:Hp}{h h1 h2 h':Heap}{a x e:Addr}{o:HO}
theorem Un.any (u:Un fs ex H H1 h h1){b:Addr}{a:Obj}(q:h.get? b=some a)(n:H b=none)(d:b∉ex):∃sl,h1.get? b=some {a with slots:=sl}:=by
 by_cases c:b∈fs
 ·exact u.slot b a q n c d
 ·exact⟨a.slots,u.keep b a q n c d⟩
theorem Un.kept (k:∀b u,h.get? b=some u->h'.get? b=some u):Un fs ex H H h h':=
 ⟨λb a q _ _ _=>k b a q,λb a q _ _ _=>⟨a.slots,k b a q⟩,λ_ _ _ n _=>n,λb a q _=>⟨a,k b a q⟩,λ_ _ q=>q,λ_ _ _ q=>q,λ_ _ q=>q⟩
theorem Un.refl:Un fs ex H H h h:=Un.kept λ_ _ q=>q
theorem Un.laid (k:∀b u,h.get? b=some u->h'.get? b=some u)(e:h.objs.size<=a)(c:H a=none):Un fs ex H (Ag H a o) h h' where
 keep:=λb u q _ _ _=>k b u q
 slot:=λb u q _ _ _=>⟨u.slots,k b u q⟩
 free:=λb u q n _=>by rw[qAB (E7 (D9 (B9 q) e))];exact n
 there:=λb u q _=>⟨u,k b u q⟩
 tups:=λb d q=>by rw[qAB (qA7 q c)];exact q
 frzs:=λb u d q=>by rw[qAB (qA7 q c)];exact q
 tbls:=λb f q=>by rw[qAB (qA7 q c)];exact q
theorem Un.write (c:Mut (H x))(l:e=x\/H e=some (.own x))(k:∀b u,b≠e->h.get? b=some u->h'.get? b=some u)(f:∃u,h'.get? e=some u):Un fs ex H (Ag H x o) h h':=by
 have i:∀b,H b=none->b≠x:=λb n z=>by subst z;rw[n] at c;exact c
 have g:∀b,H b=none->b≠e:=λb n z=>by
  subst z;rcases l with r|r
  ·exact i b n r
  ·rw[n] at r;cases r
 have d:∀b u,H b=some u->¬Mut (some u)->b≠x:=λb u q m z=>by subst z;rw[q] at c;exact m c
 refine⟨λb u q n _ _=>k b u (g b n) q,λb u q n _ _=>⟨u.slots,k b u (g b n) q⟩,λb u q n _=>by rw[qAB (i b n)];exact n,λb u q _=>?_,
  λb j q=>by rw[qAB (d b _ q λz=>z)];exact q,λb u j q=>by rw[qAB (d b _ q λz=>z)];exact q,λb p q=>by rw[qAB (d b _ q λz=>z)];exact q⟩
 by_cases a:b=e
 ·subst a;exact f
 ·exact⟨u,k b u a q⟩
end
noncomputable def trk (h:Heap)(H:Hp):List Addr:=(Y1 h.objs.size).filter λa=>(H a).isSome
noncomputable def hidT (h:Heap)(H:Hp):Heap:=B34 h (trk h H)
theorem qUU (h:Heap)(H:Hp):(hidT h H).objs.size=h.objs.size:=PySem.W.hideAll_size _ _
theorem qX0 {h:Heap} {H:Hp} {b:Addr} {o:Obj} (e:h.get? b=some o)(n:H b=none):(hidT h H).get? b=some o:=
 A74 _ e λa=>by
  have q:(H b).isSome=true:=(Q4.mp a).2;rw[n] at q;simp at q
theorem qZA {h:Heap} {H:Hp} {b:Addr} {o:Obj} (e:(hidT h H).get? b=some o):h.get? b=some o/\H b=none:=by
 have c:h.get? b=some o:=A83 (trk h H) e;refine⟨c,?_⟩;cases q:H b with
 |none=>rfl
 |some x=>
  have f:b∈trk h H:=Q4.mpr ⟨V3.mpr (B9 c),by simp[q]⟩
  have z:(hidT h H).get? b=none:=A58 (trk h H) f;rw[z] at e;cases e
noncomputable def qa4 (g h:Heap)(L:Addr):Aa2:=(Y1 h.objs.size).filterMap λa=>if a=L\/(g.get? a).isSome=true then none else(h.get? a).map λo=>(a,o)
noncomputable def rest (g h:Heap)(L d:Addr):Aa2:=(qa4 g h L).filter λp=>decide (p.1≠d)
structure Mod (K:Ab1)(mg:Ab0)(base:Heap):Prop where
 kin:K.In base
 glob:base.Ns B89 mg
 blt:∃mb,base.Ns C52 mb/\∀x:Str,x ≠ "__name__"->mb x=B81 x
 nolimit:base.NoLimit
structure Cx where
 prog:B76
 w:World
 K:Ab1
 mg:Ab0
 base:Heap
 A:Around
 N:List Str
 s₀:Shared
 H₀:Hp
 env:Env
 outer:List Env
 stack:List Env
 ex:List Addr
 fn:Str->Bool
 calm:Bool
 pn:Aa2
 xe:Aa1
noncomputable def frs (l:List Env):List Addr:=l.filterMap (·.frame)
noncomputable abbrev Cx.fs (X:Cx):List Addr:=frs X.outer
def Vis (sc:Scope)(x:Str):Prop:=sc.names.lookup x=some .local\/sc.names.lookup x=some .cell\/sc.names.lookup x=some .free
def Loc (sc:Scope)(x:Str):Prop:=sc.names.lookup x=some .local\/sc.names.lookup x=some .cell
def Look (env:Env)(h:Heap)(m:Ab0)(x:Str)(u:Value):Prop:=
 (env.kindOf x=some .local/\m x=some u)\/((env.kindOf x=some .cell\/env.kindOf x=some .free)/\∃c,env.cells.lookup x=some c/\h.IsCell c (some u))
structure Cx.Ok (X:Cx):Prop where
 mod:Mod X.K X.mg X.base
 kind:X.env.scope.kind=.function
 glob:X.env.globals=B89
 blt:X.env.builtins=C52
 above:X.s₀.heap.objs.size<=X.env.locals
 inj:∀x y c,X.env.cells.lookup x=some c->X.env.cells.lookup y=some c->x=y
 has:∀x,(X.env.kindOf x=some .cell\/X.env.kindOf x=some .free)->∃c,X.env.cells.lookup x=some c
 cab:∀x c,X.fn x=true->X.env.cells.lookup x=some c->X.s₀.heap.objs.size<=c
 hd:X.calm=true->X.A.handled=none
 frames:X.A.frames=some X.stack
 stk:X.stack=X.outer\/(X.stack=X.env::X.outer/\X.env.frame=some X.env.locals)
 exf:∀b∈X.ex,b≠X.env.locals/\∀x c,X.env.cells.lookup x=some c->c≠b
 bs:∀b o,X.base.get? b=some o->X.s₀.heap.get? b=some o/\X.H₀ b=none
 bsz:X.base.objs.size<=X.s₀.heap.objs.size
 noex:∀b o,X.base.get? b=some o->b∉X.ex
 exfs:∀b∈X.ex,b∉X.fs
 funs:X.s₀.heap.FunFrames X.base X.outer
 frf:∀b∈X.fs,X.H₀ b=none
structure Inv (X:Cx)(Ab:Aa2)(σ:List (Option V))(H:Hp)(s:Shared):Prop where
 ok:X.Ok
 os:s.os=X.s₀.os
 bare:C44 s.gens
 base:Un X.fs X.ex X.H₀ H X.s₀.heap s.heap
 loc:∃m,s.heap.Ns X.env.locals m/\∀(i:Nat) (x:Str) (v:V),X.N[i]?=some x->σ[i]?=some (some v)->Vis X.env.scope x->∃u,RelV v u/\Look X.env s.heap m x u
 cell:∀x c,X.env.cells.lookup x=some c->∃v,s.heap.IsCell c v
 free:H X.env.locals=none
 freeC:∀x c,X.env.cells.lookup x=some c->H c=none
 pin:∀p∈X.pn++Ab,s.heap.get? p.1=some p.2/\H p.1=none/\p.1≠X.env.locals/\p.1∉X.fs/\∀v,p.2.data≠.cell v
 hok:HOk X.prog X.w H s.heap
 len:σ.length=X.N.length
section
variable{X:Cx}{Ab:Aa2}{σ:List (Option V)}{H H':Hp}{s:Shared}{h':Heap}
theorem Cx.Ok.nofr (a:X.Ok){b:Addr}{o:Obj}(e:X.base.get? b=some o):b∉X.fs:=λc=>by
 have:=(a.funs.mem c).1;rw[e] at this;cases this
theorem Inv.bs (I:Inv X Ab σ H s):∀b o,X.base.get? b=some o->s.heap.get? b=some o/\H b=none:=λb o e=>
 ⟨I.base.keep b o (I.ok.bs b o e).1 (I.ok.bs b o e).2 (I.ok.nofr e) (I.ok.noex b o e),I.base.free b o (I.ok.bs b o e).1 (I.ok.bs b o e).2 (I.ok.noex b o e)⟩
theorem Inv.bk (I:Inv X Ab σ H s):∀b o,X.base.get? b=some o->s.heap.get? b=some o:=λb o e=>(I.bs b o e).1
theorem Inv.mod (I:Inv X Ab σ H s):Mod X.K X.mg X.base:=I.ok.mod
theorem Inv.kIn (I:Inv X Ab σ H s):X.K.In s.heap:=I.ok.mod.kin.keeps I.bk
theorem Inv.nolimit (I:Inv X Ab σ H s):s.heap.NoLimit:=I.ok.mod.nolimit.keeps I.bk
theorem Inv.lt (I:Inv X Ab σ H s):X.env.locals<s.heap.objs.size:=let⟨_,hn,_⟩:=I.loc;hn.lt
theorem Inv.sz (I:Inv X Ab σ H s):X.s₀.heap.objs.size<=s.heap.objs.size:=F4 I.ok.above (F5 I.lt)
theorem Inv.nofs (I:Inv X Ab σ H s){a:Addr}(h:s.heap.objs.size<=a):a∉X.fs:=λc=>by
 obtain⟨_,o,b,_⟩:=I.ok.funs.mem c;exact absurd (D9 (B9 b) (F4 I.sz h)) (V1 _)
theorem Inv.cne (I:Inv X Ab σ H s):∀x c,X.env.cells.lookup x=some c->c≠X.env.locals:=λx c e z=>by
 obtain⟨v,o,f,d⟩:=I.cell x c e;obtain⟨m,⟨h,g,i,a,b,_⟩,_⟩:=I.loc;rw[z,a] at f;cases f;rw[b] at d;cases d
theorem Inv.funs (I:Inv X Ab σ H s):s.heap.FunFrames X.base X.outer:=by
 have a:∀(l:List Env),(∀b∈frs l,b∈X.fs)->X.s₀.heap.FunFrames X.base l->s.heap.FunFrames X.base l:=by
  intro l
  induction l with
  |nil=>intro _ _;trivial
  |cons env r ih=>
   intro g m;obtain⟨j,⟨L,o,d,h,n,i⟩,k⟩:=m;have f:L∈X.fs:=g L (by unfold frs;rw[y7,d];exact F6)
   obtain⟨p,e⟩:=I.base.slot L o n (I.ok.frf L f) f λz=>I.ok.exfs L z f;exact⟨j,⟨L,_,d,h,e,i⟩,ih (λb c=>g b (by unfold frs;rw[y7,d];exact C2 _ c)) k⟩
 exact a X.outer (λ_ c=>c) I.ok.funs
theorem Inv.stack (I:Inv X Ab σ H s):s.heap.FunFrames X.base X.stack:=by
 rcases I.ok.stk with e|⟨e,hf⟩
 ·rw[e];exact I.funs
 ·rw[e];obtain⟨m,a,_⟩:=I.loc;refine .cons (by rw[I.ok.kind];decide) hf a ?_ I.funs
  exact Heap.get?_none_of_le (F4 I.ok.bsz I.ok.above)
theorem Inv.stkSub (I:Inv X Ab σ H s):∀b∈frs X.stack,b∈X.env.locals::X.fs:=λb a=>by
 rcases I.ok.stk with e|⟨e,hf⟩
 ·rw[e] at a;exact C2 _ a
 ·rw[e] at a;unfold frs at a;rw[y7,hf] at a;exact a
theorem Inv.stkFree (I:Inv X Ab σ H s):∀b∈frs X.stack,H b=none:=λb hb=>by
 rcases C0.mp (I.stkSub b hb) with e|hb
 ·rw[e];exact I.free
 ·obtain⟨_,o,a,_⟩:=I.ok.funs.mem hb;exact I.base.free b o a (I.ok.frf b hb) λz=>I.ok.exfs b z hb
theorem Inv.step {g':Array C41} {t':Nat} {d':Drawn} {ch:List Addr} (I:Inv X Ab σ H s)
  (h:∀b∈ch,(b∈X.ex\/X.s₀.heap.objs.size<=b)/\b≠X.env.locals/\(∀x c,X.env.cells.lookup x=some c->c≠b)/\∀p∈X.pn++Ab,p.1≠b)
  (keep:∀b o,b≠X.env.locals->b∉X.fs->b∉ch->s.heap.get? b=some o->H b=none->h'.get? b=some o)
  (slot:∀b o,b≠X.env.locals->b∈X.fs->b∉ch->s.heap.get? b=some o->H b=none->∃sl,h'.get? b=some {o with slots:=sl}) (free:∀b o,b∉ch->s.heap.get? b=some o->H b=none->H' b=none)
  (there:∀b o,b∉ch->s.heap.get? b=some o->∃o',h'.get? b=some o')
  (tups:∀b xs,H b=some (.tup xs)->H' b=some (.tup xs)) (frzs:∀b o u,H b=some (.frz o u)->H' b=some (.frz o u)) (tbls:∀b ps,H b=some (.tbl ps)->H' b=some (.tbl ps))
  (ns:∀m,s.heap.Ns X.env.locals m->h'.Ns X.env.locals m) (a2:HOk X.prog X.w H' h') (hg:C44 g'):
  Inv X Ab σ H' {s with heap:=h',gens:=g',drawn:=d',toks:=t'}:=by
 have a0:∀b o,X.s₀.heap.get? b=some o->b≠X.env.locals:=λb o e=>E7 (D9 (B9 e) I.ok.above);have j:∀b o,X.s₀.heap.get? b=some o->b∉X.ex->b∉ch:=λb o e a t=>by
  rcases(h b t).1 with z|z
  ·exact a z
  ·exact absurd (D9 (B9 e) z) (V1 _)
 have g:∀x c,X.env.cells.lookup x=some c->∀v,s.heap.IsCell c v->h'.IsCell c v:=λx c e v ⟨o,ho,hd⟩=>by
  have f:c∉ch:=λz=>(h c z).2.2.1 x c e rfl;by_cases hc:c∈X.fs
  ·obtain⟨sl,q⟩:=slot c o (I.cne x c e) hc f ho (I.freeC x c e);exact⟨_,q,hd⟩
  ·exact⟨o,keep c o (I.cne x c e) hc f ho (I.freeC x c e),hd⟩
 refine⟨I.ok,I.os,hg,⟨λb o e n t a=>?_,λb o e n t a=>?_,λb o e n a=>?_,λb o e a=>?_,λb xs e=>tups b xs (I.base.tups b xs e),λb o xs e=>frzs b o xs (I.base.frzs b o xs e),λb ps e=>?_⟩,?_,λx c e=>?_,?_,λx c e=>?_,λp hp=>?_,a2,I.len⟩
 ·exact keep b o (a0 b o e) t (j b o e a) (I.base.keep b o e n t a) (I.base.free b o e n a)
 ·obtain⟨sl,y⟩:=I.base.slot b o e n t a;obtain⟨a1,e2⟩:=slot b _ (a0 b o e) t (j b o e a) y (I.base.free b o e n a);exact⟨a1,e2⟩
 ·obtain⟨o',y⟩:=I.base.there b o e a;exact free b o' (j b o e a) y (I.base.free b o e n a)
 ·obtain⟨o',y⟩:=I.base.there b o e a;exact there b o' (j b o e a) y
 ·exact tbls b ps (I.base.tbls b ps e)
 ·obtain⟨m,hn,hl⟩:=I.loc;refine⟨m,ns m hn,λi x v y e2 e3=>?_⟩;obtain⟨u,r,l⟩:=hl i x v y e2 e3;refine⟨u,r,?_⟩;rcases l with l|⟨k,c,e,z⟩
  ·exact .inl l
  ·exact .inr ⟨k,c,e,g x c e _ z⟩
 ·obtain⟨v,z⟩:=I.cell x c e;exact⟨v,g x c e v z⟩
 ·obtain⟨m,⟨o,_,_,ho,_⟩,_⟩:=I.loc;exact free _ o (λz=>(h _ z).2.1 rfl) ho I.free
 ·obtain⟨v,o,ho,hd⟩:=I.cell x c e;exact free c o (λz=>(h c z).2.2.1 x c e rfl) ho (I.freeC x c e)
 ·obtain⟨e,n,ne,nf,d⟩:=I.pin p hp;have f:p.1∉ch:=λz=>(h p.1 z).2.2.2 p hp rfl;exact⟨keep p.1 p.2 ne nf f e n,free p.1 p.2 f e n,ne,nf,d⟩
theorem Inv.un {t':Nat} (I:Inv X Ab σ H s)(u:Un X.fs [] H H' s.heap h')(d:HOk X.prog X.w H' h'):Inv X Ab σ H' {s with heap:=h',toks:=t'}:=by
 obtain⟨m,⟨o,p,v,h,r⟩,_⟩:=id I.loc;obtain⟨l,j⟩:=u.any h I.free (by simp)
 exact I.step (g':=s.gens) (d':=s.drawn) (ch:=[]) (fun _ z=>nomatch z) (fun b o _ c _ e n=>u.keep b o e n c (by simp)) (fun b o _ c _ e n=>u.slot b o e n c (by simp)) (fun b o _ e n=>u.free b o e n (by simp)) (fun b o _ e=>u.there b o e (by simp)) u.tups u.frzs u.tbls (fun q i=>by
  obtain⟨t,f,g,a,k⟩:=i;rw[h] at a;cases a;exact⟨_,f,g,j,k⟩) d I.bare
theorem Inv.call {g':Array C41} {t':Nat} {d':Drawn} {ch:List Addr} (I:Inv X Ab σ H s)(u:Un (frs X.stack) ch H H' s.heap h')(g:HOk X.prog X.w H' h')(l:C44 g')
  (d:∀b∈ch,(b∈X.ex\/X.s₀.heap.objs.size<=b)/\b≠X.env.locals/\(∀x c,X.env.cells.lookup x=some c->c≠b)/\∀p∈X.pn++Ab,p.1≠b):
  Inv X Ab σ H' {s with heap:=h',gens:=g',drawn:=d',toks:=t'}:=by
 obtain ⟨m,⟨o,es,ep,k,r⟩,_⟩:=id I.loc;obtain ⟨y,i⟩:=u.any k I.free fun z=>(d _ z).2.1 rfl;exact I.step (ch:=ch) d (fun b o i q a e n=>u.keep b o e n (fun z=>(C0.mp (I.stkSub b z)).elim i q) a) (fun b o _ _ a e n=>u.any e n a) (fun b o a e n=>u.free b o e n a) (fun b o a e=>u.there b o e a) u.tups u.frzs u.tbls (fun m' t=>by
  obtain⟨o',h,j,f,v⟩:=t;rw[k] at f;cases f;exact⟨_,h,j,i,v⟩) g l
theorem Inv.turned {t':Nat} {a:Addr} (I:Inv X Ab σ H s)(k:∀b o,b≠a->s.heap.get? b=some o->h'.get? b=some o)(j:H a=none)(g:a≠X.env.locals)
  (h:a∈X.ex\/X.s₀.heap.objs.size<=a) (l:∀x c,X.env.cells.lookup x=some c->c≠a) (w:∀p∈X.pn++Ab,p.1≠a):Inv X Ab σ H {s with heap:=h',toks:=t'}:=by
 have f:∀b u,H b=some u->b≠a:=λb u e z=>by rw[z,j] at e;cases e
 refine I.step (g':=s.gens) (d':=s.drawn) (ch:=[a]) (λb i=>?_) (λb o _ _ d e _=>k b o (λz=>d (by simp[z])) e) (λb o _ _ d e _=>⟨o.slots,k b o (λz=>d (by simp[z])) e⟩) (λ_ _ _ _ n=>n)
  (λb o d e=>⟨o,k b o (λz=>d (by simp[z])) e⟩) (λ_ _ e=>e) (λ_ _ _ e=>e) (λ_ _ e=>e) (λm t=>?_) (λb u e=>?_) I.bare
 ·have e:b=a:=by simpa using i
  subst e;exact⟨h,g,l,w⟩
 ·obtain⟨o,y,ep,ho,r⟩:=t;exact⟨o,y,ep,k _ o (J4 g) ho,r⟩
 ·refine(I.hok b u e).stay (λc v d q=>k c v ?_ q) (λ_ q=>q) λ_ _ q=>q;rcases d with z|z
  ·rw[z];exact f b u e
  ·exact f c _ z
theorem Inv.tok (I:Inv X Ab σ H s)(t:Nat):Inv X Ab σ H {s with toks:=t}:=I.un (h':=s.heap) (t':=t) Un.refl I.hok
theorem Inv.kept {t':Nat} (I:Inv X Ab σ H s)(k:∀b u,s.heap.get? b=some u->h'.get? b=some u):Inv X Ab σ H {s with heap:=h',toks:=t'}:=I.un (Un.kept k) (I.hok.kept k)
theorem Inv.laid {a:Addr} {o:HO} {t':Nat} (I:Inv X Ab σ H s)(k:∀b u,s.heap.get? b=some u->h'.get? b=some u)(c:s.heap.objs.size<=a)(d:ObjOk X.prog X.w (Ag H a o) h' a o):
  Inv X Ab σ (Ag H a o) {s with heap:=h',toks:=t'}:=I.un (Un.laid k c (I.hok.fresh c)) (I.hok.laid k c d)
theorem Inv.write {x e:Addr} {o:HO} {t':Nat} (I:Inv X Ab σ H s)(d:Mut (H x))(f:e=x\/H e=some (.own x))(k:∀b u,b≠e->s.heap.get? b=some u->h'.get? b=some u)(a:∃u,h'.get? e=some u)
  (c:ObjOk X.prog X.w (Ag H x o) h' x o):Inv X Ab σ (Ag H x o) {s with heap:=h',toks:=t'}:=I.un (Un.write d f k a) (I.hok.write d f k a c)
theorem Inv.pins_of {a:Aa2} (I:Inv X Ab σ H s)(h:∀p∈a,s.heap.get? p.1=some p.2/\H p.1=none/\p.1≠X.env.locals/\p.1∉X.fs/\∀v,p.2.data≠.cell v):Inv X a σ H s:=
 ⟨I.ok,I.os,I.bare,I.base,I.loc,I.cell,I.free,I.freeC,λp b=>(B7.mp b).elim (λz=>I.pin p (w5 _ z)) (h p),I.hok,I.len⟩
theorem qQY {N:List Str} (c:N.Nodup){i j:Nat}{x:Str}(a:N[i]?=some x)(b:N[j]?=some x):i=j:=by
 obtain⟨f,d⟩:=B5.mp a;obtain⟨g,e⟩:=B5.mp b;exact(List.getElem_inj c).mp (d.trans e.symm)
theorem qNO {M:Model} {i:Nat} {x:Str} {v:V} {u:Value} {Q:Unit->Shared->Prop} (I:Inv X Ab σ H s)(hN:X.N.Nodup)(hi:X.N[i]?=some x)(t:Loc X.env.scope x)(r:RelV v u)
  (h:∀s',Inv X Ab (σ.set i (some v)) H s'->(∃a,Heap.SameBut a s.heap s'.heap/\(a=X.env.locals\/X.env.cells.lookup x=some a))->Q () s') (hf:X.fn x=true\/X.env.scope.names.lookup x=some .local:=by first|exact .inl rfl|exact .inr rfl|assumption):wpAny M A (storeName X.env x u) Q E s:=by
 obtain⟨m,hn,hl⟩:=id I.loc;have a5:(X.env.scope.kind == .class||(X.env.scope.kind == .module&&X.env.locals != X.env.globals))=false:=by rw[I.ok.kind];rfl
 have a7:i<σ.length:=by rw[I.len];exact(B5.mp hi).1
 have cne:=I.cne;have g:∀{a:Addr} {h':Heap},(∃o,s.heap.get? a=some o/\H a=none)->Heap.SameBut a s.heap h'->HOk X.prog X.w H h':=λ{a h'} ha f b ob e=>by
  obtain⟨_,_,a0⟩:=ha;refine(I.hok b ob e).stay (λc w' hc q=>(f.2 c ?_).trans q) (λ_ q=>q) λ_ _ q=>q;rintro rfl;rcases hc with rfl|hc
  ·rw[a0] at e;cases e
  ·rw[a0] at hc;cases hc
 rcases t with hk|hk
 ·refine wpAny_storeName_local hk hn (λh' a8 f=>?_) a5;obtain⟨oL,_,_,a9,_⟩:=id hn;refine h _ ⟨I.ok,I.os,I.bare,⟨λb o e n hb t=>?_,λb o e n hb t=>?_,I.base.free,λb o e t=>?_,I.base.tups,I.base.frzs,I.base.tbls⟩,⟨_,a8,λj y v' l e2 e3=>?_⟩,λy c e=>?_,I.free,I.freeC,λp hp=>?_,g ⟨oL,a9,I.free⟩ f,by simpa using I.len⟩ ⟨_,f,.inl rfl⟩
  ·exact(f.2 b (E7 (D9 (B9 e) I.ok.above))).trans (I.base.keep b o e n hb t)
  ·obtain⟨sl,l⟩:=I.base.slot b o e n hb t;exact⟨sl,(f.2 b (E7 (D9 (B9 e) I.ok.above))).trans l⟩
  ·obtain⟨o',l⟩:=I.base.there b o e t;exact⟨o',(f.2 b (E7 (D9 (B9 e) I.ok.above))).trans l⟩
  ·by_cases hj:j=i
   ·subst hj;rw[hi] at l;cases l;rw[P6 a7] at e2;cases e2;exact⟨u,r,.inl ⟨hk,by simp⟩⟩
   ·rw[U7 (J4 hj)] at e2;obtain⟨u',r',q⟩:=hl j y v' l e2 e3;refine⟨u',r',?_⟩;rcases q with⟨k,e⟩|⟨k,c,e,z⟩
    ·refine .inl ⟨k,?_⟩;have:y≠x:=λe=>hj (qQY hN l (e▸hi));simp[this,e]
    ·exact .inr ⟨k,c,e,z.sameBut f (cne y c e)⟩
  ·obtain⟨w',z⟩:=I.cell y c e;exact⟨w',z.sameBut f (cne y c e)⟩
  ·obtain⟨e,n,ne,nf,d⟩:=I.pin p hp;exact⟨(f.2 p.1 ne).trans e,n,ne,nf,d⟩
 ·have a1:X.fn x=true:=by
   rcases hf with z|z
   ·exact z
   ·rw[z] at hk;cases hk
  obtain⟨c,hc⟩:=I.ok.has x (.inl hk);obtain⟨w',z⟩:=I.cell x c hc;refine wpAny_storeName_cell I.ok.kind hk hc z (λh' a4 f=>?_);obtain⟨oc,a2,a6⟩:=id z;refine h {s with heap:=h'} ⟨I.ok,I.os,I.bare,⟨λb o e n hb t=>?_,λb o e n hb t=>?_,I.base.free,λb o e t=>?_,I.base.tups,I.base.frzs,I.base.tbls⟩,⟨m,hn.sameBut f (J4 (cne x c hc)),λj y v' l e2 e3=>?_⟩,λy c' e=>?_,I.free,I.freeC,λp hp=>?_,g ⟨oc,a2,I.freeC x c hc⟩ f,by simpa using I.len⟩ ⟨c,f,.inr hc⟩
  ·exact(f.2 b (E7 (D9 (B9 e) (I.ok.cab x c a1 hc)))).trans (I.base.keep b o e n hb t)
  ·obtain⟨sl,l⟩:=I.base.slot b o e n hb t;exact⟨sl,(f.2 b (E7 (D9 (B9 e) (I.ok.cab x c a1 hc)))).trans l⟩
  ·obtain⟨o',l⟩:=I.base.there b o e t;exact⟨o',(f.2 b (E7 (D9 (B9 e) (I.ok.cab x c a1 hc)))).trans l⟩
  ·by_cases hj:j=i
   ·subst hj;rw[hi] at l;cases l;rw[P6 a7] at e2;cases e2;exact⟨u,r,.inr ⟨.inl hk,c,hc,a4⟩⟩
   ·rw[U7 (J4 hj)] at e2;obtain⟨u',r',q⟩:=hl j y v' l e2 e3;refine⟨u',r',?_⟩;rcases q with q|⟨k,c',e,z'⟩
    ·exact .inl q
    ·refine .inr ⟨k,c',e,z'.sameBut f ?_⟩;rintro rfl;exact hj (qQY hN l (I.ok.inj _ _ _ e hc▸hi))
  ·by_cases a3:c'=c
   ·subst a3;exact⟨_,a4⟩
   ·obtain⟨w2,z2⟩:=I.cell y c' e;exact⟨w2,z2.sameBut f a3⟩
  ·obtain⟨e,n,ne,nf,d⟩:=I.pin p hp;refine⟨(f.2 p.1 ?_).trans e,n,ne,nf,d⟩;intro q;rw[q,a2] at e;have q':oc=p.2:=D7 e;exact d w' (by rw[<- q'];exact a6)
theorem qGP {M:Model} {i:Nat} {x:Str} {v:V} {u:Value} {Q:Unit->Shared->Prop} (I:Inv X Ab σ H s)(c:X.N.Nodup)(hi:X.N[i]?=some x)(d:Loc X.env.scope x)(r:RelV v u)
  (h:∀s',Inv X Ab (σ.set i (some v)) H s'->Q () s') (a:X.fn x=true\/X.env.scope.names.lookup x=some .local:=by first|exact .inl rfl|exact .inr rfl|assumption):wpAny M A (storeName X.env x u) Q E s:=
 qNO I c hi d r (λs' b _=>h s' b) a
theorem Inv.call' {s':Shared} {ch:List Addr} (I:Inv X Ab σ H s)(g:s'.os=s.os)(u:Un (frs X.stack) ch H H' s.heap s'.heap)(d:HOk X.prog X.w H' s'.heap)(f:C44 s'.gens)
  (a:∀b∈ch,(b∈X.ex\/X.s₀.heap.objs.size<=b)/\b≠X.env.locals/\(∀x c,X.env.cells.lookup x=some c->c≠b)/\∀p∈X.pn++Ab,p.1≠b):Inv X Ab σ H' s':=by
 obtain⟨i,g',d',t',h⟩:=s';have e:h=s.os:=g;subst e;exact I.call (g':=g') (t':=t') (d':=d') u d f a
end
abbrev XK:=Value->Option Addr->Hp->Prop
abbrev St:=List (Option V)
abbrev VK:=V->Hp->Prop
abbrev TE:=St->Hp->VK->Prop
abbrev TT:=St->Hp->(Bool->Hp->Prop)->Prop
abbrev TA:=St->Hp->(List V->Hp->Prop)->Prop
structure Ends where
 nx:St->Hp->Prop
 rt:VK
 bk:St->Hp->Prop:=λ_ _=>False
 ct:St->Hp->Prop:=λ_ _=>False
abbrev TS:=Ends->St->Hp->Prop
def EP (X:Cx)(Ab:Aa2)(σ:St)(Q:VK)(u:Value)(s':Shared):Prop:=∃v H',Inv X Ab σ H' s'/\RelV v u/\Q v H'
def TP (X:Cx)(Ab:Aa2)(σ:St)(Q:Bool->Hp->Prop)(b:Bool)(s':Shared):Prop:=∃H',Inv X Ab σ H' s'/\Q b H'
def AP (X:Cx)(Ab:Aa2)(σ:St)(Q:List V->Hp->Prop)(us:List Value)(s':Shared):Prop:=∃vs H',Inv X Ab σ H' s'/\Vals vs us/\Q vs H'
def SP (X:Cx)(Ab:Aa2)(D:Ends)(f:Flow)(s':Shared):Prop:=
 match f with
 |.next=>∃σ' H',Inv X Ab σ' H' s'/\D.nx σ' H'
 |.brk=>∃σ' H',Inv X Ab σ' H' s'/\D.bk σ' H'
 |.cont=>∃σ' H',Inv X Ab σ' H' s'/\D.ct σ' H'
 |.ret u=>∃v σ' H',Inv X Ab σ' H' s'/\RelV v u/\D.rt v H'
def PE (X:Cx)(e:Expr)(t:TE):Prop:=
 ∀(Ab:Aa2) (s:Shared) (σ:St) (H:Hp) (Q:VK),Inv X Ab σ H s->t σ H Q->wpAny (model X.prog X.w) X.A (eval e X.env) (EP X Ab σ Q) X.xe s
def PT (X:Cx)(e:Expr)(t:TT):Prop:=
 ∀(Ab:Aa2) (s:Shared) (σ:St) (H:Hp) (Q:Bool->Hp->Prop),Inv X Ab σ H s->t σ H Q->wpAny (model X.prog X.w) X.A (isTrue e X.env (eval e X.env)) (TP X Ab σ Q) X.xe s
def PW (X:Cx)(e:Expr)(t:TT):Prop:=
 ∀(whole:Sem Value) (Ab:Aa2) (s:Shared) (σ:St) (H:Hp) (Q:Bool->Hp->Prop),Inv X Ab σ H s->t σ H Q->wpAny (model X.prog X.w) X.A (isTrue e X.env whole) (TP X Ab σ Q) X.xe s
theorem PW.pt {X:Cx} {e:Expr} {t:TT} (h:PW X e t):PT X e t:=h _
def PA (X:Cx)(es:List Expr)(t:TA):Prop:=
 ∀(pos:Pos) (Ab:Aa2) (s:Shared) (σ:St) (H:Hp) (Q:List V->Hp->Prop),Inv X Ab σ H s->t σ H Q->wpAny (model X.prog X.w) X.A (spliced (backTo pos (B85 es X.env))) (AP X Ab σ Q) X.xe s
def PS (X:Cx)(st:Stmt)(t:TS):Prop:=
 ∀(Ab:Aa2) (s:Shared) (σ:St) (H:Hp) (D:Ends),Inv X Ab σ H s->t D σ H->wpAny (model X.prog X.w) X.A (exec st X.env) (SP X Ab D) X.xe s
def PSs (X:Cx)(st:List Stmt)(t:TS):Prop:=
 ∀(Ab:Aa2) (s:Shared) (σ:St) (H:Hp) (D:Ends),Inv X Ab σ H s->t D σ H->wpAny (model X.prog X.w) X.A (execs st X.env) (SP X Ab D) X.xe s
theorem thn {α:Type} {t:Sem α} {Q Q':α->Shared->Prop} {M:Model} (h:wpAny M A t Q E s)(b:∀a s,Q a s->Q' a s):wpAny M A t Q' E s:=B83 h b λ_ _ x=>x
section
variable{X:Cx}
theorem bin {a b:Expr} {c d:TE} (i:PE X a c)(e:PE X b d){Ab:Aa2}{s:Shared}{σ:St}{H:Hp}{R:V->V->Hp->Prop}(I:Inv X Ab σ H s)(h:c σ H λx H1=>d σ H1 λy H2=>R x y H2)
  {α:Type} {Q:α->Shared->Prop} {f:Value->Value->Sem α}
  (g:∀v u s2 x y H2,Inv X Ab σ H2 s2->RelV x v->RelV y u->R x y H2->wpAny (model X.prog X.w) X.A (f v u) Q X.xe s2):
  wpAny (model X.prog X.w) X.A (eval a X.env) (λv s₁=>wpAny (model X.prog X.w) X.A (eval b X.env) (λu s₂=>wpAny (model X.prog X.w) X.A (f v u) Q X.xe s₂) X.xe s₁) X.xe s:=by
 refine thn (i Ab s σ H _ I h) λv s1 ⟨x,H1,I1,r1,q1⟩=>?_;refine thn (e Ab s1 σ H1 _ I1 q1) λu s2 ⟨y,H2,I2,r2,q2⟩=>?_;exact g v u s2 x y H2 I2 r1 r2 q2
def tVar (i:Nat):TE:=λσ H Q=>∃v,σ[i]?=some (some v)/\Q v H
def tC (v:V):TE:=λ_ H Q=>Q v H
theorem qb4 {i:Nat} {x:Str} {pos:Pos} (o:X.N[i]?=some x) (g:Vis X.env.scope x) (d:(x==("__debug__" : Str))=false:=by decide) (hcd:(x==("__classdict__" : Str))=false:=by decide):PE X (.Name x pos) (tVar i):=by
 intro n s σ H Q I h;obtain⟨v,e,h⟩:=h;obtain⟨m,j,p⟩:=I.loc;obtain⟨u,r,l⟩:=p i x v o e g;have b:EP X n σ Q u s:=⟨v,H,I,r,h⟩;rcases l with⟨hk,k⟩|⟨hk,c,f,a⟩
 ·exact wpAny_Name (wpAny_loadName_local I.ok.kind hk j k b) d
 ·rcases hk with hk|hk
  ·exact wpAny_Name (wpAny_loadName_cell I.ok.kind hk f a b) d
  ·exact wpAny_Name (wpAny_loadName_free I.ok.kind hk f a b hcd) d
theorem qA5 :PE X (.Constant (.int i) j pos) (tC (.int i)):=λ_ _ _ H _ I h=>wpAny_Constant_int ⟨.int i,H,I.tok _,⟨_,rfl⟩,h⟩
theorem qDW :PE X (.Constant (.bool b) j pos) (tC (.bl b)):=λ_ _ _ H _ I h=>Constant_bool ⟨.bl b,H,I,rfl,h⟩
theorem qDN :PE X (.Constant .none j pos) (tC .non):=λ_ _ _ H _ I h=>Constant_none ⟨.non,H,I,rfl,h⟩
theorem qAZ :PE X (.Constant (.str x) j pos) (tC (.str x)):=λ_ _ _ H _ I h=>Calls.Constant_str ⟨.str x,H,I.tok _,⟨_,rfl⟩,h⟩
def Gl (X:Cx)(x:Str):Prop:=X.env.kindOf x=some .globalImplicit
theorem qJV {Ab:Aa2} {σ:St} {H:Hp} {x:Str} {u:Value} {pos:Pos} {Q:Aa1} (I:Inv X Ab σ H s)(b:Gl X x)(a:X.mg x=some u)(h:Q u s)
  (c:(x==("__debug__" : Str))=false:=by decide):wpAny (model X.prog X.w) X.A (eval (.Name x pos) X.env) Q E s:=
 Calls.Name_function_global I.ok.kind b (Calls.loadGlobal_global (by rw[I.ok.glob];exact I.mod.glob.keeps I.bk) a h) c
theorem qIG {Ab:Aa2} {σ:St} {H:Hp} {x:Str} {u:Value} {pos:Pos} {Q:Aa1} (I:Inv X Ab σ H s)(b:Gl X x)(g:X.mg x=none)(e:B81 x=some u)(h:Q u s)
  (c:x ≠ "__name__":=by decide) (f:(x==("__debug__" : Str))=false:=by decide):wpAny (model X.prog X.w) X.A (eval (.Name x pos) X.env) Q E s:=by
 obtain⟨i,a,d⟩:=I.mod.blt;exact Calls.Name_function_global I.ok.kind b (Calls.loadGlobal_builtin (by rw[I.ok.glob];exact I.mod.glob.keeps I.bk) g (by rw[I.ok.blt];exact a.keeps I.bk) ((d x c).trans e) h) f
theorem qZ6 {x:Str} {v:V} {u:Value} {pos:Pos} (b:Gl X x) (a:X.mg x=some u) (r:RelV v u) (c:(x==("__debug__" : Str))=false:=by decide):PE X (.Name x pos) (tC v):=
 λ_ _ _ H _ I h=>qJV I b a ⟨v,H,I,r,h⟩ c
theorem qBQ {x:Str} {v:V} {u:Value} {pos:Pos} (a:Gl X x) (e:X.mg x=none) (b:B81 x=some u) (r:RelV v u) (c:x ≠ "__name__":=by decide) (d:(x==("__debug__" : Str))=false:=by decide):PE X (.Name x pos) (tC v):=
 λ_ _ _ H _ I h=>qIG I a e b ⟨v,H,I,r,h⟩ c d
variable{a b:Expr}{ta tb:TE}{pos:Pos}
def PC (X:Cx)(op:CmpOp)(a b:Expr)(t:TE):Prop:=
 ∀(Ab:Aa2) (s:Shared) (σ:St) (H:Hp) (Q:VK),Inv X Ab σ H s->t σ H Q->
  wpAny (model X.prog X.w) X.A (eval a X.env) (λv s₁=>wpAny (model X.prog X.w) X.A (eval b X.env) (λu s₂=>wpAny (model X.prog X.w) X.A (B94 op v u) (EP X Ab σ Q) X.xe s₂) X.xe s₁) X.xe s
theorem qQZ (b:Expr){op:CmpOp}(h:op≠.In)(a:op≠.NotIn):C15 op b=false:=by
 have c:(op==CmpOp.In)=false:=by cases op<;>first|rfl|exact absurd rfl h
 have d:(op==CmpOp.NotIn)=false:=by cases op<;>first|rfl|exact absurd rfl a
 cases b<;>simp[C15,c,d]
def tIsN (ta:TE):TE:=λσ H Q=>ta σ H λx H1=>Q (.bl (decide (x=.non))) H1
def qcP (ta:TE):TE:=λσ H Q=>ta σ H λx H1=>Q (.bl (!decide (x=.non))) H1
theorem RelV.none_iff {x:V} {v:Value} (r:RelV x v):(v==M3)=decide (x=.non):=by
 cases x with
 |non=>cases r;rfl
 |bl _=>cases r;rfl
 |int _=>obtain⟨t,rfl⟩:=r;rfl
 |str _=>obtain⟨t,rfl⟩:=r;rfl
 |byt _=>obtain⟨t,rfl⟩:=r;rfl
 |flt _=>obtain⟨t,rfl⟩:=r;rfl
 |ref _=>cases r;rfl
 |ty _=>cases r;rfl
theorem qGV (c:PE X a ta):PC X .Is a (.Constant .none j pos') (tIsN ta):=by
 intro b s σ H Q I h;refine thn (c b s σ H _ I h) λv s1 ⟨x,H1,I1,r1,q1⟩=>?_;exact Constant_none (is_none_gen ⟨.bl _,H1,I1,by rw[r1.none_iff];rfl,q1⟩)
theorem qJM (c:PE X a ta):PC X .IsNot a (.Constant .none j pos') (qcP ta):=by
 intro b s σ H Q I h;refine thn (c b s σ H _ I h) λv s1 ⟨x,H1,I1,r1,q1⟩=>?_;exact Constant_none (isnot_none_gen ⟨.bl _,H1,I1,by rw[r1.none_iff];rfl,q1⟩)
def tB (t:TE):TT:=λσ H Q=>t σ H λx H1=>∃c,x=.bl c/\Q c H1
theorem qXU {op:CmpOp} {t:TE} (h:PC X op a b t)(c:C15 op b=false:=by first|exact qQZ _ (by decide) (by decide)|rfl):PE X (.Compare a [op] [b] pos) t:=λd s σ H Q I e=>wpAny_Compare1 (h d s σ H Q I e) c
theorem qCY {op:CmpOp} {t:TE} (h:PC X op a b t)(e:C15 op b=false:=by first|exact qQZ _ (by decide) (by decide)|rfl):PT X (.Compare a [op] [b] pos) (tB t):=by
 intro g s σ H Q I i;refine wpAny_isTrue_Compare1 (thn (h g s σ H _ I i) λv j e=>thn e λu k f=>thn f λc s3 ⟨x,H1,I1,r1,q1⟩=>?_) e;obtain⟨d,rfl,q⟩:=q1;cases r1;exact B91 ⟨H1,I1,q⟩
theorem qCA {e:Expr} {t:TE} (h:PE X e t)(c:∀whole,isTrue e X.env whole=(do let v <- whole;standAt e.pos;C36 [v] (truthy v)):=by intro _;rfl):PT X e (tB t):=by
 intro a s σ H Q I b;refine isTrue_plain (thn (h a s σ H _ I b) λv s1 ⟨x,H1,I1,r1,q1⟩=>?_) (c _);obtain⟨d,rfl,q⟩:=q1;cases r1;exact B91 ⟨H1,I1,q⟩
variable{tA tB':TT}{rest:List Expr}
def tAnd (t u:TT):TT:=λσ H Q=>t σ H λc H1=>if c=true then u σ H1 Q else Q false H1
def tOr (t u:TT):TT:=λσ H Q=>t σ H λc H1=>if c=true then Q true H1 else u σ H1 Q
def tNot (t:TT):TT:=λσ H Q=>t σ H λc H1=>Q (!c) H1
theorem qJL (d:PT X a tA):PW X (.BoolOp .And [a] pos) tA:=by
 intro f b s σ H Q I h;refine isTrue_and (thn (d b s σ H Q I h) λc g e=>?_);cases c with
 |true=>exact isTrue_and_nil e
 |false=>exact e
theorem qG6 (d:PT X a tA):PW X (.BoolOp .Or [a] pos) tA:=by
 intro f b s σ H Q I h;refine isTrue_or (thn (d b s σ H Q I h) λc g e=>?_);cases c with
 |false=>exact isTrue_or_nil e
 |true=>exact e
theorem qNX (g:PT X a tA)(f:PW X (.BoolOp .And (b::rest) pos) tB'):PW X (.BoolOp .And (a::b::rest) pos) (tAnd tA tB'):=by
 intro e d s σ H Q I h;refine isTrue_and (thn (g d s σ H _ I h) λc s1 ⟨H1,I1,q1⟩=>?_);cases c with
 |true=>exact f e d s1 σ H1 Q I1 q1
 |false=>exact⟨H1,I1,q1⟩
theorem qHV (g:PT X a tA)(f:PW X (.BoolOp .Or (b::rest) pos) tB'):PW X (.BoolOp .Or (a::b::rest) pos) (tOr tA tB'):=by
 intro e d s σ H Q I h;refine isTrue_or (thn (g d s σ H _ I h) λc s1 ⟨H1,I1,q1⟩=>?_);cases c with
 |true=>exact⟨H1,I1,q1⟩
 |false=>exact f e d s1 σ H1 Q I1 q1
theorem qDL (e:PT X a tA):PT X (.UnaryOp .Not a pos) (tNot tA):=by
 intro b s σ H Q I h;exact isTrue_not (e b s σ H (λc d=>Q (!c) d) I h)
def qcY (ta tb:TE):TE:=λσ H Q=>ta σ H λx H1=>∃c,x=.bl c/\if c=true then tb σ H1 Q else Q (.bl false) H1
def qcO (ta:TE):TE:=λσ H Q=>ta σ H λx H1=>∃c,x=.bl c/\Q (.bl (!c)) H1
theorem qG7 {t:TE} (h:PE X a t):PE X (.BoolOp op [a] pos) t:=λb s σ H Q I c=>BoolOp_one (h b s σ H Q I c)
theorem qF9 (f:PE X a ta)(e:PE X (.BoolOp .And (b::rest) pos) tb):PE X (.BoolOp .And (a::b::rest) pos) (qcY ta tb):=by
 intro d s σ H Q I h;refine BoolOp_and (thn (f d s σ H _ I h) λv s1 ⟨x,H1,I1,r1,q1⟩=>?_);obtain⟨c,rfl,q1⟩:=q1;cases r1;refine B91 ?_;cases c with
 |true=>exact e d s1 σ H1 Q I1 q1
 |false=>exact⟨.bl false,H1,I1,rfl,q1⟩
theorem qTX (d:PE X a ta):PE X (.UnaryOp .Not a pos) (qcO ta):=by
 intro b s σ H Q I h;refine UnaryOp_ (thn (d b s σ H _ I h) λv s1 ⟨x,H1,I1,r1,q1⟩=>?_);obtain⟨c,rfl,q1⟩:=q1;cases r1;exact not_of (B91 ⟨.bl (!c),H1,I1,rfl,q1⟩)
def tIf (t:TT)(ta tb:TE):TE:=λσ H Q=>t σ H λc H1=>if c=true then ta σ H1 Q else tb σ H1 Q
theorem qEQ {c:Expr} (f:PT X c tA)(i:PE X a ta)(g:PE X b tb):PE X (.IfExp c a b pos) (tIf tA ta tb):=by
 intro e s σ H Q I h;refine wpAny_IfExp (thn (f e s σ H _ I h) λd s1 ⟨H1,I1,q1⟩=>?_);cases d with
 |true=>exact i e s1 σ H1 Q I1 q1
 |false=>exact g e s1 σ H1 Q I1 q1
end
def SqL (K:Ab1)(H:Hp)(a:Addr)(xs:List V):Prop:=
 Rd H a (.lst xs)\/
  ∃(o:Obj) (its:Array Value) (n:Nat),K.lookup a=some o/\o.cls=.type "list"/\o.dict=none/\o.data=.seq its n/\its.size<=B75/\Vals xs its.toList
def SqT (K:Ab1)(H:Hp)(a:Addr)(xs:List V):Prop:=
 Rd H a (.tup xs)\/
  ∃(o:Obj) (its:Array Value) (n:Nat),K.lookup a=some o/\o.cls=.type "tuple"/\o.data=.seq its n/\its.size<=B75/\Vals xs its.toList
noncomputable def absV:Value->Option V
 |.none=>some .non
 |.bool b=>some (.bl b)
 |.int i _=>some (.int i)
 |.str x _=>some (.str x)
 |.bytes b _=>some (.byt b)
 |.float b _=>some (.flt b)
 |.ref a=>some (.ref a)
 |.type n=>some (.ty n)
 |_=>none
theorem RelV.abs {x:V} {u:Value} (r:RelV x u):absV u=some x:=by
 cases x with
 |non=>cases r;rfl
 |bl _=>cases r;rfl
 |int _=>obtain⟨t,rfl⟩:=r;rfl
 |str _=>obtain⟨t,rfl⟩:=r;rfl
 |byt _=>obtain⟨t,rfl⟩:=r;rfl
 |flt _=>obtain⟨t,rfl⟩:=r;rfl
 |ref _=>cases r;rfl
 |ty _=>cases r;rfl
theorem RelV.inj {x y:V} {u:Value} (r:RelV x u)(q:RelV y u):x=y:=D7 (r.abs.symm.trans q.abs)
theorem Vals.inj:∀{xs ys:List V} {us:List Value},Vals xs us->Vals ys us->xs=ys
 |_,_,_,.nil,.nil=>rfl
 |_,_,_,.cons r t,.cons r' t'=>by rw[r.inj r',Vals.inj t t']
section
variable{X:Cx}{Ab:Aa2}{σ:St}{H:Hp}{s:Shared}{a:Addr}{xs ys:List V}
theorem Ab2 {K:Ab1} (h:H a=some (.lst xs)):SqL K H a xs:=.inl (.inl h)
theorem Ac0 {K:Ab1} (h:H a=some (.tup xs)):SqT K H a xs:=.inl (.inl h)
theorem Inv.list (I:Inv X Ab σ H s)(h:SqL X.K H a xs):∃its:List Value,Vals xs its/\PlainL s.heap a its.toArray/\xs.length<=B75:=by
 rcases h with h|⟨o,its,n,hk,hc,hd,hs,hz,r⟩
 ·obtain⟨z,its,n,r,e⟩:=h.ok I.hok;exact⟨its,r,⟨_,n,e,rfl,rfl,rfl⟩,z⟩
 ·refine⟨its.toList,r,⟨o,n,I.kIn a o hk,hc,hd,by simpa using hs⟩,?_⟩
  have e:=r.length;simp only[D6] at e
  lia
theorem Inv.tuple (I:Inv X Ab σ H s)(h:SqT X.K H a xs):∃its:List Value,Vals xs its/\IsTup s.heap a its.toArray/\xs.length<=B75:=by
 rcases h with h|⟨o,its,n,hk,hc,hs,hz,r⟩
 ·obtain⟨z,its,r,p⟩:=h.ok I.hok;exact⟨its,r,p,z⟩
 ·refine⟨its.toList,r,⟨o,I.kIn a o hk,hc,n,by simpa using hs⟩,?_⟩
  have e:=r.length;simp only[D6] at e
  lia
theorem Inv.list_inj (I:Inv X Ab σ H s)(h:SqL X.K H a xs)(h':SqL X.K H a ys):xs=ys:=by
 obtain⟨c,r,⟨o,n,e,_,_,d⟩,_⟩:=I.list h;obtain⟨b,i,⟨k,j,g,_,_,f⟩,_⟩:=I.list h';rw[e] at g;cases g;rw[d] at f
 injection f with d1 _
 have:c=b:=by simpa using congrArg B13 d1
 subst this;exact r.inj i
theorem Inv.tuple_inj (I:Inv X Ab σ H s)(h:SqT X.K H a xs)(h':SqT X.K H a ys):xs=ys:=by
 obtain⟨c,r,⟨o,e,_,n,d⟩,_⟩:=I.tuple h;obtain⟨b,i,⟨k,g,_,j,f⟩,_⟩:=I.tuple h';rw[e] at g;cases g;rw[d] at f
 injection f with d1 _
 have:c=b:=by simpa using congrArg B13 d1
 subst this;exact r.inj i
end
noncomputable abbrev Cx.wish (X:Cx)(E:Aa1):Cx:={X with xe:=E}
noncomputable abbrev Cx.nox (X:Cx):Cx:=X.wish λ_ _=>False
theorem Cx.Ok.wish {X:Cx} (a:X.Ok)(E:Aa1):(X.wish E).Ok:=
 ⟨a.mod,a.kind,a.glob,a.blt,a.above,a.inj,a.has,a.cab,a.hd,a.frames,a.stk,a.exf,a.bs,a.bsz,a.noex,a.exfs,a.funs,a.frf⟩
theorem Cx.Ok.unwish {X:Cx} (a:(X.wish E).Ok):X.Ok:=
 ⟨a.mod,a.kind,a.glob,a.blt,a.above,a.inj,a.has,a.cab,a.hd,a.frames,a.stk,a.exf,a.bs,a.bsz,a.noex,a.exfs,a.funs,a.frf⟩
section
variable{X:Cx}{Ab:Aa2}{σ:St}{H:Hp}{s:Shared}{E:Aa1}
theorem Inv.wish (I:Inv X Ab σ H s)(E:Aa1):Inv (X.wish E) Ab σ H s:=⟨I.ok.wish E,I.os,I.bare,I.base,I.loc,I.cell,I.free,I.freeC,I.pin,I.hok,I.len⟩
theorem Inv.unwish (I:Inv (X.wish E) Ab σ H s):Inv X Ab σ H s:=⟨I.ok.unwish,I.os,I.bare,I.base,I.loc,I.cell,I.free,I.freeC,I.pin,I.hok,I.len⟩
theorem SP.unwish {D:Ends} {f:Flow} (h:SP (X.wish E) Ab D f s'):SP X Ab D f s':=by
 cases f with
 |next=>obtain⟨σ',a,I,q⟩:=h;exact⟨σ',a,I.unwish,q⟩
 |brk=>obtain⟨σ',a,I,q⟩:=h;exact⟨σ',a,I.unwish,q⟩
 |cont=>obtain⟨σ',a,I,q⟩:=h;exact⟨σ',a,I.unwish,q⟩
 |ret u=>obtain⟨v,σ',a,I,r,q⟩:=h;exact⟨v,σ',a,I.unwish,r,q⟩
theorem PSs.nox {st:List Stmt} {t:TS} (h:PSs X.nox st t):PSs X st t:=λa s σ H D I b=>
 B83 (h a s σ H D (I.wish _) b) (λ_ _ q=>q.unwish) λ_ _ z=>P1 z
end
section
variable{X:Cx}{st:Stmt}{rest:List Stmt}{t u:TS}{e:Expr}{te:TE}{pos:Pos}
def qcQ:TS:=λD σ H=>D.nx σ H
def tSeq (t u:TS):TS:=λD σ H=>t {D with nx:=u D} σ H
theorem qAH:PSs X [] qcQ:=λ_ _ σ H _ I h=>C08 ⟨σ,H,I,h⟩
theorem qA3 (b:PS X st t)(d:PSs X rest u):PSs X (st::rest) (tSeq t u):=by
 intro a s σ H D I h;refine C47 (thn (b a s σ H {D with nx:=u D} I h) λf c q=>?_);cases f with
 |next=>
  obtain⟨σ',e,g,q⟩:=q;exact d a c σ' e D g q
 |ret v=>exact q
 |brk=>exact q
 |cont=>exact q
theorem qA6 (a:PS X st t):PSs X [st] t:=by
 intro b s σ H D I h;refine C47 (thn (a b s σ H D I h) λf c q=>?_);cases f with
 |next=>exact C08 q
 |ret v=>exact q
 |brk=>exact q
 |cont=>exact q
def qcX:TS:=λD σ H=>D.ct σ H
theorem qPQ:PS X (.Continue pos) qcX:=λ_ _ σ H _ I h=>wpAny_Continue ⟨σ,H,I,h⟩
theorem Inv.quiet {Ab:Aa2} {σ:St} {H:Hp} (I:Inv X Ab σ H s):interactive X.env=false:=by simp[interactive,I.ok.kind]
def qcU (te:TE):TS:=λD σ H=>te σ H λ_ H1=>D.nx σ H1
theorem qEP (b:PE X e te)(c:swapsWith e none pos.line X.env=pure false:=by rfl):PS X (.Expr e pos) (qcU te):=by
 intro a s σ H D I h;exact wpAny_Expr_any (thn (b a s σ H _ I h) λv s1 ⟨x,H1,I1,r1,q1⟩=>⟨σ,H1,I1,q1⟩) I.quiet c
def tRet (te:TE):TS:=λD σ H=>te σ H D.rt
theorem qAD (b:PE X e te):PS X (.Return (some e) pos) (tRet te):=by
 intro a s σ H D I h;exact wpAny_Return_some (thn (b a s σ H _ I h) λv s1 ⟨x,H1,I1,r1,q1⟩=>⟨x,σ,H1,I1,r1,q1⟩)
def tIfS (c:TT)(t u:TS):TS:=λD σ H=>c σ H λb H1=>if b=true then t D σ H1 else u D σ H1
theorem qB8 {c:Expr} {a b:List Stmt} {f:TT} (g:PT X c f)(j:PSs X a t)(i:PSs X b u):PS X (.If c a b pos) (tIfS f t u):=by
 intro e s σ H D I h;refine wpAny_If (thn (g e s σ H _ I h) λd s1 ⟨H1,I1,q1⟩=>?_);cases d with
 |true=>exact j e s1 σ H1 D I1 q1
 |false=>exact i e s1 σ H1 D I1 q1
def qaL:TS:=λ_ _ _=>False
theorem qTL {a:List Stmt} :PSs X a qaL:=λ_ _ _ _ _ _ h=>h.elim
end
abbrev TG:=V->St->Hp->(St->Hp->Prop)->Prop
abbrev TGs:=List V->St->Hp->(St->Hp->Prop)->Prop
def PG (X:Cx)(target:Expr)(t:TG):Prop:=
 ∀(Ab:Aa2) (s:Shared) (σ:St) (H:Hp) (v:V) (u:Value) (Q:St->Hp->Prop),Inv X Ab σ H s->RelV v u->t v σ H Q->
  wpAny (model X.prog X.w) X.A (assign target X.env u) (λ_ s'=>∃σ' H',Inv X Ab σ' H' s'/\Q σ' H') X.xe s
def PGs (X:Cx)(ts:List Expr)(t:TGs):Prop:=
 ∀(Ab:Aa2) (s:Shared) (σ:St) (H:Hp) (vs:List V) (us:List Value) (Q:St->Hp->Prop),Inv X Ab σ H s->Vals vs us->t vs σ H Q->
  wpAny (model X.prog X.w) X.A (assignInOrder ((C30 ts X.env).map (·.2)) us) (λ_ s'=>∃σ' H',Inv X Ab σ' H' s'/\Q σ' H') X.xe s
abbrev TSet:=V->V->V->Hp->(Hp->Prop)->Prop
def PSet (X:Cx)(t:TSet):Prop:=
 ∀(Ab:Aa2) (s:Shared) (σ:St) (H:Hp) (o i v:V) (ov iv u:Value) (Q:Hp->Prop),Inv X Ab σ H s->RelV o ov->RelV i iv->RelV v u->t o i v H Q->
  wpAny (model X.prog X.w) X.A (setItem ov iv u) (λ_ s'=>∃H',Inv X Ab σ H' s'/\Q H') X.xe s
section
variable{X:Cx}{pos:Pos}
def qV0 (i:Nat):TG:=λv σ H Q=>Q (σ.set i (some v)) H
theorem qBD {i:Nat} {x:Str} (b:X.N.Nodup)(hi:X.N[i]?=some x)(c:Loc X.env.scope x)(a:X.fn x=true\/X.env.scope.names.lookup x=some .local:=by first|exact .inl rfl|exact .inr rfl|assumption):PG X (.Name x pos) (qV0 i):=by
 intro e s σ H v u Q I r h;exact wpAny_assign_Name (qGP I b hi c r (λf d=>⟨_,H,d,h⟩) a)
def gNil:TGs:=λvs σ H Q=>vs=[]/\Q σ H
def qdR (t:TG)(u:TGs):TGs:=λvs σ H Q=>∃v r,vs=v::r/\t v σ H λσ' H'=>u r σ' H' Q
theorem qHX:PGs X [] gNil:=by
 intro b s σ H c a Q I r h;obtain⟨e,h⟩:=h;subst e;cases r;exact assignInOrder_nil ⟨σ,H,I,h⟩
theorem qBV {e:Expr} {es:List Expr} {t:TG} {u:TGs} (b:PG X e t)(c:PGs X es u)
  (d:(C30 (e::es) X.env).map (·.2)=assign e X.env::(C30 es X.env).map (·.2):=by rfl):PGs X (e::es) (qdR t u):=by
 intro a s σ H j i Q I r h;obtain⟨v,g,f,h⟩:=h;subst f;cases r with
 |cons r rr=>
  rw[d];refine assignInOrder_cons (thn (b a s σ H _ _ _ I r h) λ_ s1 ⟨σ1,H1,I1,q1⟩=>?_);exact c a s1 σ1 H1 _ _ Q I1 rr q1
def gTup (K:Ab1)(n:Nat)(t:TGs):TG:=λv σ H Q=>∃a xs,v=.ref a/\SqT K H a xs/\xs.length=n/\t xs σ H Q
theorem qNZ {es:List Expr} {k:Nat} {t:TGs} {n:Nat} (j:X.calm=true)(h:PGs X es t)
  (m:(C30 es X.env).length=n:=by rfl) (c:(C30 es X.env).findIdx? (·.1)=none:=by rfl):PG X (.Tuple es k pos) (gTup X.K n t):=by
 intro f s σ H v u Q I r d;obtain⟨a,i,y,hq,z,d⟩:=d;subst y;cases r;obtain⟨q,g,p,hz⟩:=I.tuple hq;refine assign_Tuple_tuple (I.ok.hd j) p (by simp[m,<- z,g.length]) c λw x=>?_
 have l:Inv X f σ H {s with heap:=w}:=I.kept (t':=s.toks) λb o e=>x b o (E7 (B9 e)) e;exact h f _ σ H i _ Q l (by simpa using g) d
def gSub (to ti:TE)(t:TSet):TG:=λv σ H Q=>to σ H λo H1=>ti σ H1 λi H2=>t o i v H2 λH3=>Q σ H3
theorem qQT {o i:Expr} {b c:TE} {t:TSet} (e:PE X o b)(hi:PE X i c)(d:PSet X t)
  (f:∀ v,assign (.Subscript o i pos) X.env v=(do
   let ov <- C36 [v] (eval o X.env)
   let iv <- C36 [v,ov] (eval i X.env)
   standAt pos
   C36 [v,ov,iv] (setItem ov iv v)
   release [v,ov,iv] []):=by intro _;rfl):PG X (.Subscript o i pos) (gSub b c t):=by
 intro a s σ H v u Q I r h;rw[f];refine B73 (B84 (thn (e a s σ H _ I h) λov s1 ⟨x,H1,I1,r1,q1⟩=>?_));refine B73 (B84 (thn (hi a s1 σ H1 _ I1 q1) λiv s2 ⟨y,H2,I2,r2,q2⟩=>?_));refine B73 (C16 (B73 (B84 (thn (d a s2 σ H2 x y v ov iv u _ I2 r1 r2 r q2) λ_ s3 ⟨H3,I3,q3⟩=>?_))));exact wpAny_release ⟨σ,H3,I3,q3⟩
def tAsg (te:TE)(g:TG):TS:=λD σ H=>te σ H λx H1=>g x σ H1 D.nx
theorem qLO {a e:Expr} {c:TE} {g:TG} (j:PE X e c)(f:PG X a g)(i:swapsWithSole [a] e pos.line X.env=pure false:=by rfl)(k:swappedStores [a] e X.env=pure none:=by rfl)
  (d:(C30 [a] X.env).map (·.2)=[assign a X.env]:=by rfl):PS X (.Assign [a] e pos) (tAsg c g):=by
 intro b s σ H D I h;refine wpAny_Assign_stores (thn (j b s σ H _ I h) λv s1 ⟨x,H1,I1,r1,q1⟩=>?_) i k;rw[d];exact thn (f b s1 σ H1 x v _ I1 r1 q1) λ_ l q=>q
theorem qAE {i:Nat} {x:Str} {e:Expr} {b:TE} {a:Pos} (g:X.N.Nodup)(hi:X.N[i]?=some x)(k:Loc X.env.scope x)(j:PE X e b)(d:swapsWith e (some (.Name x a)) pos.line X.env=pure false:=by rfl)(f:X.fn x=true\/X.env.scope.names.lookup x=some .local:=by first|exact .inl rfl|exact .inr rfl|assumption):
  PS X (.Assign [.Name x a] e pos) (tAsg b (qV0 i)):=by
 intro c s σ H D I h;refine wpAny_Assign_Name (thn (j c s σ H _ I h) λv s1 ⟨y,H1,I1,r1,q1⟩=>?_) d;exact qGP I1 g hi k r1 (λm l=>⟨_,H1,l,q1⟩) f
def qaJ (c:TT)(tb:TS):TS:=λD σ H=>∃W:Nat->St->Hp->Prop,(∃m,W m σ H)/\∀m σ H,W m σ H->
 c σ H λb H1=>if b=true then∃N:St->Hp->Prop,(∀σ' H',N σ' H'->∃m',m'<m/\W m' σ' H')/\tb {D with nx:=N,ct:=N,bk:=D.nx} σ H1 else D.nx σ H1
theorem qQQ {c:Expr} {body:List Stmt} {o:TT} {p:TS} (r:PassesOwn (model X.prog X.w) X.A X.env X.xe)(t:PT X c o)(x:PSs X body p):PS X (.While c body [] pos) (qaJ o p):=by
 intro g s σ H D I h;obtain⟨W,⟨y,z⟩,a⟩:=h;refine wpAny_While (codeAny_whileLoop (λn u=>∃σ' H',Inv X g σ' H' u/\W n σ' H') ?_ y ⟨σ,H,I,z⟩);rintro n s1 ⟨σ1,H1,I1,w1⟩;refine B96 r (thn (t g s1 σ1 H1 _ I1 (a n σ1 H1 w1)) λb s2 ⟨H2,I2,q2⟩=>?_);cases b with
 |true=>
  obtain⟨N,q,q2⟩:=q2;rw[if_pos rfl];refine B96 r (thn (x g s2 σ1 H2 _ I2 q2) λf s3 e=>?_);cases f with
  |next=>
   obtain⟨σ3,d,l,j⟩:=e;obtain⟨i,k,m⟩:=q σ3 d j;exact⟨i,k,σ3,d,l,m⟩
  |cont=>
   obtain⟨σ3,d,l,j⟩:=e;obtain⟨i,k,m⟩:=q σ3 d j;exact⟨i,k,σ3,d,l,m⟩
  |brk=>exact e
  |ret v=>exact e
 |false=>
  rw[if_neg B6];exact C08 ⟨σ1,H2,I2,q2⟩
end
structure It where
 go:Nat->Hp->Prop
 yld:Nat->Hp->V->Hp->Prop
 stop:Nat->Hp->Prop
def FpOk (X:Cx)(Ab:Aa2)(H:Hp)(b:Addr):Prop:=
 H b=none/\b≠X.env.locals/\b∉X.fs/\(b∈X.ex\/X.s₀.heap.objs.size<=b)/\(∀x c,X.env.cells.lookup x=some c->c≠b)/\∀p∈X.pn++Ab,p.1≠b
theorem Inv.fpOk {X:Cx} {Ab:Aa2} {σ:St} {H H':Hp} {s:Shared} {b:Addr} (I:Inv X Ab σ H s)(a:s.heap.objs.size<=b)(f:H' b=none):FpOk X Ab H' b:=by
 refine⟨f,V4 (D9 I.lt a),I.nofs a,.inr (F4 I.sz a),λx c e z=>?_,λp d z=>?_⟩
 ·obtain⟨v,q⟩:=I.cell x c e;exact absurd (D9 q.lt (by rw[z];exact a)) (V1 _)
 ·exact absurd (D9 (B9 (I.pin p d).1) (by rw[z];exact a)) (V1 _)
structure Turn (P:B76)(w:World)(K:Ab1)(tg:Expr)(J:It)(fp:List Addr)(it:Addr)(tn:Nat->Heap->Prop):Prop where
 mem:it∈fp
 obj:∀i h,tn i h->∀b∈fp,∃o,h.get? b=some o/\∀v,o.data≠.cell v
 keep:∀i h h',tn i h->(∀b∈fp,∀o,h.get? b=some o->h'.get? b=some o)->tn i h'
 item:∀(X:Cx),X.prog=P->X.w=w->X.K=K->X.calm=true->∀(i:Nat) (Ab:Aa2) (s:Shared) (σ:St) (H:Hp) (E:Aa1),Inv X Ab σ H s->(∀b∈fp,FpOk X Ab H b)->tn i s.heap->J.go i H->
  wpAny (model P w) X.A (pyNext (.ref it)) (fun r s1=>∃ u,r=some u/\
   wpAny (model P w) X.A (C53 tg (.ref it) u) (λ_ s2=>∃x H',Inv X Ab σ H' s2/\RelV x u/\J.yld i H x H'/\tn (i+1) s2.heap/\∀b∈fp,H' b=none) E s1) E s
 done:∀(X:Cx),X.prog=P->X.w=w->X.K=K->X.calm=true->∀(i:Nat) (Ab:Aa2) (s:Shared) (σ:St) (H:Hp) (E:Aa1),Inv X Ab σ H s->(∀b∈fp,FpOk X Ab H b)->tn i s.heap->J.stop i H->
  wpAny (model P w) X.A (pyNext (.ref it)) (λr s1=>r=none/\Inv X Ab σ H s1) E s
 self:∀(A:Around) (i:Nat) (s:Shared) (Q:Aa1) (E:Aa1),tn i s.heap->Q (.ref it) s->wpAny (model P w) A (pyIter (.ref it)) Q E s
abbrev TI:=St->Hp->(It->Hp->Prop)->Prop
def PIE (X:Cx)(Ab:Aa2)(σ:St)(tg:Expr)(R:It->Hp->Prop)(itv:Value)(s2:Shared):Prop:=
 ∃(it:Addr) (fp:List Addr) (tn:Nat->Heap->Prop) (J:It) (H':Hp),itv=.ref it/\Inv X Ab σ H' s2/\Turn X.prog X.w X.K tg J fp it tn/\tn 0 s2.heap/\(∀b∈fp,FpOk X Ab H' b)/\R J H'
def PI (X:Cx)(tg iter:Expr)(wi:TI):Prop:=
 ∀(Ab:Aa2) (s:Shared) (σ:St) (H:Hp) (R:It->Hp->Prop),Inv X Ab σ H s->wi σ H R->
  wpAny (model X.prog X.w) X.A (eval iter X.env) (λv s1=>wpAny (model X.prog X.w) X.A (pyIter v) (PIE X Ab σ tg R) X.xe s1) X.xe s
theorem qX8 {M:Model} {s:Shared} {b:Expr} {c:Addr} {u:Value} {o:Obj} {n:String} {vs:Array Value} {Q:Unit->Shared->Prop} (g:s.heap.get? c=some o)(d:o.cls=.type n)(f:o.data=.fields vs)
  (e:["enumerate","zip","dict_itemiterator","dict_reverseitemiterator","odict_iterator","itertools.zip_longest","itertools.pairwise"].contains n=false) (a:Q () s):wpAny M A (C53 b (.ref c) u) Q E s:=by
 unfold C53;cases b<;>first
  |exact B74 a
  | (cases u <;> first
    |exact B74 a
    | (refine B73 (wpAny_load g ?_)
       rw[d,f];show wpAny M A (if(["enumerate","zip","dict_itemiterator","dict_reverseitemiterator","odict_iterator","itertools.zip_longest","itertools.pairwise"].contains n&&vs[0]? == some (rawInt _))=true then _ else _) Q E s
       rw[if_neg (by intro h;rw[e,O9] at h;cases h)]
       exact B74 a))
def Itl (K:Ab1)(a:Addr):It:=
 ⟨λi H=>∃xs x,SqL K H a xs/\xs[i]?=some x,λi H x H'=>H'=H/\∀xs,SqL K H a xs->xs[i]?=some x,λi H=>∃xs,SqL K H a xs/\xs.length<=i⟩
def Itt (K:Ab1)(a:Addr):It:=
 ⟨λi H=>∃xs x,SqT K H a xs/\xs[i]?=some x,λi H x H'=>H'=H/\∀xs,SqT K H a xs->xs[i]?=some x,λi H=>∃xs,SqT K H a xs/\xs.length<=i⟩
def Itr (lo:Int)(n:Nat):It:=⟨λi _=>i<n,λi H x H'=>H'=H/\x=.int (lo+i),λi _=>n<=i⟩
theorem qT1 {K:Ab1} {tg:Expr} (a j:Addr):Turn P w K tg (Itl K a) [j] j (λi h=>h.IsListIter j a i) where
 mem:=by simp
 obj:=λi h f b g=>by
  have e:b=j:=by simpa using g
  subst e;obtain⟨o,e,c,d⟩:=f;exact⟨o,e,λv z=>by rw[d] at z;cases z⟩
 keep:=λi h m f k=>f.at λo e=>k j (by simp) o e
 item:=by
  intro X r hw hK hc i Ab s σ H E I q f hg;subst r hw hK;obtain⟨xs,x,n,hx⟩:=hg;obtain⟨a0,rv,p,hz⟩:=I.list n;obtain⟨u,hu,ru⟩:=rv.get hx;obtain⟨f0,f1,f2,y,f4,t⟩:=q j (by simp)
  refine C46 f p.isList (x:=u) (by simpa using hu) λm l sb=>?_
  have I1:Inv X Ab σ H {s with heap:=m}:=I.turned (t':=s.toks) (λb o g e=>(sb.2 b g).trans e) f0 f1 y f4 t;obtain⟨o,e,c,d⟩:=id l;exact⟨u,rfl,qX8 (s:={s with heap:=m}) e c d (by decide) ⟨x,H,I1,ru,⟨rfl,λys hy=>by rw[I.list_inj hy n];exact hx⟩,l,λb g=>(q b g).1⟩⟩
 done:=by
  intro X r hw hK hc i Ab s σ H E I q f hg;subst r hw hK;obtain⟨xs,n,hx⟩:=hg;obtain⟨a0,rv,p,hz⟩:=I.list n;obtain⟨f0,f1,f2,y,f4,t⟩:=q j (by simp)
  have hl:=rv.length;exact C51 (I.ok.hd hc) f p.isList (by simp;lia) λm eb=>⟨rfl,I.turned (t':=s.toks) (λb o g e=>eb b o g e) f0 f1 y f4 t⟩
 self:=λ_ _ _ _ _ f h=>wpAny_pyIter_listiter f h
theorem qRV {K:Ab1} {tg:Expr} (a l:Addr):Turn P w K tg (Itt K a) [l] l (λi h=>h.IsTupleIter l a i) where
 mem:=by simp
 obj:=λi h f b j=>by
  have e:b=l:=by simpa using j
  subst e;obtain⟨o,e,c,d⟩:=f;exact⟨o,e,λv z=>by rw[d] at z;cases z⟩
 keep:=λi h n f k=>f.at λo e=>k l (by simp) o e
 item:=by
  intro X t hw hK hc i Ab s σ H E I r f hg;subst t hw hK;obtain⟨xs,x,q,hx⟩:=hg;obtain⟨g,rv,p,hz⟩:=I.tuple q;obtain⟨u,hu,ru⟩:=rv.get hx;obtain⟨f0,f1,f2,f3,f4,y⟩:=r l (by simp)
  refine wpAny_pyNext_tuple_item f (show s.heap.IsTuple a g.toArray from p) (x:=u) (by simpa using hu) λn m sb=>?_
  have I1:Inv X Ab σ H {s with heap:=n}:=I.turned (t':=s.toks) (λb o j e=>(sb.2 b j).trans e) f0 f1 f3 f4 y;obtain⟨o,e,c,d⟩:=id m;exact⟨u,rfl,qX8 (s:={s with heap:=n}) e c d (by decide) ⟨x,H,I1,ru,⟨rfl,λys hy=>by rw[I.tuple_inj hy q];exact hx⟩,m,λb j=>(r b j).1⟩⟩
 done:=by
  intro X t hw hK hc i Ab s σ H E I r f hg;subst t hw hK;obtain⟨xs,q,hx⟩:=hg;obtain⟨g,rv,p,hz⟩:=I.tuple q;obtain⟨f0,f1,f2,f3,f4,y⟩:=r l (by simp)
  have hl:=rv.length;exact wpAny_pyNext_tuple_end (I.ok.hd hc) f (show s.heap.IsTuple a g.toArray from p) (by simp;lia) λn eb=>⟨rfl,I.turned (t':=s.toks) (λb o j e=>eb b o j e) f0 f1 f3 f4 y⟩
 self:=λ_ _ _ _ _ f h=>wpAny_pyIter_tupleiter f h
theorem qRW {K:Ab1} {tg:Expr} (c:Addr)(lo:Int)(n:Nat):Turn P w K tg (Itr lo n) [c] c (λi h=>IsRangeIter h c (lo+(i:Nat)*1) ((n:Int)-(i:Nat)) 1) where
 mem:=by simp
 obj:=λi h a b d=>by
  have e:b=c:=by simpa using d
  subst e;exact⟨_,a,λv z=>by
   have z':B35 _=A84 v:=z;cases z'⟩
 keep:=λi h g a k=>k c (by simp) _ a
 item:=by
  intro X m u x l i Ab s σ H E I j a hg;subst m u x;obtain⟨y,r,f2,q,f4,p⟩:=j c (by simp)
  have W:=Walks.range (prog:=X.prog) (w:=X.w) (I.ok.hd l) c lo 1 n;refine W.item i s _ _ hg a λv g tk hv f kk=>?_;obtain⟨t,rfl⟩:=hv;have I1:Inv X Ab σ H {s with heap:=g,toks:=tk}:=I.turned (λb o d e=>kk b o (by simpa using d) e) y r q f4 p
  refine xR rfl (qX8 (s:={s with heap:=g,toks:=tk}) (n:="range_iterator") f rfl rfl (by decide) ⟨.int (lo+i),H,I1,⟨t,?_⟩,⟨rfl,rfl⟩,f,λb d=>(j b d).1⟩)
  rw[Int.mul_one]
 done:=by
  intro X m u x l i Ab s σ H E I j a hg;subst m u x;obtain⟨y,r,f2,q,f4,p⟩:=j c (by simp)
  exact wpAny_pyNext_range_end (I.ok.hd l) a (by have:n<=i:=hg;lia) λg eb=>⟨rfl,I.turned (t':=s.toks) (λb o d e=>eb b o d e) y r q f4 p⟩
 self:=λ_ _ _ _ _ a h=>wpAny_pyIter_rangeiter a h
section
variable{X:Cx}{tg:Expr}
def qdP (K:Ab1)(tl:TE):TI:=λσ H R=>tl σ H λx H1=>∃a,x=.ref a/\(∃xs,SqL K H1 a xs)/\R (Itl K a) H1
def iTup (K:Ab1)(tl:TE):TI:=λσ H R=>tl σ H λx H1=>∃a,x=.ref a/\(∃xs,SqT K H1 a xs)/\R (Itt K a) H1
theorem qBW {l:Expr} {c:TE} (i:PE X l c):PI X tg l (qdP X.K c):=by
 intro f s σ H R I h;refine thn (i f s σ H _ I h) λv s1 ⟨x,H1,I1,r1,q1⟩=>?_;obtain⟨a,e,⟨k,j⟩,q⟩:=q1;subst e;cases r1;obtain⟨g,m,p,n⟩:=I1.list j;refine C17 p.isList ?_;refine⟨s1.heap.objs.size,[s1.heap.objs.size],_,_,H1,rfl,I1.kept (t':=s1.toks) λb o e=>A1 _ e,qT1 a _,⟨_,B8 _ rfl,rfl,rfl⟩,λb d=>?_,q⟩;have e:b=s1.heap.objs.size:=by simpa using d
 subst e;exact I1.fpOk (B4 _) (I1.hok.fresh (B4 _))
theorem qNY {l:Expr} {d:TE} (i:PE X l d):PI X tg l (iTup X.K d):=by
 intro g s σ H R I h;refine thn (i g s σ H _ I h) λv s1 ⟨x,H1,I1,r1,q1⟩=>?_;obtain⟨a,e,⟨k,j⟩,q⟩:=q1;subst e;cases r1;obtain⟨c,m,p,n⟩:=I1.tuple j;refine wpAny_pyIter_tuple (show s1.heap.IsTuple a c.toArray from p) ?_;refine⟨s1.heap.objs.size,[s1.heap.objs.size],_,_,H1,rfl,I1.kept (t':=s1.toks) λb o e=>A1 _ e,qRV a _,⟨_,B8 _ rfl,rfl,rfl⟩,λb f=>?_,q⟩;have e:b=s1.heap.objs.size:=by simpa using f
 subst e;exact I1.fpOk (B4 _) (I1.hok.fresh (B4 _))
theorem range_it {Ab:Aa2} {σ:St} {H:Hp} {R:It->Hp->Prop} {lo hi:Int} {t u v:Tok} {tk:Nat} (I:Inv X Ab σ H s)(c : -(2^62)<=lo)(g:lo<2^62)(h : -(2^62)<=hi)(d:hi<2^62)
  (q:R (Itr lo (hi-lo).toNat) H):wpAny (model X.prog X.w) X.A (pyIter (.ref s.heap.objs.size)) (PIE X Ab σ tg R) E {s with heap:=s.heap.push {cls:=.type "range",data:=.fields #[.int lo t,.int hi u,.int 1 v]},toks:=tk}:=by
 refine wpAny_pyIter_range (IsRange.new ..) (small_one c g h d) ?_;have a:Inv X Ab σ H {s with heap:=s.heap.push {cls:=.type "range",data:=.fields #[.int lo t,.int hi u,.int 1 v]},toks:=tk}:=I.kept λb o e=>A1 _ e;refine⟨(s.heap.push {cls:=.type "range",data:=.fields #[.int lo t,.int hi u,.int 1 v]}).objs.size,[(s.heap.push {cls:=.type "range",data:=.fields #[.int lo t,.int hi u,.int 1 v]}).objs.size],_,_,H,rfl,
  a.kept (t':=tk) λb o e=>A1 _ e,qRW _ lo (hi-lo).toNat,?_,λb f=>?_,q⟩
 ·have i:lo+((0:Nat):Int)*1=lo:=by simp
  have j:(((hi-lo).toNat:Nat):Int)-((0:Nat):Int)=Z0 lo hi 1:=by rw[rangeSize_one];split<;>lia
  show IsRangeIter _ _ (lo+((0:Nat):Int)*1) ((((hi-lo).toNat:Nat):Int)-((0:Nat):Int)) 1;rw[i,j];exact B8 _ rfl
 ·have e:b=(s.heap.push {cls:=.type "range",data:=.fields #[.int lo t,.int hi u,.int 1 v]}).objs.size:=by simpa using f
  subst e;exact a.fpOk (B4 _) (a.hok.fresh (B4 _))
def qdO (ta:TA):TI:=λσ H R=>ta σ H λvs H1=>∃j:Int,vs=[.int j]/\-(2^62)<=j/\j<2^62/\R (Itr 0 j.toNat) H1
theorem qBE {a:Expr} {b:TA} {p pos:Pos} (c:Gl X "range") (d:X.mg "range" = none) (k:PA X [a] b) (g:B85 [a] X.env=[(false,eval a X.env)]:=by rfl):PI X tg (.Call (.Name "range" p) [a] [] pos) (qdO b):=by
 intro f s σ H R I h;refine Call_ (qIG I c d boot_range (V9 (thn (k pos f s σ H _ I h) λus s1 ⟨vs,H1,I1,r1,q1⟩=>?_) g rfl));obtain⟨j,e,q1,i,q⟩:=q1;subst e;cases r1 with
 |cons r rr=>
  cases rr;obtain⟨t,rfl⟩:=r;exact call_range_1 (range_it I1 (by lia) (by lia) q1 i (by simpa using q))
def tFor (wi:TI)(g:TG)(tb:TS):TS:=λD σ H=>wi σ H λJ H1=>∃W:Nat->Nat->St->Hp->Prop,(∃m,W 0 m σ H1)/\∀i m σ H,W i m σ H->
 (J.stop i H/\D.nx σ H)\/(J.go i H/\∃N:St->Hp->Prop,(∀σ' H',N σ' H'->∃m',m'<m/\W (i+1) m' σ' H')/\∀x H',J.yld i H x H'->g x σ H' λσ2 H2=>tb {D with nx:=N,ct:=N,bk:=D.nx} σ2 H2)
noncomputable def qLP (fp:List Addr)(h:Heap):Aa2:=fp.filterMap λb=>(h.get? b).map λo=>(b,o)
theorem qDG {a:List Addr} {h:Heap} {b:Addr} {o:Obj} (c:b∈a)(e:h.get? b=some o):(b,o)∈qLP a h:=k7.mpr ⟨b,c,by rw[e];rfl⟩
theorem qU6 {a:List Addr} {h:Heap} {p:Addr×Obj} (c:p∈qLP a h):p.1∈a/\h.get? p.1=some p.2:=by
 obtain⟨b,f,e⟩:=k7.mp c;cases q:h.get? b with
 |none=>rw[q] at e;cases e
 |some o=>
  rw[q] at e;have d:(b,o)=p:=D7 e;subst d;exact⟨f,q⟩
theorem Inv.pinned {Ab:Aa2} {σ:St} {H:Hp} {s:Shared} {a:List Addr} (I:Inv X Ab σ H s)(i:∀b∈a,FpOk X Ab H b)(l:∀b∈a,∃o,s.heap.get? b=some o/\∀v,o.data≠.cell v):Inv X (Ab++qLP a s.heap) σ H s:=
 I.pins_of λp j=>(B7.mp j).elim (λz=>I.pin p (F7 _ z)) λz=>by
  obtain⟨c,e⟩:=qU6 z;obtain⟨k,g,h,_⟩:=i p.1 c;obtain⟨o,f,d⟩:=l p.1 c;rw[e] at f;cases f;exact⟨e,k,g,h,d⟩
theorem Inv.unpinned {Ab b:Aa2} {σ:St} {H:Hp} (I:Inv X (Ab++b) σ H s):Inv X Ab σ H s:=I.pins_of λp a=>I.pin p (F7 _ (w5 _ a))
theorem qDM {l:Expr} {body:List Stmt} {wi:TI} {g:TG} {tb:TS} {pos:Pos} (hp:PassesOwn (model X.prog X.w) X.A X.env X.xe)(hc:X.calm=true)(hi:PI X tg l wi)(hg:PG X tg g)(a:PSs X body tb)
  (hs:∀x,C27 l X.env x=pure x:=by intro _;rfl):PS X (.For tg l body [] pos) (tFor wi g tb):=by
 intro q s σ H D I h;refine wpAny_For (thn (hi q s σ H _ I h) λv s1 h1=>thn h1 λa3 s2 h2=>?_) hs;obtain⟨it,z,tn,J,H2,e,I2,T,a2,f2,W,⟨m0,w0⟩,t⟩:=h2;subst e
 -- what stays true of the iterator's objects through the loop
 have c:∀{H':Hp},(∀b∈z,H' b=none)->∀b∈z,FpOk X q H' b:=λhn b a=>⟨hn b a,(f2 b a).2⟩;refine codeAny_forLoop_any (λn s'=>∃i σ' H',Inv X q σ' H' s'/\tn i s'.heap/\(∀b∈z,H' b=none)/\W i n σ' H') ?_ m0 ⟨0,σ,H2,I2,a2,λb a=>(f2 b a).1,w0⟩;rintro n s3 ⟨i,σ3,H3,I3,st3,fr3,w3⟩;rcases t i n σ3 H3 w3 with⟨a0,qn⟩|⟨go,N,hN,y⟩
 ·refine B96 hp (thn (T.done X rfl rfl rfl hc i q s3 σ3 H3 X.xe I3 (c fr3) st3 a0) λr s4 ⟨hr,I4⟩=>?_);subst hr;exact C08 ⟨σ3,H3,I4,qn⟩
 ·refine B96 hp (thn (T.item X rfl rfl rfl hc i q s3 σ3 H3 X.xe I3 (c fr3) st3 go) λr s4 ⟨u,hr,h4⟩=>?_);subst hr;refine B96 hp (thn h4 λ_ s5 ⟨x,H5,I5,r5,y5,st5,fr5⟩=>?_);have a1:=I5.pinned (c fr5) (T.obj _ _ st5);refine B96 hp (thn (hg _ s5 σ3 H5 x u _ a1 r5 (y x H5 y5)) λ_ s6 ⟨σ6,H6,I6,q6⟩=>?_);refine B96 hp (thn (a _ s6 σ6 H6 _ I6 q6) λf s7 p=>?_);have j:∀{σ7:St} {H7:Hp},Inv X (q++qLP z s5.heap) σ7 H7 s7->N σ7 H7->∃m,m<n/\∃i σ' H',Inv X q σ' H' s7/\tn i s7.heap/\(∀b∈z,H' b=none)/\W i m σ' H':=λ{σ7 H7} k n7=>by
   obtain⟨m',hm,w7⟩:=hN σ7 H7 n7;refine⟨m',hm,i+1,σ7,H7,k.unpinned,T.keep _ _ _ st5 λb a o e=>(k.pin (b,o) (F7 _ (F7 _ (qDG a e)))).1,λb a=>?_,w7⟩;obtain⟨o,e,d⟩:=T.obj _ _ st5 b a;exact(k.pin (b,o) (F7 _ (F7 _ (qDG a e)))).2.1
  cases f with
  |next=>obtain⟨σ7,H7,k,n7⟩:=p;exact j k n7
  |cont=>obtain⟨σ7,H7,k,n7⟩:=p;exact j k n7
  |brk=>obtain⟨σ7,H7,k,p⟩:=p;exact⟨σ7,H7,k.unpinned,p⟩
  |ret v=>obtain⟨x7,σ7,H7,k,r7,p⟩:=p;exact⟨x7,σ7,H7,k.unpinned,r7,p⟩
end
abbrev ForG (I:It)(g:TG)(tb:TS)(D:Ends)(σ:St)(H:Hp):Prop:=∃W:Nat->Nat->St->Hp->Prop,(∃m,W 0 m σ H)/\∀i m σ H,W i m σ H->(I.stop i H/\D.nx σ H)\/(I.go i H/\∃N:St->Hp->Prop,(∀σ' H',N σ' H'->∃m',m'<m/\W (i+1) m' σ' H')/\∀x H',I.yld i H x H'->g x σ H' λσ2 H2=>tb {D with nx:=N,ct:=N,bk:=D.nx} σ2 H2)
theorem qFZ {K:Ab1} {a:Addr} {xs:List V} {g:TG} {c:TS} {D:Ends} {σ:St} {H:Hp} (Pv:Nat->St->Hp->Prop)(l:Pv 0 σ H)(k:∀i σ H,i<=xs.length->Pv i σ H->SqL K H a xs)
  (h:∀i x σ H,xs[i]?=some x->Pv i σ H->g x σ H λσ2 H2=>c {D with nx:=Pv (i+1),ct:=Pv (i+1),bk:=D.nx} σ2 H2) (f:∀σ H,Pv xs.length σ H->D.nx σ H):
  ForG (Itl K a) g c D σ H:=by
 refine⟨λi m σ H=>m=xs.length-i/\i<=xs.length/\Pv i σ H,⟨xs.length,by simp,J5 _,l⟩,?_⟩
 rintro i m σ H ⟨rfl,hi,p⟩;have q:=k i σ H hi p;by_cases b:i<xs.length
 ·refine .inr ⟨⟨xs,xs[i],q,by simp[b]⟩,Pv (i+1),λσ' j d=>⟨xs.length-(i+1),by lia,rfl,b,d⟩,λx j y=>?_⟩
  obtain⟨e,y⟩:=y;subst e;exact h i x σ _ (y xs q) p
 ·have e:i=xs.length:=by lia
  subst e;exact .inl ⟨⟨xs,q,B4 _⟩,f σ H p⟩
theorem qDS {lo:Int} {n:Nat} {g:TG} {b:TS} {D:Ends} {σ:St} {H:Hp} (Pv:Nat->St->Hp->Prop)(j:Pv 0 σ H)
  (f:∀i σ H,i<n->Pv i σ H->g (.int (lo+i)) σ H λσ2 H2=>b {D with nx:=Pv (i+1),ct:=Pv (i+1),bk:=D.nx} σ2 H2) (d:∀σ H,Pv n σ H->D.nx σ H):
  ForG (Itr lo n) g b D σ H:=by
 refine⟨λi m σ H=>m=n-i/\i<=n/\Pv i σ H,⟨n,by simp,J5 _,j⟩,?_⟩
 rintro i m σ H ⟨rfl,hi,p⟩;by_cases a:i<n
 ·refine .inr ⟨a,Pv (i+1),λσ' h c=>⟨n-(i+1),by lia,rfl,a,c⟩,λx h y=>?_⟩
  obtain⟨e,y⟩:=y;subst e y;exact f i σ _ a p
 ·have e:i=n:=by lia
  subst e;exact .inl ⟨B4 _,d σ H p⟩
abbrev R2:=V->V->Hp->VK->Prop
def OpR (X:Cx)(f:Value->Value->Sem Value)(r:R2):Prop:=
 ∀(Ab:Aa2) (s:Shared) (σ:St) (H:Hp) (x y:V) (v u:Value) (Q:VK),Inv X Ab σ H s->RelV x v->RelV y u->r x y H Q->
  wpAny (model X.prog X.w) X.A (f v u) (EP X Ab σ Q) X.xe s
def UnR (X:Cx)(f:Value->Sem Value)(r:V->Hp->VK->Prop):Prop:=
 ∀(Ab:Aa2) (s:Shared) (σ:St) (H:Hp) (x:V) (v:Value) (Q:VK),Inv X Ab σ H s->RelV x v->r x H Q->
  wpAny (model X.prog X.w) X.A (f v) (EP X Ab σ Q) X.xe s
def qDX (X:Cx)(f:Value)(r:List V->Hp->VK->Prop):Prop:=
 ∀(Ab:Aa2) (s:Shared) (σ:St) (H:Hp) (xs:List V) (us:List Value) (Q:VK),Inv X Ab σ H s->Vals xs us->r xs H Q->
  wpAny (model X.prog X.w) X.A (call f us) (EP X Ab σ Q) X.xe s
def TruR (X:Cx)(r:V->Hp->(Bool->Hp->Prop)->Prop):Prop:=
 ∀(Ab:Aa2) (s:Shared) (σ:St) (H:Hp) (x:V) (v:Value) (Q:Bool->Hp->Prop),Inv X Ab σ H s->RelV x v->r x H Q->
  wpAny (model X.prog X.w) X.A (truthy v) (TP X Ab σ Q) X.xe s
def tOp (r:R2)(ta tb:TE):TE:=λσ H Q=>ta σ H λx H1=>tb σ H1 λy H2=>r x y H2 Q
def tUn (r:V->Hp->VK->Prop)(ta:TE):TE:=λσ H Q=>ta σ H λx H1=>r x H1 Q
def rI (C:Int->Int->Prop)(g:Int->Int->V):R2:=λx y H Q=>∃i j,x=.int i/\y=.int j/\C i j/\Q (g i j) H
def rI0 (g:Int->Int->V):R2:=λx y H Q=>∃i j,x=.int i/\y=.int j/\Q (g i j) H
def rU (g:Int->V):V->Hp->VK->Prop:=λx H Q=>∃i,x=.int i/\Q (g i) H
section
variable{X:Cx}{a b c:Expr}{ta tb tc:TE}{pos:Pos}
theorem binT (e:PE X a ta)(d:PE X b tb){Ab:Aa2}{s:Shared}{σ:St}{H:Hp}{R:V->V->Hp->Prop}(I:Inv X Ab σ H s)
  (h:ta σ H λx H1=>tb σ H1 λy H2=>R x y H2) {Q:Aa1} {f:Value->Value->Sem Value}
  (c:∀v u s2 x y H2,Inv X Ab σ H2 s2->RelV x v->RelV y u->R x y H2->wpAny (model X.prog X.w) X.A (f v u) Q X.xe s2):
  wpAny (model X.prog X.w) X.A (eval a X.env) (λv s₁=>wpAny (model X.prog X.w) X.A (eval b X.env) (λu s₂=>wpAny (model X.prog X.w) X.A (f v u) Q X.xe s₂) X.xe s₁) X.xe s:=by
 refine thn (e Ab s σ H _ I h) λv s1 ⟨x,H1,I1,r1,q1⟩=>?_;refine thn (d Ab s1 σ H1 _ I1 q1) λu s2 ⟨y,H2,I2,r2,q2⟩=>?_;exact c v u s2 x y H2 I2 r1 r2 q2
theorem qAO {op:Operator} {r:R2} (j:OpR X (C13 op) r)(l:PE X a ta)(e:PE X b tb):PE X (.BinOp a op b pos) (tOp r ta tb):=by
 intro g s σ H Q I h;exact wpAny_BinOp (binT l e I h λv u i x y c k f d q=>j g i σ c x y v u Q k f d q)
theorem qTV {op:UnaryOp} {r:V->Hp->VK->Prop} (c:UnR X (unaryOp op) r)(d:PE X a ta):PE X (.UnaryOp op a pos) (tUn r ta):=by
 intro b s σ H Q I h;exact UnaryOp_ (thn (d b s σ H _ I h) λv s1 ⟨x,H1,I1,r1,q1⟩=>c b s1 σ H1 x v Q I1 r1 q1)
theorem opI {f:Value->Value->Sem Value} {C:Int->Int->Prop} {g:Int->Int->Int} 
  (a:∀(i j:Int) (t u:Tok) (s:Shared) (Q:Aa1) (E:Aa1),C i j->Q (.int (g i j) s.toks) {s with toks:=s.toks+1}->wpAny (model X.prog X.w) X.A (f (.int i t) (.int j u)) Q E s):
  OpR X f (rI C λi j=>.int (g i j)):=by
 intro k s σ H x y v u Q I d b h;obtain⟨i,j,rfl,rfl,c,q⟩:=h;obtain⟨t,rfl⟩:=d;obtain⟨e,rfl⟩:=b;exact a i j t e s _ _ c ⟨.int (g i j),H,I.tok _,⟨_,rfl⟩,q⟩
theorem opI0 {f:Value->Value->Sem Value} {g:Int->Int->Int} 
  (a:∀(i j:Int) (t u:Tok) (s:Shared) (Q:Aa1) (E:Aa1),Q (.int (g i j) s.toks) {s with toks:=s.toks+1}->wpAny (model X.prog X.w) X.A (f (.int i t) (.int j u)) Q E s):
  OpR X f (rI0 λi j=>.int (g i j)):=by
 intro e s σ H x y v u Q I c b h;obtain⟨i,j,rfl,rfl,q⟩:=h;obtain⟨t,rfl⟩:=c;obtain⟨d,rfl⟩:=b;exact a i j t d s _ _ ⟨.int (g i j),H,I.tok _,⟨_,rfl⟩,q⟩
theorem opB0 {f:Value->Value->Sem Value} {g:Int->Int->Bool} 
  (a:∀(i j:Int) (t u:Tok) (s:Shared) (Q:Aa1) (E:Aa1),Q (.bool (g i j)) s->wpAny (model X.prog X.w) X.A (f (.int i t) (.int j u)) Q E s):
  OpR X f (rI0 λi j=>.bl (g i j)):=by
 intro e s σ H x y v u Q I c b h;obtain⟨i,j,rfl,rfl,q⟩:=h;obtain⟨t,rfl⟩:=c;obtain⟨d,rfl⟩:=b;exact a i j t d s _ _ ⟨.bl (g i j),H,I,rfl,q⟩
def CDiv (i j:Int):Prop:=0<j/\j<1073741824
def CPow (i j:Int):Prop:=0<=j/\j<=1000000/\i.natAbs<2^64
def CMul (i j:Int):Prop:=(-(2^64)<i/\i<2^64)\/(-(2^64)<j/\j<2^64)
theorem CMul.ok {i j:Int} (h:CMul i j):IntMulOk i j:=by
 rcases h with⟨b,a⟩|⟨b,a⟩
 ·exact .of_left (intBits_le_64 b a)
 ·exact .of_right (intBits_le_64 b a)
theorem qBT:OpR X (C13 .Add) (rI0 λi j=>.int (i+j)):=opI0 λ_ _ _ _ _ _ _ q=>add_int q
theorem qDO:OpR X (C13 .Sub) (rI0 λi j=>.int (i-j)):=opI0 λ_ _ _ _ _ _ _ q=>sub_int q
theorem qLQ:OpR X (C13 .Mult) (rI CMul λi j=>.int (i*j)):=opI λ_ _ _ _ _ _ _ a q=>mul_int q a.ok
theorem qML:OpR X (C13 .FloorDiv) (rI CDiv λi j=>.int (i/j)):=opI λi j _ _ _ _ _ a q=>by
 have c:(0:Int)<j:=a.1;have b:j<1073741824:=a.2;exact floordiv_int (by lia) (by rw[A10 i (by lia)];exact q) (.inl (A45 (by lia)))
theorem qJO:OpR X (C13 .Mod) (rI (λ_ j=>0<j) λi j=>.int (i%j)):=opI λi j _ _ _ _ _ a q=>by
 have b:(0:Int)<j:=a;exact mod_int' (by lia) (by rw[A11 i (by lia)];exact q)
theorem qb9:OpR X (C13 .Pow) (rI CPow λi j=>.int (i^j.toNat)):=opI λ_ _ _ _ _ _ _ a q=>pow_int_small a.1 a.2.1 a.2.2 q
theorem unI {f:Value->Sem Value} {g:Int->Int} 
  (a:∀(i:Int) (t:Tok) (s:Shared) (Q:Aa1) (E:Aa1),Q (.int (g i) s.toks) {s with toks:=s.toks+1}->wpAny (model X.prog X.w) X.A (f (.int i t)) Q E s):
  UnR X f (rU λi=>.int (g i)):=by
 intro c s σ H x v Q I b h;obtain⟨i,rfl,q⟩:=h;obtain⟨t,rfl⟩:=b;exact a i t s _ _ ⟨.int (g i),H,I.tok _,⟨_,rfl⟩,q⟩
theorem qNN:UnR X (unaryOp .USub) (rU λi=>.int (-i)):=unI λ_ _ _ _ _ q=>neg_int q
end
noncomputable def scal:V->V->Bool
 |.non,.non=>true|.non,.int _=>true|.int _,.non=>true|.non,.bl _=>true|.bl _,.non=>true|.non,.str _=>true|.str _,.non=>true
 |.int _,.int _=>true|.bl _,.bl _=>true|.str _,.str _=>true|.byt _,.byt _=>true
 |.int _,.str _=>true|.str _,.int _=>true|.bl _,.str _=>true|.str _,.bl _=>true
 |_,_=>false
def rEq:R2:=λx y H Q=>scal x y=true/\Q (.bl (decide (x=y))) H
def rNe:R2:=λx y H Q=>scal x y=true/\Q (.bl (!decide (x=y))) H
theorem qQ3 {i j:Int} :decide (V.int i=V.int j)=(i==j):=by
 rw[R4];simp
theorem qY7 {i j:Bool} :decide (V.bl i=V.bl j)=(i==j):=by
 rw[R4];simp
theorem qQ2 {i j:Str} :decide (V.str i=V.str j)=(i==j):=by
 rw[R4];simp
theorem qVE {i j:Array UInt8} :decide (V.byt i=V.byt j)=(i.toList==j.toList):=by
 rw[R4];cases i;cases j;simp
section
variable{X:Cx}{a b c:Expr}{ta tb tc:TE}{pos:Pos}
theorem qBJ {Ab:Aa2} {σ:St} {H:Hp} {Q:VK} {k a:Bool} (I:Inv X Ab σ H s)(q:Q (.bl k) H)(e:k=a):EP X Ab σ Q (.bool a) s:=by
 subst e;exact⟨.bl k,H,I,rfl,q⟩
theorem qCL:OpR X (B94 .Eq) rEq:=by
 intro e s σ H x y v u Q I d a h;obtain⟨c,q⟩:=h;cases x with
 |non=>
  cases d;cases y with
  |non=>cases a;exact PySem.EqNone.eq_none_none (qBJ I q (by simp))
  |bl j=>cases a;exact PySem.EqNone.eq_none_bool (qBJ I q (by simp))
  |int j=>obtain⟨b,rfl⟩:=a;exact PySem.EqNone.eq_none_int (qBJ I q (by simp))
  |str j=>obtain⟨b,rfl⟩:=a;exact PySem.EqNone.eq_none_str (qBJ I q (by simp))
  |_=>exact absurd (show false=true from c) B6
 |bl i=>
  cases d;cases y with
  |non=>cases a;exact PySem.EqNone.eq_bool_none (qBJ I q (by simp))
  |bl j=>cases a;exact eq_bool (qBJ I q qY7)
  |str j=>obtain⟨b,rfl⟩:=a;exact PySem.EqMixed.eq_bool_str (qBJ I q (by simp))
  |_=>exact absurd (show false=true from c) B6
 |int i=>
  obtain⟨t,rfl⟩:=d;cases y with
  |non=>cases a;exact PySem.EqNone.eq_int_none (qBJ I q (by simp))
  |int j=>obtain⟨b,rfl⟩:=a;exact eq_int (qBJ I q qQ3)
  |str j=>obtain⟨b,rfl⟩:=a;exact PySem.EqMixed.eq_int_str (qBJ I q (by simp))
  |_=>exact absurd (show false=true from c) B6
 |str i=>
  obtain⟨t,rfl⟩:=d;cases y with
  |non=>cases a;exact PySem.EqNone.eq_str_none (qBJ I q (by simp))
  |bl j=>cases a;exact PySem.EqMixed.eq_str_bool (qBJ I q (by simp))
  |int j=>obtain⟨b,rfl⟩:=a;exact PySem.EqMixed.eq_str_int (qBJ I q (by simp))
  |str j=>obtain⟨b,rfl⟩:=a;exact eq_str (qBJ I q qQ2)
  |_=>exact absurd (show false=true from c) B6
 |byt i=>
  obtain⟨t,rfl⟩:=d;cases y with
  |byt j=>obtain⟨b,rfl⟩:=a;exact PySem.W.eq_bytes (qBJ I q qVE)
  |_=>exact absurd (show false=true from c) B6
 |_=>cases y<;>exact absurd (show false=true from c) B6
theorem qMK:OpR X (B94 .NotEq) rNe:=by
 intro e s σ H x y v u Q I d a h;obtain⟨c,q⟩:=h;cases x with
 |non=>
  cases d;cases y with
  |non=>cases a;exact PySem.EqNone.ne_none_none (qBJ I q (by simp))
  |bl j=>cases a;exact PySem.EqNone.ne_none_bool (qBJ I q (by simp))
  |int j=>obtain⟨b,rfl⟩:=a;exact PySem.EqNone.ne_none_int (qBJ I q (by simp))
  |str j=>obtain⟨b,rfl⟩:=a;exact PySem.EqNone.ne_none_str (qBJ I q (by simp))
  |_=>exact absurd (show false=true from c) B6
 |bl i=>
  cases d;cases y with
  |non=>cases a;exact PySem.EqNone.ne_bool_none (qBJ I q (by simp))
  |bl j=>cases a;exact ne_bool (qBJ I q (congrArg not qY7))
  |str j=>obtain⟨b,rfl⟩:=a;exact PySem.EqMixed.ne_bool_str (qBJ I q (by simp))
  |_=>exact absurd (show false=true from c) B6
 |int i=>
  obtain⟨t,rfl⟩:=d;cases y with
  |non=>cases a;exact PySem.EqNone.ne_int_none (qBJ I q (by simp))
  |int j=>obtain⟨b,rfl⟩:=a;exact ne_int (qBJ I q (congrArg not qQ3))
  |str j=>obtain⟨b,rfl⟩:=a;exact PySem.EqMixed.ne_int_str (qBJ I q (by simp))
  |_=>exact absurd (show false=true from c) B6
 |str i=>
  obtain⟨t,rfl⟩:=d;cases y with
  |non=>cases a;exact PySem.EqNone.ne_str_none (qBJ I q (by simp))
  |bl j=>cases a;exact PySem.EqMixed.ne_str_bool (qBJ I q (by simp))
  |int j=>obtain⟨b,rfl⟩:=a;exact PySem.EqMixed.ne_str_int (qBJ I q (by simp))
  |str j=>obtain⟨b,rfl⟩:=a;exact ne_str (qBJ I q (congrArg not qQ2))
  |_=>exact absurd (show false=true from c) B6
 |byt i=>
  obtain⟨t,rfl⟩:=d;cases y with
  |byt j=>obtain⟨b,rfl⟩:=a;exact PySem.W.ne_bytes (qBJ I q (congrArg not qVE))
  |_=>exact absurd (show false=true from c) B6
 |_=>cases y<;>exact absurd (show false=true from c) B6
theorem qU2:OpR X (B94 .Lt) (rI0 λi j=>.bl (decide (i<j))):=opB0 λ_ _ _ _ _ _ _ q=>lt_int q
theorem qdC:OpR X (B94 .LtE) (rI0 λi j=>.bl (decide (i<=j))):=opB0 λ_ _ _ _ _ _ _ q=>le_int q
theorem qO6:OpR X (B94 .Gt) (rI0 λi j=>.bl (decide (j<i))):=opB0 λ_ _ _ _ _ _ _ q=>gt_int q
theorem qbB:OpR X (B94 .GtE) (rI0 λi j=>.bl (decide (j<=i))):=opB0 λ_ _ _ _ _ _ _ q=>ge_int q
theorem qAL (b:Expr){op:CmpOp}(h:op≠.In:=by decide)(a:op≠.NotIn:=by decide):C15 op b=false:=by
 have c:(op==CmpOp.In)=false:=by cases op<;>first|rfl|exact absurd rfl h
 have d:(op==CmpOp.NotIn)=false:=by cases op<;>first|rfl|exact absurd rfl a
 cases b<;>simp[C15,c,d]
theorem qCN {op:CmpOp} {r:R2} (k:OpR X (B94 op) r)(m:PE X a ta)(e:PE X b tb)(g:C15 op b=false):PE X (.Compare a [op] [b] pos) (tOp r ta tb):=by
 intro i s σ H Q I h;exact wpAny_Compare1 (binT m e I h λv u j x y c l f d q=>k i j σ c x y v u Q l f d q) g
def qcM (t:TE):TT:=λσ H Q=>t σ H λx H'=>∃k,x=.bl k/\Q k H'
theorem qAF {op:CmpOp} {r:R2} (i:OpR X (B94 op) r)(j:PE X a ta)(f:PE X b tb)(g:C15 op b=false):PT X (.Compare a [op] [b] pos) (qcM (tOp r ta tb)):=by
 intro d s σ H Q I h;refine wpAny_isTrue_Compare1 (thn (j d s σ H _ I h) fun v s1 ⟨x,H1,I1,r1,q1⟩=>thn (f d s1 σ H1 _ I1 q1) fun u s2 ⟨y,H2,I2,r2,q2⟩=>
  thn (i d s2 σ H2 x y v u _ I2 r1 r2 q2) λc s3 ⟨z,H3,I3,r3,k,e,q3⟩=>?_) g
 subst e;cases r3;exact B91 ⟨H3,I3,q3⟩
def qaP (r r':R2)(ta tb tc:TE):TE:=λσ H Q=>ta σ H λx H1=>tb σ H1 λy H2=>r x y H2 λz H3=>∃k,z=.bl k/\
 (if k=true then tc σ H3 λw' H4=>r' y w' H4 Q else Q (.bl false) H3)
theorem qWQ {op f:CmpOp} {r j:R2} (o:OpR X (B94 op) r)(i:OpR X (B94 f) j)(p:PE X a ta)(m:PE X b tb)(l:PE X c tc)
  (n:lastMarks [op,f] [b,c]=false:=by with_unfolding_all rfl):PE X (.Compare a [op,f] [b,c] pos) (qaP r j ta tb tc):=by
 intro g s σ H Q I h;refine Compare_chain (thn (p g s σ H _ I h) fun v s1 ⟨x,H1,I1,r1,q1⟩=>chain_link (thn (m g s1 σ H1 _ I1 q1) fun u s2 ⟨y,H2,I2,r2,q2⟩=>
  thn (o g s2 σ H2 x y v u _ I2 r1 r2 q2) λd s3 ⟨z,H3,I3,r3,k,e,q3⟩=>?_)) n
 subst e;cases r3;refine B91 ?_;cases k with
 |false=>exact ite_ff ⟨.bl false,H3,I3,rfl,q3⟩
 |true=>exact ite_tt (chain_last (thn (l g s3 σ H3 _ I3 q3) λw' s4 ⟨z',H4,I4,r4,q4⟩=>i g s4 σ H4 y z' u w' Q I4 r2 r4 q4))
def TruV (K:Ab1)(x:V)(H:Hp)(k:Bool):Prop:=
 match x with
 |.non=>k=false
 |.bl b=>k=b
 |.int i=>k=(i != 0)
 |.str y=>y.length<=B75/\k=((y.length:Int) != 0)
 |.byt y=>y.size<=B75/\k=((y.size:Int) != 0)
 |.ref p=>(∃xs,SqL K H p xs/\k=!xs.isEmpty)\/(∃xs,SqT K H p xs/\k=!xs.isEmpty)\/∃Af,H p=some (.dK Af)/\k=!Af.isEmpty
 |_=>False
theorem qSK {κ:Type} {Af:List (κ×V)} {vs:List (κ×Value)} (r:KV Af vs):(!vs.isEmpty)=!Af.isEmpty:=by
 cases r<;>rfl
theorem qLU {xs:List V} {a:List Value} (r:Vals xs a):(!a.toArray.isEmpty)=!xs.isEmpty:=by
 cases r<;>simp
theorem qOC:(B75:Nat)<2^63:=by rw[B80];decide
theorem qaI:TruR X (λx H Q=>∃k,TruV X.K x H k/\Q k H):=by
 intro z s σ H x v Q I d h;obtain⟨k,e,q⟩:=h;have hl:=qOC;have hs:B75=16777216:=B80;cases x with
 |non=>
  cases d;have a:k=false:=e;subst a;exact truthy_none ⟨H,I,q⟩
 |bl b=>
  cases d;have a:k=b:=e;subst a;exact B91 ⟨H,I,q⟩
 |int i=>
  obtain⟨t,rfl⟩:=d;have a:k=(i != 0):=e;subst a;exact PySem.P.truthy_int ⟨H,I,q⟩
 |str y=>
  obtain⟨t,rfl⟩:=d;obtain⟨u,a⟩:y.length<=B75/\k=((y.length:Int) != 0):=e;subst a;exact PySem.P.truthy_str (by lia) ⟨H,I.tok _,q⟩
 |byt y=>
  obtain⟨t,rfl⟩:=d;obtain⟨u,a⟩:y.size<=B75/\k=((y.size:Int) != 0):=e;subst a;exact PySem.W.truthy_bytes (by lia) ⟨H,I.tok _,q⟩
 |ref p=>
  cases d;have a:(∃xs,SqL X.K H p xs/\k=!xs.isEmpty)\/(∃xs,SqT X.K H p xs/\k=!xs.isEmpty)\/∃Af,H p=some (.dK Af)/\k=!Af.isEmpty:=e;rcases a with⟨xs,f,a⟩|⟨xs,f,a⟩|⟨Af,f,a⟩
  ·subst a;obtain⟨j,r,l,n⟩:=I.list f;have c:=r.length;exact wpAny_truthy_list l.isList (by simp only[C3];lia) ⟨H,I.tok _,by rw[qLU r];exact q⟩
  ·subst a;obtain⟨j,r,l,n⟩:=I.tuple f;have c:=r.length;exact truthy_tuple l (by simp only[C3];lia) ⟨H,I.tok _,by rw[qLU r];exact q⟩
  ·subst a;obtain⟨n,o,g,r,m⟩:Af.length<=B75/\(p==C00)=false/\∃g,KV Af g/\s.heap.DictOf (qCW X.prog X.w) p g:=I.hok p _ f;have c:Af.length=g.length:=C5 r;exact wpAny_truthy_dict o m (by lia) ⟨H,I.tok _,by rw[qSK r];exact q⟩
 |_=>exact(show False from e).elim
theorem qQP (d:PE X a ta)(c:∀whole,isTrue a X.env whole=(do let v <- whole;standAt a.pos;C36 [v] (truthy v))):
  PT X a (λσ H Q=>ta σ H λx H'=>∃k,TruV X.K x H' k/\Q k H'):=by
 intro b s σ H Q I h;exact isTrue_plain (thn (d b s σ H _ I h) λv s1 ⟨x,H1,I1,r1,q1⟩=>qaI b s1 σ H1 x v Q I1 r1 q1) (c _)
theorem qEI {x:V} {a:List Value} (r:Vals [x] a):∃u,a=[u]/\RelV x u:=by
 cases r with
 |cons r1 r2=>cases r2;exact xR rfl r1
theorem qRU {x y:V} {a:List Value} (r:Vals [x,y] a):∃u w',a=[u,w']/\RelV x u/\RelV y w':=by
 cases r with
 |cons r1 r2=>
  cases r2 with
  |cons r3 r4=>cases r4;exact⟨_,xR rfl ⟨r1,r3⟩⟩
theorem qVS (b:X.calm=true):qDX X (.builtin "max") (λxs H Q=>∃i j,xs=[.int i,.int j]/\Q (.int (if j>i then j else i)) H):=by
 intro d s σ H xs e Q I r h;obtain⟨i,j,rfl,q⟩:=h;obtain⟨u,c,rfl,⟨t,rfl⟩,⟨l,rfl⟩⟩:=qRU r;refine max_two_ints (I.ok.hd b) λf g k=>⟨_,H,I.kept k,?_,q⟩;by_cases a:j>i
 ·rw[if_pos a,if_pos a];exact⟨_,rfl⟩
 ·rw[if_neg a,if_neg a];exact⟨_,rfl⟩
theorem qHJ (b:X.calm=true):qDX X (.builtin "min") (λxs H Q=>∃i j,xs=[.int i,.int j]/\Q (.int (if j<i then j else i)) H):=by
 intro d s σ H xs e Q I r h;obtain⟨i,j,rfl,q⟩:=h;obtain⟨u,c,rfl,⟨t,rfl⟩,⟨l,rfl⟩⟩:=qRU r;refine min_two_ints (I.ok.hd b) λf g k=>⟨_,H,I.kept k,?_,q⟩;by_cases a:j<i
 ·rw[if_pos a,if_pos a];exact⟨_,rfl⟩
 ·rw[if_neg a,if_neg a];exact⟨_,rfl⟩
theorem qHK:qDX X (.type "int") (λxs H Q=>(∃i,xs=[.int i]/\Q (.int i) H)\/∃k,xs=[.bl k]/\Q (.int (if k then 1 else 0)) H):=by
 intro c s σ H xs b Q I r h;rcases h with⟨i,rfl,q⟩|⟨k,rfl,q⟩
 ·obtain⟨u,rfl,t,rfl⟩:=qEI r;exact call_int_int ⟨.int i,H,I,⟨_,rfl⟩,q⟩
 ·obtain⟨u,rfl,a⟩:=qEI r;cases a;exact call_int_bool ⟨.int (if k then 1 else 0),H,I.tok _,⟨_,rfl⟩,q⟩
theorem qSS:qDX X (.type "bool") (λxs H Q=>(∃i,xs=[.int i]/\Q (.bl (i != 0)) H)\/∃k,xs=[.bl k]/\Q (.bl k) H):=by
 intro c s σ H xs b Q I r h;rcases h with⟨i,rfl,q⟩|⟨k,rfl,q⟩
 ·obtain⟨u,rfl,t,rfl⟩:=qEI r;exact call_bool_int ⟨.bl (i != 0),H,I,rfl,q⟩
 ·obtain⟨u,rfl,a⟩:=qEI r;cases a;exact call_bool_bool ⟨.bl k,H,I,rfl,q⟩
theorem qQ8:qDX X (.builtin "divmod") (λxs H Q=>∃i j,xs=[.int i,.int j]/\CDiv i j/\∀p,H p=none->Q (.ref p) (Ag H p (.tup [.int (i/j),.int (i%j)]))):=by
 intro g s σ H xs k Q I r h;obtain⟨i,j,rfl,⟨c,f⟩,q⟩:=h;obtain⟨u,d,rfl,⟨t,rfl⟩,⟨l,rfl⟩⟩:=qRU r;refine divmod_int (by lia) ?_ (.inl (A45 (by lia)))
 rw[A10 i (by lia),A11 i (by lia)]
 have a:H s.heap.objs.size=none:=I.hok.fresh (B4 _);refine⟨.ref s.heap.objs.size,_,?_,rfl,q _ a⟩;refine I.laid (λb o e=>A1 _ e) (B4 _) ⟨by simp only[J7,W0];rw[B80];decide,[.int (i/j) s.toks,.int (i%j) (s.toks+1)],.cons ⟨_,rfl⟩ (.cons ⟨_,rfl⟩ .nil),?_⟩
 exact⟨_,B8 s.heap rfl,rfl,0,rfl⟩
end
structure ObjM (h:Heap)(x dx C:Addr)(mA:Ab0):Prop where
 obj:h.get? x=some (A50 C dx)
 ns:h.Ns1 dx mA
 ne:dx≠x
theorem qUB {h:Heap} {dx:Addr} {mA:Ab0} (n:h.Ns1 dx mA):∃od,h.get? dx=some od/\∀name,A63 name od=some (mA name):=by
 obtain⟨o,c,l,j,f,g,_,i⟩:=n;refine⟨o,j,λname=>?_⟩;have e:=i name;unfold nsFind findBy at e;rw[<- A85] at e;unfold A63;rw[f];dsimp only
 split
 ·rename_i y q
  rw[q] at e;exact congrArg some e
 ·rename_i q
  rw[q] at e;have a:c.toList.any (·.refKey)=false:=by
   rw[List.any_eq_false];intro y k;obtain⟨z,t,b⟩:=g y (Array.mem_toList_iff.mp k);simp[DictEntry.refKey,b]
  have d:¬c.toList.any (·.refKey)=true:=by rw[a];exact B6
  rw[if_neg d];exact congrArg some e
theorem ObjM.look {h:Heap} {x dx C:Addr} {mA:Ab0} (I:ObjM h x dx C mA):∃od,PySem.W.InstAt h x (A50 C dx) C (some od)/\∀name,A63 name od=some (mA name):=
 let⟨od,ho,hl⟩:=qUB I.ns
 ⟨od,⟨I.obj,rfl,rfl,ho⟩,hl⟩
noncomputable def putF (f:Str)(v:V):List (Str×V)->List (Str×V)
 |[]=>[(f,v)]
 |(g,x)::r=>if g=f then(g,v)::r else(g,x)::putF f v r
theorem qJT (f g:Str)(v:V):∀fs:List (Str×V),(putF f v fs).lookup g=if g=f then some v else fs.lookup g
 |[]=>by
  show n8 g [(f,v)]=_;by_cases h:g=f
  ·have hb:(g==f)=true:=beq_iff_eq.mpr h;simp only[n8,hb,if_pos h]
  ·have hb:(g==f)=false:=beq_eq_false_iff_ne.mpr h;simp only[n8,hb,if_neg h]
 |(k,x)::r=>by
  have ih:=qJT f g v r;rw[show putF f v ((k,x)::r)=(if k=f then(k,v)::r else(k,x)::putF f v r) from rfl]
  by_cases hk:k=f
  ·rw[if_pos hk];by_cases h:g=k
   ·have hb:(g==k)=true:=beq_iff_eq.mpr h;simp only[n8,hb,if_pos (h.trans hk)]
   ·have hb:(g==k)=false:=beq_eq_false_iff_ne.mpr h;simp only[n8,hb,if_neg (λe:g=f=>h (e.trans hk.symm))]
  ·rw[if_neg hk];by_cases h:g=k
   ·have hb:(g==k)=true:=beq_iff_eq.mpr h;simp only[n8,hb,if_neg (λe:g=f=>hk (h.symm.trans e))]
   ·have hb:(g==k)=false:=beq_eq_false_iff_ne.mpr h;simp only[n8,hb];exact ih
theorem qJY (f:Str)(v:V):∀fs:List (Str×V),f∈(putF f v fs).map (·.1)/\∀g,g∈fs.map (·.1)->g∈(putF f v fs).map (·.1)
 |[]=>⟨by simp[putF],λg h=>by simp at h⟩
 |(k,x)::r=>by
  obtain⟨i1,i2⟩:=qJY f v r;rw[show putF f v ((k,x)::r)=(if k=f then(k,v)::r else(k,x)::putF f v r) from rfl]
  by_cases hk:k=f
  ·rw[if_pos hk];subst hk;exact⟨by simp,λg h=>by simpa using h⟩
  ·rw[if_neg hk];refine⟨?_,λg h=>?_⟩
   ·rw[D8];exact C2 _ i1
   ·rw[D8] at h ⊢;rcases C0.mp h with e|e
    ·exact C0.mpr (.inl e)
    ·exact C2 _ (i2 g e)
theorem RelO.some_of {v:V} {o:Option Value} (r:RelO (some v) o):∃u,o=some u/\RelV v u:=by
 cases o with
 |none=>exact(show False from r).elim
 |some u=>exact⟨u,rfl,r⟩
section
variable{P:B76}{w:World}{H H':Hp}{h h':Heap}{a C dx:Addr}{fs fs':List (Str×V)}
theorem qZN (b:HOk P w H h)(e:H a=some (.ins C dx fs)):∃mA,ObjM h a dx C mA/\(∀f,RelO (fs.lookup f) (mA f))/\PySem.Within mA (fs.map (·.1))/\fs.length<=1000/\H dx=some (.own a):=by
 obtain⟨d,z,c,g,mA,n,r,q⟩:=(show ObjOk P w H h a (.ins C dx fs) from b a _ e);exact⟨mA,⟨g,n,c⟩,r,q,z,d⟩
end
structure Cls (K:Ab1)(C:Addr):Prop where
 pg:B18 K C U8=true
 hd:A99 K C=true
 po:PySem.W.plainOver K C=true
 sa:L8 K (.ref C) "__setattr__" = some (some (.builtin "object.__setattr__"))
theorem Cls.get {K:Ab1} {C:Addr} (c:Cls K C)(f:Str):B18 K C f=true:=c.pg
structure Con (K:Ab1)(C:Addr)(f:Str)(v:V)(u:Value):Prop where
 at_:L8 K (.ref C) f=some (some u)
 rel:RelV v u
 get:A25 K u "__get__" = some none
 cp:PySem.W.copiedNames.contains f=false
structure Meth (K:Ab1)(C:Addr)(m:Str)(f:Addr):Prop where
 at_:L8 K (.ref C) m=some (some (.ref f))
 fn:A16 K (.ref f)=true
 kp:M8 K (.ref f)=true
section
variable{X:Cx}{Ab:Aa2}{σ:St}{H:Hp}{s:Shared}{A:Around}{E:Aa1}{Q:Aa1}{c:Value}{b:Bool}
inductive TyOf (K:Ab1)(H:Hp):V->Value->Prop where
 |non:TyOf K H .non (.type "NoneType")
 |bl (x:Bool):TyOf K H (.bl x) (.type "bool")
 |int (i:Int):TyOf K H (.int i) (.type "int")
 |str (x:Str):TyOf K H (.str x) (.type "str")
 |flt (x:UInt64):TyOf K H (.flt x) (.type "float")
 |lst {a:Addr} {xs:List V} (e:H a=some (.lst xs)):TyOf K H (.ref a) (.type "list")
 |frz {a:Addr} {o:Obj} {xs:List V} (e:H a=some (.frz o (.lst xs))):TyOf K H (.ref a) (.type "list")
 |tup {a:Addr} {xs:List V} (e:H a=some (.tup xs)):TyOf K H (.ref a) (.type "tuple")
 |dK {a:Addr} {Af:List (Key×V)} (e:H a=some (.dK Af)):TyOf K H (.ref a) (.type "dict")
 |dT {a:Addr} {Af:List (List KI×V)} (e:H a=some (.dT Af)):TyOf K H (.ref a) (.type "dict")
 |ins {a C dx:Addr} {fs:List (Str×V)} (e:H a=some (.ins C dx fs)) (cl:Cls K C) (ha:L8 K (.ref C) "__class__" = some (some (.builtin "object.__class__")))
   (hn:A25 K (.builtin "object.__class__") "__get__" = some (some (.builtin "getset_descriptor.__get__"))) (htk:B36 K (.builtin "object.__class__")=some true)
   (hm:A86 K C (.type "object")=some true):TyOf K H (.ref a) (.ref C)
theorem qUQ {x:V} {u t:Value} (I:Inv X Ab σ H s)(d:RelV x u)(j:TyOf X.K H x t)(e:K0 X.K t c=some b)(h:∀tk,Q (.bool b) {s with toks:=tk}):
  wpAny (model X.prog X.w) A (call (.builtin "isinstance") [u,c]) Q E s:=by
 cases j with
 |non=>cases(show u=M3 from d);exact P8 PySem.W.kitx_none I.kIn Y2 e (λz=>nomatch z) h
 |bl y=>cases(show u=Y0 y from d);exact P8 PySem.W.kitx_bool I.kIn Y2 e (λz=>nomatch z) h
 |int i=>obtain⟨t,q⟩:=(show∃t,u=V8 i t from d);cases q;exact P8 PySem.W.kitx_int I.kIn Y2 e (λz=>nomatch z) h
 |str y=>obtain⟨t,q⟩:=(show∃t,u=A80 y t from d);cases q;exact P8 PySem.W.kitx_str I.kIn Y2 e (λz=>nomatch z) h
 |flt y=>obtain⟨t,q⟩:=(show∃t,u=Value.float y t from d);cases q;exact P8 PySem.W.kitx_float I.kIn Y2 e (λz=>nomatch z) h
 |@lst a xs ea=>
  cases(show u=C7 a from d);obtain⟨_,_,n,_,f⟩:=(show ObjOk X.prog X.w H s.heap a (.lst xs) from I.hok a _ ea);exact P8 B00 I.kIn ⟨_,f,rfl⟩ e (λz=>nomatch z) h
 |@frz a ob xs ea=>
  cases(show u=C7 a from d);obtain⟨_,_,_,n,_,f⟩:=(show ObjOk X.prog X.w H s.heap a (.frz ob (.lst xs)) from I.hok a _ ea);exact P8 B00 I.kIn ⟨_,f,rfl⟩ e (λz=>nomatch z) h
 |@tup a xs ea=>
  cases(show u=C7 a from d);obtain⟨_,_,_,p⟩:=(show ObjOk X.prog X.w H s.heap a (.tup xs) from I.hok a _ ea);obtain⟨o,f,g,_⟩:=p;exact P8 PySem.W.kitx_tuple I.kIn ⟨o,f,g⟩ e (λz=>nomatch z) h
 |@dK a Af ea=>
  cases(show u=C7 a from d);obtain⟨_,_,v,_,p⟩:=(show ObjOk X.prog X.w H s.heap a (.dK Af) from I.hok a _ ea);obtain⟨o,k,l,f,g,_⟩:=p;exact P8 B01 I.kIn ⟨o,f,g.1⟩ e (λz=>nomatch z) h
 |@dT a Af ea=>
  cases(show u=C7 a from d);obtain⟨_,_,xs,_,o,k,l,f,g,_⟩:=(show ObjOk X.prog X.w H s.heap a (.dT Af) from I.hok a _ ea);exact P8 B01 I.kIn ⟨o,f,g.1⟩ e (λz=>nomatch z) h
 |@ins a C dx fs ea cl ha hn htk hm=>
  cases(show u=C7 a from d);obtain⟨r,O,_⟩:=qZN I.hok ea;obtain⟨m,J,_⟩:=O.look;exact P8 (PySem.W.kitx_own (cl.get _) cl.hd ha hn htk hm) I.kIn J e (λz=>nomatch z) h
end
structure Room (k:Nat)(A:Around):Prop where
 hd:A.handled=none
 dp:A.depth+3*k+5<recursionLimit
 un:A.units+16*k+200<cLine
 gd:A.guards=some []
theorem Room.mono {j k:Nat} (r:Room k A)(h:j<=k):Room j A:=⟨r.hd,by have:=r.dp;lia,by have:=r.un;lia,r.gd⟩
theorem Room.deeper {k:Nat} {A:Around} (r:Room (k+1) A)(env:Env):Room k (A.deeper env):=
 ⟨r.hd,by have:=r.dp;show A.depth+1+3*k+5<_;lia,by have:=r.un;show A.units+3+16*k+200<_;lia,r.gd⟩
theorem Room.in1 {k:Nat} {A:Around} (r:Room (k+1) A):Room k A.in1:=
 ⟨r.hd,by have:=r.dp;show A.depth+3*k+5<_;lia,by have:=r.un;show A.units+1+16*k+200<_;lia,r.gd⟩
theorem qSJ {A:Around} {C:Addr} {a:List Value} {b:List (Str×Value)} :(A.under (.builtin "type.__call__" ⟨.ref C::a,b⟩)).depth=A.depth+1:=by
 first|rfl|simp[A51,Code.weight,Code.isCreation,Code.isGuard,Code.isCaller,Code.frames,B14,guardIds]
theorem qSI {A:Around} {C:Addr} {a:List Value} {b:List (Str×Value)} :(A.under (.builtin "type.__call__" ⟨.ref C::a,b⟩)).units=A.units+1:=by
 first|rfl|simp[A51,Code.cUnits,Code.frames,B14]
theorem Room.make {k:Nat} {A:Around} (r:Room (k+1) A) (C:Addr) (a:List Value) (b:List (Str×Value)):Room k (A.under (.builtin "type.__call__" ⟨.ref C::a,b⟩)):=
 ⟨r.hd,by have:=r.dp;rw[qSJ];lia,by have:=r.un;rw[qSI];lia,by first|exact r.gd|simp[A51,Code.guards,Code.isGuard,pushGuards,guardIds,r.gd]⟩
theorem Room.depth {k:Nat} {A:Around} (r:Room k A):A.depth<recursionLimit:=by have:=r.dp;lia
theorem Room.units {k:Nat} {A:Around} (r:Room k A):A.units+64<cLine:=by have:=r.un;lia
theorem Room.units0 {k:Nat} {A:Around} (r:Room k A):A.units<cLine:=by have:=r.un;lia
def tNil:TA:=λ_ H Q=>Q [] H
def qaO (ta:TE)(tr:TA):TA:=λσ H Q=>ta σ H λx H1=>tr σ H1 λxs H2=>Q (x::xs) H2
section
variable{X:Cx}{e:Expr}{es:List Expr}{te:TE}{t:TA}{pos:Pos}
theorem qA2:PA X [] tNil:=λ_ _ _ _ H Q I h=>Calls.spliced_nil ⟨[],H,I,.nil,h⟩
theorem qA0 (f:PE X e te)(c:PA X es t)(d:B85 (e::es) X.env=(false,eval e X.env)::B85 es X.env:=by rfl):PA X (e::es) (qaO te t):=by
 intro a b s σ H Q I h;rw[d];show wpAny _ _ (spliced ((false,eval e X.env)::backTo a (B85 es X.env))) _ _ s;refine Calls.spliced_cons (thn (f b s σ H _ I h) λu s1 ⟨x,H1,I1,r1,q1⟩=>?_);exact thn (c a b s1 σ H1 _ I1 q1) λus s2 ⟨xs,H2,I2,r2,q2⟩=>⟨x::xs,H2,I2,.cons r1 r2,q2⟩
def tTup (t:TA):TE:=λσ H Q=>t σ H λxs H1=>xs.length<=B75/\∀p,H1 p=none->Q (.ref p) (Ag H1 p (.tup xs))
def tLst (t:TA):TE:=λσ H Q=>t σ H λxs H1=>xs.length<=B75/\∀p,H1 p=none->Q (.ref p) (Ag H1 p (.lst xs))
theorem qBS (h:PA X es t):PE X (.Tuple es x1 pos) (tTup t):=by
 intro c s σ H Q I d;refine wpAny_Tuple_spliced (thn (h pos c s σ H _ I d) λus s1 ⟨xs,H1,I1,r,z,q⟩=>⟨by rw[<- r.length];exact z,?_⟩)
 have a:H1 s1.heap.objs.size=none:=I1.hok.fresh (B4 _);refine⟨.ref s1.heap.objs.size,Ag H1 s1.heap.objs.size (.tup xs),I1.laid (t':=s1.toks) (λb u e=>A1 _ e) (B4 _) ?_,rfl,q _ a⟩;exact⟨z,us,r,⟨_,B8 _ rfl,rfl,_,rfl⟩⟩
theorem qBH (h:PA X es t):PE X (.List es pos) (tLst t):=by
 intro c s σ H Q I d;refine wpAny_List_spliced (thn (h pos c s σ H _ I d) λus s1 ⟨xs,H1,I1,r,z,q⟩=>⟨by rw[<- r.length];exact z,?_⟩)
 have a:H1 s1.heap.objs.size=none:=I1.hok.fresh (B4 _);refine⟨.ref s1.heap.objs.size,Ag H1 s1.heap.objs.size (.lst xs),I1.laid (t':=s1.toks) (λb u e=>A1 _ e) (B4 _) ?_,rfl,q _ a⟩;exact⟨z,us,0,r,B8 _ rfl⟩
end
abbrev Sp:=List V->Hp->VK->XK->Prop
abbrev CXT:=List Env->Hp->Shared->XK->Aa1
structure Env0 (P:B76)(w:World)(K:Ab1)(mg:Ab0)(base:Heap)(A:Around)(outer:List Env)(s:Shared)(H:Hp):Prop where
 frames:A.frames=some outer
 mod:Mod K mg base
 bs:∀b o,base.get? b=some o->s.heap.get? b=some o/\H b=none
 bsz:base.objs.size<=s.heap.objs.size
 funs:s.heap.FunFrames base outer
 frf:∀b∈frs outer,H b=none
 hok:HOk P w H s.heap
 bare:C44 s.gens
def CE (outer:List Env)(P:B76)(w:World)(H:Hp)(s:Shared)(Q:VK)(u:Value)(s':Shared):Prop:=
 ∃v H',s'.os=s.os/\C44 s'.gens/\Un (frs outer) [] H H' s.heap s'.heap/\HOk P w H' s'.heap/\RelV v u/\Q v H'
def CR (CX:CXT)(outer:List Env)(P:B76)(w:World)(H:Hp)(s:Shared)(Q:VK)(E:XK)(r:Result)(s':Shared):Prop:=
 match r with
 |.ok (.ret u)=>CE outer P w H s Q u s'
 |.ok _=>False
 |.error e=>CX outer H s E e s'
structure FnOk (P:B76)(w:World)(K:Ab1)(mg:Ab0)(base:Heap)(CX:CXT)(k:Nat)(f:Addr)(fd:B88)(ps:List Str)(sp:Sp):Prop where
 len:∀vs H Q E,sp vs H Q E->vs.length=ps.length
 run:∀(A:Around) (outer:List Env) (s:Shared) (H:Hp) (args:Args) (us:List Value) (vs:List V) (Q:VK) (E:XK),Room k A->Env0 P w K mg base A outer s H->BindsTo s fd args (ps.zip us)->Vals vs us->sp vs H Q E->
  C14 (model P w) A (.call (.ref f) args) (CR CX outer P w H s Q E) s
theorem Env0.make {K:Ab1} {mg:Ab0} {base:Heap} {a:List Env} {H:Hp} (e:Env0 P w K mg base A a s H)(C:Addr)(b:List Value)(c:List (Str×Value)):
  Env0 P w K mg base (A.under (.builtin "type.__call__" ⟨.ref C::b,c⟩)) a s H:=⟨by first|exact e.frames|(simpa[A51,Code.envs,B14,pushEnvs] using e.frames),e.mod,e.bs,e.bsz,e.funs,e.frf,e.hok,e.bare⟩
section
variable{X:Cx}{Ab:Aa2}{σ:St}{H:Hp}{s s':Shared}
theorem Inv.env0 (I:Inv X Ab σ H s):Env0 X.prog X.w X.K X.mg X.base X.A X.stack s H:=
 ⟨I.ok.frames,I.ok.mod,I.bs,F4 I.ok.bsz I.sz,I.stack,I.stkFree,I.hok,I.bare⟩
theorem Inv.after {Q:VK} {u:Value} (I:Inv X Ab σ H s)(h:CE X.stack X.prog X.w H s Q u s'):EP X Ab σ Q u s':=by
 obtain⟨v,j,os,a,i,e,r,q⟩:=h;obtain⟨f,g,d,t,c⟩:=s';obtain rfl:c=s.os:=os;exact⟨v,j,I.call (h':=f) (g':=g) (d':=d) (t':=t) (ch:=[]) i e a (λb z=>absurd z (by simp)),r,q⟩
end
def qaQ (sp:Sp)(dvs:List V)(E:XK)(t:TA):TE:=λσ H Q=>t σ H λvs H1=>sp (vs++dvs) H1 Q E
def Binds (K:Ab1)(fd:B88)(ps:List Str)(ds:List Value):Prop:=
 ∀(s:Shared) (us:List Value),K.In s.heap->(us++ds).length=ps.length->BindsTo s fd ⟨us,[]⟩ (ps.zip (us++ds))
theorem Binds.all {K:Ab1} {a:B88} {ps:List Str} (h:∀us:List Value,us.length=ps.length->C42 a ⟨us,[]⟩=pure (ps.zip us)):Binds K a ps []:=λs us _ b=>by
 rw[M4] at b ⊢;exact .of_eq (h us b)
def qW0 (CX:CXT)(X:Cx)(E:XK):Prop:=∀(Ab:Aa2) (σ:St) (H:Hp) (s:Shared) (e:Value) (s':Shared),Inv X Ab σ H s->CX X.stack H s E e s'->X.xe e s'
section
variable{X:Cx}{CX:CXT}{k:Nat}{f C:Addr}{fd:B88}{ps:List Str}{sp:Sp}{dvs:List V}{ds:List Value}{E:XK}{x m:Str}{p pos apos:Pos}{e o:Expr}{es:List Expr}{ta:TE}{t:TA}
theorem qaY {Ab:Aa2} {σ:St} {H:Hp} {Q:VK} {a:List Value} {vs:List V} (F:FnOk X.prog X.w X.K X.mg X.base CX k f fd ps sp)(i:Room k X.A)(d:Binds X.K fd ps ds)(g:Vals dvs ds)(j:qW0 CX X E)
  (I:Inv X Ab σ H s) (r:Vals vs a) (h:sp (vs++dvs) H Q E):wpAny (model X.prog X.w) X.A (call (.ref f) a) (EP X Ab σ Q) X.xe s:=by
 have c:Vals (vs++dvs) (a++ds):=r.append g;have m:(a++ds).length=ps.length:=by rw[<- c.length];exact F.len _ _ _ _ h
 refine C19 (B99 (F.run X.A X.stack s H ⟨a,[]⟩ (a++ds) (vs++dvs) Q E i I.env0 (d s a I.kIn m) c h) λr l b=>?_);cases r with
 |error e=>exact j Ab σ H s e l I b
 |ok fl=>
  cases fl with
  |ret u=>exact I.after b
  |next=>exact P1 b
  |brk=>exact P1 b
  |cont=>exact P1 b
theorem qU0 (F:FnOk X.prog X.w X.K X.mg X.base CX k f fd ps sp)(l:Room k X.A)(c:Gl X x)(j:X.mg x=some (.ref f))(i:M8 X.K (.ref f)=true)(d:Binds X.K fd ps ds)(g:Vals dvs ds)(n:qW0 CX X E)
  (u:PA X (e::es) t) (b:(x==("__debug__" : Str))=false:=by decide) (o:B85 (e::es) X.env=(false,eval e X.env)::B85 es X.env:=by rfl) (a:(backTo pos (B85 es X.env)).any (·.1)=false:=by rfl):
  PE X (.Call (.Name x p) (e::es) [] pos) (qaQ sp dvs E t):=by
 intro m s σ H Q I h;refine C06 (qJV I c j ?_ b);refine A17 (h₀:=X.base) I.ok.mod.kin i (thn (u pos m s σ H _ I h) λus s1 ⟨vs,H1,I1,r,q⟩=>⟨I1.kIn,?_⟩) o a;exact qaY F l d g n I1 r q
structure Mk (K:Ab1)(C f:Addr):Prop where
 makes:PySem.W.makesIn K C=true
 init:L8 K (.ref C) "__init__" = some (some (.ref f))
 fn:A16 K (.ref f)=true
 kp:M8 K (.ref C)=true
end
def PK (X:Cx)(kws:List Keyword)(t:TA):Prop:=
 ∀(pos:Pos) (Ab:Aa2) (s:Shared) (σ:St) (H:Hp) (Q:List V->Hp->Prop),Inv X Ab σ H s->t σ H Q->wpAny (model X.prog X.w) X.A (evalAll ((backToKw pos (keywordEach kws X.env)).map (·.2))) (AP X Ab σ Q) X.xe s
section
variable{X:Cx}{CX:CXT}{k:Nat}{f C:Addr}{fd:B88}{ps ks:List Str}{sp:Sp}{E:XK}{x m:Str}{p pos apos kpos:Pos}{e o:Expr}{es:List Expr}{kws:List Keyword}{te ta:TE}{t tk:TA}{nm:Option Str}
theorem qXS:PK X [] tNil:=λ_ _ _ _ H Q I h=>wpAny_evalAll_nil ⟨[],H,I,.nil,h⟩
theorem qTR (d:PE X e te)(c:PK X kws t):PK X (⟨nm,e,kpos⟩::kws) (qaO te t):=by
 intro a b s σ H Q I h;show wpAny _ _ (evalAll ((do let v <- eval e X.env;standAt a;pure v)::(backToKw a (keywordEach kws X.env)).map (·.2))) _ _ s
 refine wpAny_evalAll_cons (B73 (thn (d b s σ H _ I h) λu s1 ⟨x,H1,I1,r1,q1⟩=>B73 (C16 (B74 ?_))));exact thn (c a b s1 σ H1 _ I1 q1) λus s2 ⟨xs,H2,I2,r2,q2⟩=>⟨x::xs,H2,I2,.cons r1 r2,q2⟩
structure KBinds (K:Ab1)(fd:B88)(ps ks:List Str)(g:List Value->List Value->List Value)(gV:List V->List V->List V):Prop where
 to:∀(s:Shared) (us ws:List Value),K.In s.heap->(g us ws).length=ps.length->BindsTo s fd ⟨us,ks.zip ws⟩ (ps.zip (g us ws))
 rel:∀{vs:List V} {us:List Value} {zs:List V} {ws:List Value},Vals vs us->Vals zs ws->Vals (gV vs zs) (g us ws)
variable{g:List Value->List Value->List Value}{gV:List V->List V->List V}
end
structure FnScope (N P:List Str)(sc:Scope):Prop where
 kind:sc.kind=.function
 co:sc.isCoroutine=false
 gen:sc.isGenerator=false
 nd:N.Nodup
 pre:N.take P.length=P
 par:∀x∈P,sc.names.lookup x=some .local\/sc.names.lookup x=some .cell
 nofree:∀y∈sc.names,y.2≠.free
theorem qP4 {kindOf:Str->Option C31} {x:Str} :∀{binds:List (Str×Value)} {m:Ab0},(∀v,(x,v)∉binds)->bindL kindOf binds m x=m x
 |[],_,_=>rfl
 |(n,v)::r,m,h=>by
  unfold bindL;rw[qP4 λw hw=>h w (C2 _ hw)]
  split
  ·have:x≠n:=by rintro rfl;exact h v F6
   simp[this]
  ·rfl
theorem qP6 {kindOf:Str->Option C31} {x:Str} :∀{binds:List (Str×Value)} {m:Ab0},(∀v,(x,v)∉binds)->bindC kindOf binds m x=m x
 |[],_,_=>rfl
 |(n,v)::r,m,h=>by
  unfold bindC;rw[qP6 λw hw=>h w (C2 _ hw)]
  split
  ·rfl
  ·have:x≠n:=by rintro rfl;exact h v F6
   simp[this]
theorem qP5 {kindOf:Str->Option C31} {x:Str} {v:Value} :∀{P:List Str} {vs:List Value} {i:Nat} {m:Ab0},P.Nodup->P[i]?=some x->vs[i]?=some v->kindOf x=some .local->
  bindL kindOf (P.zip vs) m x=some v
 |[],_,_,_,_,h,_,_=>by simp at h
 |_::_,[],_,_,_,_,h,_=>by simp at h
 |p::P,w::vs,0,m,nd,h1,h2,hk=>by
  simp at h1 h2;subst h1;subst h2;show bindL kindOf ((p,w)::P.zip vs) m p=_;unfold bindL;rw[qP4 λv hv=>(W1.mp nd).1 (y8 hv).1,if_pos hk];simp
 |p::P,w::vs,i+1,m,nd,h1,h2,hk=>by
  show bindL kindOf ((p,w)::P.zip vs) m x=_;unfold bindL;exact qP5 (i:=i) (W1.mp nd).2 (by simpa using h1) (by simpa using h2) hk
theorem qP7 {kindOf:Str->Option C31} {x:Str} {v:Value} :∀{P:List Str} {vs:List Value} {i:Nat} {m:Ab0},P.Nodup->P[i]?=some x->vs[i]?=some v->kindOf x≠some .local->
  bindC kindOf (P.zip vs) m x=some v
 |[],_,_,_,_,h,_,_=>by simp at h
 |_::_,[],_,_,_,_,h,_=>by simp at h
 |p::P,w::vs,0,m,nd,h1,h2,hk=>by
  simp at h1 h2;subst h1;subst h2;show bindC kindOf ((p,w)::P.zip vs) m p=_;unfold bindC;rw[qP6 λv hv=>(W1.mp nd).1 (y8 hv).1,if_neg hk];simp
 |p::P,w::vs,i+1,m,nd,h1,h2,hk=>by
  show bindC kindOf ((p,w)::P.zip vs) m x=_;unfold bindC;exact qP7 (i:=i) (W1.mp nd).2 (by simpa using h1) (by simpa using h2) hk
noncomputable def start (N:List Str)(vs:List V):St:=vs.map some++F1 (N.length-vs.length) none
noncomputable def cxOf (CX:CXT)(P:B76)(w:World)(K:Ab1)(mg:Ab0)(base:Heap)(N:List Str)(qual:Str)(scope:Scope)(f:Addr)(cd:Value)(A:Around)(outer:List Env)(s:Shared)(H:Hp)(E:XK):Cx where
 prog:=P
 w:=w
 K:=K
 mg:=mg
 base:=base
 A:=A.deeper (envOfC qual scope s.heap.objs.size f cd)
 N:=N
 s₀:=s
 H₀:=H
 env:=envOfC qual scope s.heap.objs.size f cd
 outer:=outer
 stack:=envOfC qual scope s.heap.objs.size f cd::outer
 ex:=[]
 calm:=true
 fn:=λ_=>true
 pn:=[]
 xe:=λe s'=>wpAny (model P w) (A.deeper (envOfC qual scope s.heap.objs.size f cd)) (leaving (envOfC qual scope s.heap.objs.size f cd) e) (λ_ s''=>CX outer H s E e s'') (λe' s''=>CX outer H s E e' s'') s'
theorem qRK {a:Scope} {n:Nat} {x:Str} (h:a.names.lookup x=some .cell):∃c,(cellsFrom n a.names []).lookup x=some c:=by
 have q:=A46 a.names n [] (.inl h);exact A26.mp q
theorem qUR {CX:CXT} {K:Ab1} {mg:Ab0} {base:Heap} {N ps:List Str} {j:Str} {d:Scope} {f:Addr} {cd:Value} {g:List Env} {H:Hp} {E:XK} {us:List Value} {vs:List V} 
  (S:FnScope N ps d) (hd:A.handled=none) (m:Env0 P w K mg base A g s H) (hl:vs.length=ps.length) (r:Vals vs us)
  (x:InCallC s s.heap.objs.size (bindL (envOfC j d s.heap.objs.size f cd).kindOf (ps.zip us) λ_=>none) (cellsFrom (s.heap.objs.size+1) d.names []) (bindC (envOfC j d s.heap.objs.size f cd).kindOf (ps.zip us) λ_=>none) s1):
  Inv (cxOf CX P w K mg base N j d f cd A g s H E) [] (start N vs) H s1:=by
 have a0:ps.length<=N.length:=by have:=congrArg Z1 S.pre;rw[C9] at this;lia
 obtain⟨h1,tk,rfl,hk⟩:=x.done;have o:∀b:Addr,b∉(cxOf CX P w K mg base N j d f cd A g s H E).ex:=λb z=>absurd (show b∈([]:List Addr) from z) (by simp)
 refine⟨⟨m.mod,S.kind,rfl,rfl,B4 _,λy z c h1 l=>?_,λy hy=>?_,λy c _ h=>?_,λ_=>hd,A59 m.frames,.inr ⟨rfl,rfl⟩,λb z=>absurd z (o b),m.bs,m.bsz,λb _ _=>o b,λb z=>absurd z (o b),m.funs,m.frf⟩,
  rfl,m.bare,Un.kept hk,⟨_,x.toInCall.ns,λi y v h1 l h3=>?_⟩,λy c h=>⟨_,x.cell y c h⟩,m.hok.fresh (B4 _),λy c h=>?_,λp hp=>absurd (show p∈([]:Aa2) from hp) (by simp),m.hok.kept hk,?_⟩
 ·exact name_of_addr x.apart (N9 h1) (N9 l)
 ·have hy:d.names.lookup y=some .cell\/d.names.lookup y=some .free:=hy;rcases hy with hy|hy
  ·exact qRK hy
  ·exact absurd rfl (S.nofree _ (N9 hy))
 ·exact F5 (x.above y c (N9 h))
 ·have hi:i<vs.length:=by
   unfold start at l;by_cases hi:i<vs.length
   ·exact hi
   ·rw[L4 (by simpa using hi)] at l
    rw[List.getElem?_replicate] at l
    split at l<;>cases l
  have ha:vs[i]?=some v:=by
   unfold start at l;rw[O2 (by simpa using hi),C6] at l
   cases e:vs[i]? with
   |none=>rw[e] at l;cases l
   |some a=>rw[e] at l;cases l;rfl
  obtain⟨u,hu,rv⟩:=r.get ha;have hp:ps[i]?=some y:=by
   rw[<- S.pre,A27 (by lia)];exact h1
  have t:ps.Nodup:=by rw[<- S.pre];exact S.nd.sublist (n9 _ _)
  refine⟨u,rv,?_⟩;rcases S.par y (D4 hp) with k|k
  ·exact .inl ⟨k,qP5 t hp hu k⟩
  ·obtain⟨c,e⟩:=qRK (n:=s.heap.objs.size+1) k;refine .inr ⟨.inl k,c,e,?_⟩;have q:=x.cell y c e;rw[qP7 t hp hu (by show d.names.lookup y≠_;rw[k];decide)] at q
   exact q
 ·exact m.hok.fresh (F5 (x.above y c (N9 h)))
 ·unfold start;show _=N.length;rw[A6,A0,Z9]
  lia
theorem qZQ {CX:CXT} {K:Ab1} {mg:Ab0} {base:Heap} {k:Nat} {f:Addr} {name c:Str} {g:C09} {body:List Stmt} {a:Scope} {dV kV a0 pm d ct oc:Value} {an od:Option Addr} 
  {a2:Array (Option Value)} {N ps:List Str} {sp:Sp} (lk:K.lookup f=some ⟨oc,od,.func (R5 name c g body a dV kV a0 pm an d ct),a2⟩) (hcd:f9 K d c=true) (S:FnScope N ps a)
  (l:∀vs H Q E,sp vs H Q E->vs.length=ps.length)
  (h:∀ (A:Around) (outer:List Env) (s:Shared) (H:Hp) (vs:List V) (Q:VK) (E:XK),Room k (A.deeper (envOfC c a s.heap.objs.size f d))->sp vs H Q E->
   ∃t,PSs (cxOf CX P w K mg base N c a f d A outer s H E) body t/\t {nx:=λ_ H'=>Q .non H',rt:=Q} (start N vs) H):
  FnOk P w K mg base CX (k+1) f (R5 name c g body a dV kV a0 pm an d ct) ps sp:=by
 refine⟨l,λA outer s H a3 us vs Q E hr m hb r z=>?_⟩;have hl:=l _ _ _ _ z;have KX:K.In s.heap:=m.mod.kin.keeps λb o e=>(m.bs b o e).1;have a1:s.heap.NoLimit:=m.mod.nolimit.keeps λb o e=>(m.bs b o e).1;have i:∀y∈ps.zip us,a.names.lookup y.1=some .local\/(a.names.lookup y.1=some .cell/\((cellsFrom (s.heap.objs.size+1) a.names []).lookup y.1).isSome=true):=λ⟨n,v⟩ hy=>by
  rcases S.par n (y8 hy).1 with q|q
  ·exact .inl q
  ·exact .inr ⟨q,A46 _ _ _ (.inl q)⟩
 refine codeAny_call_function hr.depth (KX _ _ lk) rfl S.co S.gen rfl (PySem.W.codeRec_of KX hcd) (hb _ _ _ _ ?_);refine wpAny_newFunctionEnv_cells S.kind i λa4 he s1 x=>?_;subst he;refine⟨a1.keeps x.toInCall.keep,codeAny_func ?_⟩;obtain⟨t,ht,hq⟩:=h A outer s H vs Q E (hr.deeper _) z;have I:Inv (cxOf CX P w K mg base N c a f d A outer s H E) [] (start N vs) H s1:=qUR S hr.hd m hl r x;refine B83 (ht [] s1 (start N vs) H _ I hq) (λfl s' j=>?_) λe s' j=>j;have p:∀{σ':St} {H':Hp} {v:V} {u:Value},Inv (cxOf CX P w K mg base N c a f d A outer s H E) [] σ' H' s'->RelV v u->Q v H'->CE outer P w H s Q u s':=
  λ{σ' H' v u} J rv q=>⟨v,H',J.os,J.bare,J.base,J.hok,rv,q⟩
 cases fl with
 |ret u=>
  obtain⟨v,σ',H',J,rv,q⟩:=j;exact p J rv q
 |next=>
  obtain⟨σ',H',J,q⟩:=j;exact p (v:=V.non) (u:=M3) J rfl q
 |brk=>
  obtain⟨_,_,_,q⟩:=j;exact P1 q
 |cont=>
  obtain⟨_,_,_,q⟩:=j;exact P1 q
section
variable{X:Cx}{x:Str}{p pos:Pos}{e:Expr}{es:List Expr}{t:TA}{id T:String}{r:List V->Hp->VK->Prop}
def tCB (r:List V->Hp->VK->Prop)(t:TA):TE:=λσ H Q=>t σ H λvs H1=>r vs H1 Q
theorem qA8 (d:qDX X (.builtin id) r) (f:Gl X x) (j:X.mg x=none) (i:B81 x=some (.builtin id)) (l:PA X (e::es) t) (g:x ≠ "__name__":=by decide) (b:(x==("__debug__" : Str))=false:=by decide)
  (k:B85 (e::es) X.env=(false,eval e X.env)::B85 es X.env:=by rfl) (a:(backTo pos (B85 es X.env)).any (·.1)=false:=by rfl):PE X (.Call (.Name x p) (e::es) [] pos) (tCB r t):=by
 intro c s σ H Q I h;refine C06 (qIG I f j i ?_ g b);exact PyProof.Rows.callWith_builtin1 (thn (l pos c s σ H _ I h) λus s1 ⟨vs,H1,I1,r1,q1⟩=>d c s1 σ H1 vs us Q I1 r1 q1) k a
theorem qAJ (d:qDX X (.type T) r) (f:Gl X x) (j:X.mg x=none) (i:B81 x=some (.type T)) (l:PA X (e::es) t) (g:x ≠ "__name__":=by decide) (b:(x==("__debug__" : Str))=false:=by decide)
  (k:B85 (e::es) X.env=(false,eval e X.env)::B85 es X.env:=by rfl) (a:(backTo pos (B85 es X.env)).any (·.1)=false:=by rfl):PE X (.Call (.Name x p) (e::es) [] pos) (tCB r t):=by
 intro c s σ H Q I h;refine C06 (qIG I f j i ?_ g b);exact V9 (thn (l pos c s σ H _ I h) λus s1 ⟨vs,H1,I1,r1,q1⟩=>d c s1 σ H1 vs us Q I1 r1 q1) k a
end
end _L
namespace HT
open PySem PyProof.Rows
noncomputable def lexLt:List Int->List Int->Bool
 |[],[]=>false
 |[],_::_=>true
 |_::_,[]=>false
 |x::xs,y::ys=>if x=y then lexLt xs ys else decide (x<y)
theorem lexLt_cons (x y:Int)(xs ys:List Int):lexLt (x::xs) (y::ys)=if x=y then lexLt xs ys else decide (x<y):=rfl
theorem lexLt_nil_nil:lexLt [] []=false:=rfl
theorem qL0 (y:Int)(ys:List Int):lexLt [] (y::ys)=true:=rfl
theorem qL1 (x:Int)(xs:List Int):lexLt (x::xs) []=false:=rfl
theorem qXC (A:Around)(s:Shared)(a:Int)(t:Tok)(c:Int)(u:Tok):∃e,SeqAt.EqAt A s (.int a t) (.int c u) e/\(e=true↔a=c):=
 ⟨(a==c),A87 a t c u,by simp⟩
theorem rcLt_int (A:Around)(s:Shared)(a:Int)(t:Tok)(c:Int)(u:Tok)(prog:B76)(w:World)(E:Aa1)(Q:Aa1)(h:Q (.bool (decide (a<c))) s):
  wpAny (model prog w) A (richCompare .Lt (.int a t) (.int c u)) Q E s:=
 (PyProof.Rows.lt_int h:wpAny (model prog w) A (B94 .Lt (.int a t) (.int c u)) Q E s)
section
variable{prog:B76}{w:World}{A:Around}{E:Aa1}{s:Shared}
theorem cat_tup {t b:Addr} {vs a:List Value} {Q:Aa1} (z:IsTup s.heap t vs.toArray)(hb:IsTup s.heap b a.toArray)(r:vs≠[])
  (y:a=[]->Q (.ref t) s) (h2:a≠[]->Q (.ref s.heap.objs.size) {s with heap:=s.heap.push {cls:=.type "tuple",data:=.seq (vs++a).toArray}})
  (hsz:vs.length+a.length<=B75):wpAny (model prog w) A (C13 .Add (.ref t) (.ref b)) Q E s:=by
 obtain⟨⟨cls,p,data,u⟩,k,m,n,o⟩:=id z;obtain⟨⟨x,f,l,h⟩,c,i,q,g⟩:=id hb;simp only at m o i g;subst m o i g;have e:vs.toArray++a.toArray=(vs++a).toArray:=by simp
 by_cases j:a=[]
 ·exact concat_meets ⟨_,k,rfl⟩ ⟨_,c,rfl⟩ noFill_tuple_add seq_tuple_add m6 k8 (j7 _ _)
   (tuple_addW1 t b vs.toArray a.toArray n q p f u h (by simpa using r) (by simp[j])) ⟨k,c,y j⟩
 ·refine concat_meets ⟨_,k,rfl⟩ ⟨_,c,rfl⟩ noFill_tuple_add seq_tuple_add m6 k8 (j7 _ _)
   (tuple_addW2 t b vs.toArray a.toArray n q p f u h (by simpa using r) (by simpa using j) (by rw[C3,C3];exact hsz)) ⟨k,c,?_⟩
  rw[e];exact h2 j
noncomputable def sIx (n d:Nat):Option Int->Nat
 |none=>d
 |some v=>if v<0 then(v+(n:Int)).toNat else min v.toNat n
theorem sIx_none (n d:Nat):sIx n d none=d:=rfl
theorem sIx_nat (n d k:Nat):sIx n d (some (k:Int))=min k n:=by
 show(if(k:Int)<0 then((k:Int)+(n:Int)).toNat else min (k:Int).toNat n)=min k n
 rw[if_neg (by lia),Y3]
theorem qaX (n d:Nat)(b:d<=n)(o:Option Int):sIx n d o<=n:=by
 cases o with
 |none=>exact b
 |some v=>
  show(if v<0 then(v+(n:Int)).toNat else min v.toNat n)<=n
  by_cases a:v<0
  ·rw[if_pos a];lia
  ·rw[if_neg a];exact Nat.min_le_right _ _
theorem qVM (v:Int)(n d:Nat):(if v<0 then max (v+(n:Int)) 0 else min v (n:Int))=((sIx n d (some v):Nat):Int):=by
 show(if v<0 then max (v+(n:Int)) 0 else min v (n:Int))=(((if v<0 then(v+(n:Int)).toNat else min v.toNat n):Nat):Int)
 by_cases a:v<0
 ·simp only[if_pos a];lia
 ·simp only[if_neg a];lia
theorem qST (lo hi:Option Int)(n:Nat):h9 lo hi 1 (n:Int)=(((sIx n 0 lo:Nat):Int),((sIx n n hi:Nat):Int)):=by
 have a:¬((1:Int)<0):=by lia
 unfold h9;simp only[a,if_false];refine Prod.ext ?_ ?_
 ·cases lo with
  |none=>rfl
  |some v=>exact qVM v n 0
 ·cases hi with
  |none=>rfl
  |some v=>exact qVM v n n
theorem qS6 (i j:Nat):X4 (i:Int) (j:Int) 1=j-i:=by
 unfold X4;have a:(1:Int)>0:=by lia
 simp only[a,if_true,Int.ediv_one]
 split<;>lia
theorem qLK {v:Value} {o:Option Int} {Q:Option Int->Shared->Prop} (p:IsPart v o)(h:Q o s):wpAny (model prog w) A (Builtin.Slice.slicePartIndex v) Q E s:=by
 cases p with
 |none=>exact slicePart_none h
 |int i t=>exact slicePart_int h
theorem qF2 {e:Addr} {c d:Value} {lo hi:Option Int} {n:Nat} {Q:Int×Int×Nat->Shared->Prop} (f:s.heap.IsSliceOf e c d .none)(g:IsPart c lo)(j:IsPart d hi)
  (h:Q (((sIx n 0 lo:Nat):Int),1,sIx n n hi-sIx n 0 lo) s):wpAny (model prog w) A (A12 (.ref e) (pure (n:Int))) Q E s:=by
 obtain⟨k,b,i,a⟩:=id f;unfold A12 Builtin.Slice.sliceFields;refine B73 (B73 (B87 b a (x:=c) rfl (B73 (B87 b a (x:=d) rfl (B73 (B87 b a (x:=.none) rfl (B74 ?_)))))));refine B73 (slicePart_none ?_);show wpAny _ _ (if((1:Int)==0)=true then _ else _) _ _ s
 rw[if_neg (by decide)]
 refine B73 (qLK g (B73 (qLK j (B73 (B74 ?_)))));show wpAny _ _ (match h9 lo hi 1 (n:Int) with|(lo,hi)=>pure (lo,(1:Int),X4 lo hi 1)) _ _ s
 rw[qST lo hi n];show wpAny _ _ (pure (((sIx n 0 lo:Nat):Int),(1:Int),X4 ((sIx n 0 lo:Nat):Int) ((sIx n n hi:Nat):Int) 1)) _ _ s;rw[qS6];exact B74 h
theorem qWK (xs:Array Value)(i k:Nat):((Y1 k).filterMap λ(m:Nat)=>xs[((i:Int)+(m:Int)*1).toNat]?).toArray=((xs.toList.drop i).take k).toArray:=by
 have e:(λ(m:Nat)=>xs[((i:Int)+(m:Int)*1).toNat]?)=λm=>xs[i+m]?:=by
  funext m
  have:((i:Int)+(m:Int)*1).toNat=i+m:=by lia
  rw[this]
 rw[e];have:=pick_run xs i k;rw[List.filterMap_map] at this;have a:((λx=>xs[x]?) ∘ λx=>i+x)=λm=>xs[i+m]?:=rfl;rw[a] at this;rw[this]
theorem getItem_tuple_cut {t g:Addr} {a:Array Value} {j k:Value} {lo hi:Option Int} {Q:Aa1} (c:IsTup s.heap t a)(l:s.heap.IsSliceOf g j k .none)(p:IsPart j lo)(u:IsPart k hi)
  (r:¬(sIx a.size 0 lo=0/\sIx a.size a.size hi=a.size))
  (h:Q (.ref s.heap.objs.size) {s with heap:=s.heap.push {cls:=.type "tuple",data:=.seq ((a.toList.drop (sIx a.size 0 lo)).take (sIx a.size a.size hi-sIx a.size 0 lo)).toArray}})
  (hsz:a.size<=B75):wpAny (model prog w) A (C37 (.ref t) (.ref g)) Q E s:=by
 have b:sizeOk (.seq ((a.toList.drop (sIx a.size 0 lo)).take (sIx a.size a.size hi-sIx a.size 0 lo)).toArray):=by
  show((a.toList.drop (sIx a.size 0 lo)).take (sIx a.size a.size hi-sIx a.size 0 lo)).toArray.size<=B75;rw[C3,C9,J2,D6]
  lia
 have v:sIx a.size a.size hi<=a.size:=qaX _ _ (B4 _) hi;obtain⟨n,d,e,o⟩:=id l;have f:s.TypeIs (.ref g) "slice":=⟨n,d,e⟩;unfold C37
 try with_reducible refine B84 ?_
 first|refine B73 (B74 ?_)|skip
 refine B73 (wpAny_sequenceKey c.typeIs (by decide) ?_)
 refine B73 (wpAny_callSpecial?_slot (name:=B1 "__getitem__") c.typeIs M7
  (B86 M7 c.typeIs entry_tuple_getitem ?_ (args_tuple_getitem _ _)))
 show wpAny _ _ (d5 (.ref t) >>= _) _ _ s;refine B73 (tupleItemsOf_ c ?_);refine B73 (C43 f ?_);rw[if_pos (by decide)]
 refine B73 (qF2 l p u ?_);have i:¬((((sIx a.size 0 lo:Nat):Int)==0&&(1:Int)==1&&(sIx a.size a.size hi-sIx a.size 0 lo)==a.size)=true):=by
  intro q;rw[L3,L3] at q;have x:((sIx a.size 0 lo:Nat):Int)=0:=eq_of_beq q.1.1;have y:sIx a.size a.size hi-sIx a.size 0 lo=a.size:=eq_of_beq q.2;exact r ⟨by lia,by lia⟩
 show wpAny _ _ (if(((sIx a.size 0 lo:Nat):Int)==0&&(1:Int)==1&&(sIx a.size a.size hi-sIx a.size 0 lo)==a.size)=true then _ else _) _ _ s
 rw[if_neg i,qWK]
 first
  |exact B73 (m:=O6 _) (B82 (B74 (xR rfl (B74 h))) b)
  |exact B73 (m:=O6 _) (B82 (B73 (B74 (B74 (xR rfl (B74 h))))) b)
  |exact B73 (B73 (m:=O6 _) (B82 (B74 (B74 (xR rfl (B74 h)))) b))
  |exact B73 (B73 (m:=O6 _) (B82 (B74 (xR rfl (B74 h))) b))
end
end HT
namespace _L
open PySem PySem.Spec PyProof.Rows
abbrev TO:=St->Hp->(Option Int->Hp->Prop)->Prop
def PO (X:Cx)(e:Option Expr)(t:TO):Prop:=
 ∀(Ab:Aa2) (s:Shared) (σ:St) (H:Hp) (Q:Option Int->Hp->Prop),Inv X Ab σ H s->t σ H Q->
  wpAny (model X.prog X.w) X.A (evalPart e X.env) (λu s'=>∃o H',Inv X Ab σ H' s'/\IsPart u o/\Q o H') X.xe s
def qYQ:TO:=λ_ H Q=>Q none H
def qcN (t:TE):TO:=λσ H Q=>t σ H λx H1=>∃i,x=.int i/\Q (some i) H1
theorem qSL {ns:List Int} :∀{us:List Value},Vals (ns.map V.int) us->C01 us ns:=by
 induction ns with
 |nil=>intro us r;rw[A52] at r;cases r;exact .nil
 |cons n ns ih=>
  intro us r;rw[D8] at r;cases r with
  |cons r1 r2=>
   obtain⟨t,e⟩:=r1;subst e;exact .cons n t (ih r2)
section
variable{X:Cx}{e:Expr}{te:TE}{lo hi:Option Expr}{tl th:TO}{pos p2:Pos}
theorem qBK:PO X none qYQ:=by
 intro a s σ H Q I h;rw[evalPart_none];exact B74 ⟨none,H,I,.none,h⟩
theorem qB3 (h:PE X e te):PO X (some e) (qcN te):=by
 intro a s σ H Q I b;rw[evalPart_some];refine thn (h a s σ H _ I b) λu s1 ⟨x,H1,I1,r1,q1⟩=>?_;obtain⟨i,rfl,q⟩:=q1;obtain⟨t,rfl⟩:=r1;exact⟨some i,H1,I1,.int i t,q⟩
def SlR (X:Cx)(r:V->Option Int->Option Int->Hp->VK->Prop):Prop:=
 ∀(Ab:Aa2) (s:Shared) (σ:St) (H:Hp) (x:V) (v vl vu:Value) (lo hi:Option Int) (sl:Addr) (Q:VK),Inv X Ab σ H s->RelV x v->s.heap.IsSliceOf sl vl vu .none->IsPart vl lo->IsPart vu hi->r x lo hi H Q->
  ∃T id,typeLookup (.type T) "__getitem__" = pure (some (.builtin id))/\s.TypeIs v T/\wpAny (model X.prog X.w) X.A (C37 v (.ref sl)) (EP X Ab σ Q) X.xe s
def tSl (r:V->Option Int->Option Int->Hp->VK->Prop)(te:TE)(tl th:TO):TE:=λσ H Q=>te σ H λx H1=>tl σ H1 λl H2=>th σ H2 λu H3=>r x l u H3 Q
theorem qAY {r:V->Option Int->Option Int->Hp->VK->Prop} (g:SlR X r)(k:PE X e te)(m:PO X lo tl)(j:PO X hi th):PE X (.Subscript e (.Slice lo hi none p2) pos) (tSl r te tl th):=by
 intro a s σ H Q I h;refine Subscript_ (thn (k a s σ H _ I h) λv s1 ⟨x,H1,I1,r1,q1⟩=>?_);refine wpAny_Slice (thn (m a s1 σ H1 _ I1 q1) λvl s2 ⟨l,H2,I2,pl,q2⟩=>thn (j a s2 σ H2 _ I2 q2) λvu s3 ⟨u,H3,I3,pu,q3⟩=>?_);rw[evalPart_none];refine B74 ?_;have i:Inv X a σ H3 {s3 with heap:=s3.heap.push {cls:=.type "slice",data:=.fields #[vl,vu,.none]}}:=I3.kept (t':=s3.toks) λb o q=>A1 _ q;obtain⟨T,n,c,f,d⟩:=g a {s3 with heap:=s3.heap.push {cls:=.type "slice",data:=.fields #[vl,vu,.none]}} σ H3 x v vl vu l u s3.heap.objs.size Q i r1 (A88 ..) pl pu q3;show wpAny (model X.prog X.w) X.A (subscriptTail e (.Slice lo hi none p2) v (.ref s3.heap.objs.size)) (EP X a σ Q) X.xe {s3 with heap:=s3.heap.push {cls:=.type "slice",data:=.fields #[vl,vu,.none]}};exact tail_any (ops:=[.ref s3.heap.objs.size,v]) f c d (by with_unfolding_all rfl)
noncomputable def cutV (xs:List V)(lo hi:Option Int):List V:=(xs.drop (HT.sIx xs.length 0 lo)).take (HT.sIx xs.length xs.length hi-HT.sIx xs.length 0 lo)
theorem qKD (xs:List V)(lo hi:Option Int):(cutV xs lo hi).length<=xs.length:=by
 unfold cutV;rw[C9,J2]
 lia
def rSlT (K:Ab1):V->Option Int->Option Int->Hp->VK->Prop:=λx lo hi H Q=>∃a xs,x=.ref a/\SqT K H a xs/\
 ¬(HT.sIx xs.length 0 lo=0/\HT.sIx xs.length xs.length hi=xs.length)/\∀p,H p=none->Q (.ref p) (Ag H p (.tup (cutV xs lo hi)))
theorem qNS:SlR X (rSlT X.K):=by
 intro y s σ H x v w u e f z Q I k l m t h;obtain⟨a,d,rfl,p,n,q⟩:=h;cases k;obtain⟨g,r,i,j⟩:=I.tuple p;have c:g.toArray.size=d.length:=by rw[C3];exact r.length.symm
 refine⟨"tuple",_,M7.lookup,i.typeIs,?_⟩;refine HT.getItem_tuple_cut i l m t (by rw[c];exact n) ?_ (by rw[c];exact j)
 rw[c];refine⟨.ref s.heap.objs.size,_,I.laid (t':=s.toks) (o:=.tup (cutV d e f)) (λb ob q=>A1 _ q) (B4 _) ?_,rfl,q _ (I.hok.fresh (B4 _))⟩;exact⟨F4 (qKD d e f) j,_,(r.drop (HT.sIx d.length 0 e)).take (HT.sIx d.length d.length f-HT.sIx d.length 0 e),IsTup.new _ _⟩
def qd8 (K:Ab1):R2:=λx y H Q=>∃a b xs ys,x=.ref a/\y=.ref b/\SqT K H a xs/\SqT K H b ys/\xs≠[]/\xs.length+ys.length<=B75/\
 (ys=[]->Q (.ref a) H)/\(ys≠[]->∀p,H p=none->Q (.ref p) (Ag H p (.tup (xs++ys))))
theorem Vals.nil_iff {xs:List V} {a:List Value} (r:Vals xs a):a=[]↔xs=[]:=by
 cases r with
 |nil=>simp
 |cons _ _=>simp
theorem qU3:OpR X (C13 .Add) (qd8 X.K):=by
 intro Ab s σ H x y v u Q I l j h;obtain⟨a,b,g,i,rfl,rfl,ha,k,p,f,n,q2⟩:=h;cases l;cases j;obtain⟨m,d,t,_⟩:=I.tuple ha;obtain⟨e,c,r,_⟩:=I.tuple k;refine HT.cat_tup t r (λz=>p (d.nil_iff.mp z)) (λz=>⟨.ref a,H,I,rfl,n (c.nil_iff.mp z)⟩) (λz=>?_) (by rw[<- d.length,<- c.length];exact f)
 refine⟨.ref s.heap.objs.size,_,I.laid (t':=s.toks) (o:=.tup (g++i)) (λb ob q=>A1 _ q) (B4 _) ?_,rfl,q2 (λw=>z (c.nil_iff.mpr w)) _ (I.hok.fresh (B4 _))⟩;exact⟨by rw[A6];exact f,_,d.append c,IsTup.new _ _⟩
end
noncomputable def ixN (n:Nat)(i:Int):Option Nat:=if 0<=i then(if i<n then some i.toNat else none) else if -(n:Int)<=i then some (i+n).toNat else none
noncomputable def atI {α:Type}(xs:List α)(i:Int):Option α:=(ixN xs.length i).bind λj=>xs[j]?
theorem qUP {n:Nat} {i:Int} {j:Nat} (h:ixN n i=some j):seqIndex? i n=some j/\j<n/\-(n:Int)<=i/\i<n:=by
 unfold ixN at h;by_cases b:0<=i
 ·rw[if_pos b] at h;by_cases a:i<n
  ·rw[if_pos a] at h;have e:i.toNat=j:=D7 h;exact⟨by rw[seqIndex_of b a,e],by lia,by lia,a⟩
  ·rw[if_neg a] at h;cases h
 ·rw[if_neg b] at h;by_cases a : -(n:Int)<=i
  ·rw[if_pos a] at h;have e:(i+n).toNat=j:=D7 h;exact⟨by rw[seqIndex_neg (by lia) a,e],by lia,a,by lia⟩
  ·rw[if_neg a] at h;cases h
theorem qVW {α:Type} {xs:List α} {i:Int} {v:α} (h:atI xs i=some v):∃j,seqIndex? i xs.length=some j/\xs[j]?=some v/\j<xs.length/\-(xs.length:Int)<=i/\i<xs.length:=by
 unfold atI at h;cases e:ixN xs.length i with
 |none=>rw[e] at h;cases h
 |some j=>
  rw[e] at h;obtain⟨b,a,d,c⟩:=qUP e;exact⟨j,b,h,a,d,c⟩
theorem qVV {α:Type} {xs:List α} {j:Nat} {v:α} (h:xs[j]?=some v):atI xs (j:Int)=some v:=by
 have a:j<xs.length:=(B5.mp h).1;have e:ixN xs.length (j:Int)=some j:=by
  unfold ixN;rw[if_pos (by lia),if_pos (by lia)];simp
 unfold atI;rw[e];exact h
def qa5 (b:Expr):Prop:=∀o i,subscripted b false o i=operate [o,i] (C37 o i)
def IxR (X:Cx)(r:R2):Prop:=
 ∀(value slice:Expr) (Ab:Aa2) (s:Shared) (σ:St) (H:Hp) (x y:V) (v u:Value) (Q:VK),Inv X Ab σ H s->RelV x v->RelV y u->r x y H Q->
  subscripted slice false v u=operate [v,u] (C37 v u)->wpAny (model X.prog X.w) X.A (subscriptTail value slice v u) (EP X Ab σ Q) X.xe s
def MtR (X:Cx)(id:String)(r:V->List V->Hp->VK->Prop):Prop:=
 ∀(Ab:Aa2) (s:Shared) (σ:St) (H:Hp) (x:V) (xs:List V) (v:Value) (us:List Value) (Q:VK),Inv X Ab σ H s->RelV x v->Vals xs us->r x xs H Q->
  wpAny (model X.prog X.w) X.A (call (.builtin id) (v::us)) (EP X Ab σ Q) X.xe s
section
variable{X:Cx}{a b:Expr}{ta tb:TE}{pos:Pos}
theorem qAT {r:R2} (g:IxR X r)(m:PE X a ta)(e:PE X b tb)(j:qa5 b):PE X (.Subscript a b pos) (tOp r ta tb):=by
 intro i s σ H Q I h;exact Subscript_ (binT m e I h λv u k x y c l f d q=>g a b i k σ c x y v u Q l f d q (j _ _))
def rIxL (K:Ab1):R2:=λx y H Q=>∃p xs i v,x=.ref p/\y=.int i/\SqL K H p xs/\atI xs i=some v/\Q v H
def rIxT (K:Ab1):R2:=λx y H Q=>∃p xs i v,x=.ref p/\y=.int i/\SqT K H p xs/\atI xs i=some v/\Q v H
theorem qCO:IxR X (rIxL X.K):=by
 intro k g m s σ H x y v u Q I rx ry h o;obtain⟨p,xs,i,z,rfl,rfl,hq,he,q⟩:=h;cases rx;obtain⟨t,rfl⟩:=ry;obtain⟨d,r,e,hz⟩:=I.list hq;obtain⟨j,b,h2,h3,h4,h5⟩:=qVW he;obtain⟨w,n,c⟩:=r.get h2;have hl:=r.length;have hn:=qOC;have a:EP X m σ Q w s:=⟨z,H,I,c,q⟩;by_cases l:0<=i
 ·have f:i.toNat=j:=by
   rw[seqIndex_of l h5] at b;exact D7 b
  exact item_listR e.isList l (by lia) (by rw[f];simpa using n) a o
 ·have f:(i+(d.toArray.size:Int)).toNat=j:=by
   rw[seqIndex_neg (by lia) h4] at b
   rw[C3,<- hl];exact D7 b
  exact subscriptTail_builtinR (x:=w) e.isList.typeIs slot_list_getitem.lookup
   (wpAny_getItem_list_neg (Q:=λr s'=>r=w/\EP X m σ Q r s') e.isList (by lia) (by rw[C3]<;>lia) (by lia) (by rw[f];simpa using n) ⟨rfl,a⟩) o
theorem qAM:IxR X (rIxT X.K):=by
 intro d c e s σ H x y v u Q I o ry h hs;obtain⟨p,xs,i,z,rfl,rfl,n,he,q⟩:=h;cases o;obtain⟨t,rfl⟩:=ry;obtain⟨k,r,f,hz⟩:=I.tuple n;obtain⟨j,g,h2,h3,h4,h5⟩:=qVW he;obtain⟨w,ew,a⟩:=r.get h2;have m:=r.length;have hn:=qOC;have b:EP X e σ Q w s:=⟨z,H,I,a,q⟩;exact subscriptTail_builtinR (x:=w) f.typeIs slot_tuple_getitem.lookup
  (getItem_tuple (j:=j) (Q:=λr l=>r=w/\EP X e σ Q r l) f (by lia) (by lia) (by rw[C3,<- m];exact g) (by simpa using ew) ⟨rfl,b⟩) hs
theorem qSH (a:List Value) (n j:Nat) (u:Value):P2 (·.setIfInBounds j u) {cls:=.type "list",data:=.seq a.toArray n}={cls:=.type "list",data:=.seq (a.set j u).toArray n}:=by
 simp[P2]
theorem Inv.lst {Ab:Aa2} {σ:St} {H:Hp} {p:Addr} {xs:List V} (I:Inv X Ab σ H s)(h:H p=some (.lst xs)):
  ∃(its:List Value) (n:Nat),Vals xs its/\s.heap.get? p=some {cls:=.type "list",data:=.seq its.toArray n}/\xs.length<=B75:=by
 obtain⟨z,its,n,r,e⟩:=I.hok p _ h;exact⟨its,n,r,e,z⟩
theorem Inv.lstUpd {Ab:Aa2} {σ:St} {H:Hp} {p:Addr} {xs ys:List V} {a its':List Value} {n c:Nat} {f:Obj->Obj} (I:Inv X Ab σ H s)(h:H p=some (.lst xs))
  (i:s.heap.get? p=some {cls:=.type "list",data:=.seq a.toArray n}) (d:f {cls:=.type "list",data:=.seq a.toArray n}={cls:=.type "list",data:=.seq its'.toArray c}) (r:Vals ys its') (j:ys.length<=B75) (t:Nat):
  Inv X Ab σ (Ag H p (.lst ys)) {s with heap:=s.heap.update p f,toks:=t}:=by
 have e:(s.heap.update p f).get? p=some {cls:=.type "list",data:=.seq its'.toArray c}:=by
  rw[L6 f i (by rw[d]<;>rfl),d]
 refine I.write (x:=p) (e:=p) (by rw[h];trivial) (.inl rfl) (λb u g q=>(D5 _ _ (J4 g)).trans q) ⟨_,e⟩ ?_
 exact⟨j,its',c,r,e⟩
def qd6:V->V->V->Hp->(Hp->Prop)->Prop:=λo i v H Q=>∃p xs k j,o=.ref p/\i=.int k/\H p=some (.lst xs)/\ixN xs.length k=some j/\Q (Ag H p (.lst (xs.set j v)))
theorem qIT:PSet X qd6:=by
 intro y s σ H o i v ov iv u Q I ro z rv h;obtain⟨p,xs,k,j,rfl,rfl,w,hj,q⟩:=h;cases ro;obtain⟨t,rfl⟩:=z;obtain⟨a,n,r,e,x⟩:=I.lst w;obtain⟨b,h2,g,m⟩:=qUP hj;have c:=r.length;have hn:=qOC;have l:Inv X y σ (Ag H p (.lst (xs.set j v))) {s with heap:=s.heap.update p (P2 (·.setIfInBounds j u))}:=
  I.lstUpd w e (qSH a n j u) (r.set rv j) (by rw[W2];exact x) s.toks
 by_cases f:0<=k
 ·have d:k.toNat=j:=by
   rw[seqIndex_of f m] at b;exact D7 b
  exact PySem.W.ki_setAt e f (by lia) (by rw[C3,<- c];exact m) (by rw[d];exact⟨_,l,q⟩)
 ·have d:(k+(a.toArray.size:Int)).toNat=j:=by
   rw[seqIndex_neg (by lia) g] at b
   rw[C3,<- c];exact D7 b
  exact PySem.W.ki_setBack e (by lia) (by rw[C3,<- c];exact g) (by lia) (by rw[d];exact⟨_,l,q⟩)
theorem qNR (lo hi:Option Int)(n:Nat):(C38 lo hi none n).1=((HT.sIx n 0 lo:Nat):Int)/\(C38 lo hi none n).2.1=((HT.sIx n n hi:Nat):Int)/\(C38 lo hi none n).2.2=1:=by
 refine⟨?_,?_,rfl⟩
 ·cases lo with
  |none=>simp[C38,HT.sIx]
  |some i=>
   simp only[C38,HT.sIx,B19,show(1:Int)>0 by decide,if_true]
   by_cases h:i<0
   ·simp only[h,if_true]<;>lia
   ·simp only[h,if_false]<;>lia
 ·cases hi with
  |none=>simp[C38,HT.sIx]
  |some i=>
   simp only[C38,HT.sIx,B19,show(1:Int)>0 by decide,if_true]
   by_cases h:i<0
   ·simp only[h,if_true]<;>lia
   ·simp only[h,if_false]<;>lia
theorem qMB (a:List Value)(lo hi:Option Int):slicePick a.toArray lo hi none=((a.drop (HT.sIx a.length 0 lo)).take (HT.sIx a.length a.length hi-HT.sIx a.length 0 lo)).toArray:=by
 obtain⟨c,b,d⟩:=qNR lo hi a.toArray.size;unfold slicePick;rw[c,b,d];simp only[sliceRange_one,pick_run,C3]<;>rfl
def rSlL (K:Ab1):V->Option Int->Option Int->Hp->VK->Prop:=λx lo hi H Q=>∃a xs,x=.ref a/\SqL K H a xs/\∀p,H p=none->Q (.ref p) (Ag H p (.lst (cutV xs lo hi)))
theorem qCM:SlR X (rSlL X.K):=by
 intro w s σ H x v u t e f y Q I i j l n h;obtain⟨a,c,rfl,m,q⟩:=h;cases i;obtain⟨k,r,g,p⟩:=I.list m;have d:=r.length;refine⟨"list",_,slot_list_getitem.lookup,g.isList.typeIs,?_⟩;refine wpAny_getItem_list_slice g.isList j l n .none (by simp) ?_ (by rw[C3]<;>lia)
 rw[qMB,<- d];refine⟨.ref s.heap.objs.size,_,I.laid (t':=s.toks) (o:=.lst (cutV c e f)) (λb z q=>A1 _ q) (B4 _) ?_,rfl,q _ (I.hok.fresh (B4 _))⟩;exact⟨F4 (qKD c e f) p,_,0,(r.drop (HT.sIx c.length 0 e)).take (HT.sIx c.length c.length f-HT.sIx c.length 0 e),B8 _ rfl⟩
noncomputable def qMZ:V->Bool
 |.non=>true
 |.bl _=>true
 |.int _=>true
 |.str _=>true
 |_=>false
noncomputable def eqV:V->V->Bool
 |.non,.non=>true
 |.bl a,.bl b=>a==b
 |.bl a,.int b=>(if a then 1 else 0)==b
 |.int a,.bl b=>a==(if b then 1 else 0)
 |.int a,.int b=>a==b
 |.str a,.str b=>a==b
 |_,_=>false
theorem qc8 {y x:V} {u v:Value} (e:RelV y u)(c:RelV x v)(g:qMZ y=true)(f:qMZ x=true):SeqAt.EqAt A s u v (eqV y x):=by
 cases y with
 |non=>
  cases e;cases x with
  |non=>cases c;exact B33 _
  |bl b=>cases c;exact SeqAt.EqAt.none_bool b
  |int b=>obtain⟨t,rfl⟩:=c;exact A72 b t
  |str b=>obtain⟨t,rfl⟩:=c;exact A73 b t
  |_=>exact absurd (show false=true from f) B6
 |bl a=>
  cases e;cases x with
  |non=>cases c;exact SeqAt.EqAt.bool_none a
  |bl b=>cases c;exact SeqAt.EqAt.bool_bool a b
  |int b=>obtain⟨t,rfl⟩:=c;exact SeqAt.EqAt.bool_int a b t
  |str b=>obtain⟨t,rfl⟩:=c;exact SeqAt.EqAt.bool_str a b t
  |_=>exact absurd (show false=true from f) B6
 |int a=>
  obtain⟨d,rfl⟩:=e;cases x with
  |non=>cases c;exact A70 a d
  |bl b=>cases c;exact SeqAt.EqAt.int_bool a d b
  |int b=>obtain⟨t,rfl⟩:=c;exact A87 a d b t
  |str b=>obtain⟨t,rfl⟩:=c;exact A81 a d b t
  |_=>exact absurd (show false=true from f) B6
 |str a=>
  obtain⟨d,rfl⟩:=e;cases x with
  |non=>cases c;exact A71 a d
  |bl b=>cases c;exact SeqAt.EqAt.str_bool a d b
  |int b=>obtain⟨t,rfl⟩:=c;exact A82 a d b t
  |str b=>obtain⟨t,rfl⟩:=c;exact SeqAt.EqAt.str_str a d b t
  |_=>exact absurd (show false=true from f) B6
 |_=>exact absurd (show false=true from g) B6
noncomputable def eqU (x:V)(u:Value):Bool:=match u with
 |.none=>eqV .non x
 |.bool b=>eqV (.bl b) x
 |.int i _=>eqV (.int i) x
 |.str z _=>eqV (.str z) x
 |_=>false
theorem qY4 {x y:V} {u:Value} (r:RelV y u)(f:qMZ y=true):eqU x u=eqV y x:=by
 cases y with
 |non=>cases r;rfl
 |bl b=>cases r;rfl
 |int i=>obtain⟨t,rfl⟩:=r;rfl
 |str z=>obtain⟨t,rfl⟩:=r;rfl
 |_=>exact absurd (show false=true from f) B6
theorem qKH {x:V} :∀{xs:List V} {us:List Value},Vals xs us->xs.all qMZ=true->us.any (eqU x)=xs.any λy=>eqV y x
 |_,_,.nil,_=>rfl
 |y::xs,u::us,.cons r t,f=>by
  rw[B58,L3] at f;rw[c8,c8,qY4 r f.1,qKH t f.2]
theorem qGW {x:V} {v:Value} (rx:RelV x v)(fx:qMZ x=true):∀{xs:List V} {us:List Value},Vals xs us->xs.all qMZ=true->∀u∈us,SeqAt.EqAt A s u v (eqU x u)
 |_,_,.nil,_=>λu hu=>by cases hu
 |y::xs,u::us,.cons r t,f=>λu' hu=>by
  rw[B58,L3] at f;rcases C0.mp hu with rfl|hu
  ·rw[qY4 r f.1];exact qc8 r rx f.1 fx
  ·exact qGW rx fx t f.2 u' hu
noncomputable def inV (x:V)(xs:List V):Bool:=xs.any λy=>eqV y x
def rIn (K:Ab1)(neg:Bool):R2:=λx y H Q=>∃p xs,y=.ref p/\(SqL K H p xs\/SqT K H p xs)/\qMZ x=true/\xs.all qMZ=true/\Q (.bl (if neg then !inV x xs else inV x xs)) H
theorem qJP:OpR X (B94 .In) (rIn X.K false):=by
 intro k s σ H x y v u Q I e g h;obtain⟨p,j,rfl,hq,f,b,q⟩:=h;cases g;rcases hq with hq|hq
 ·obtain⟨a,r,c,i⟩:=I.list hq;refine SeqAt.in_listAt (eqU x) c.isList (λw d=>qGW e f r b w (by simpa using d)) ⟨.bl _,H,I,rfl,?_⟩
  rw[show a.toArray.any (eqU x)=a.any (eqU x) by simp,qKH r b]
  exact q
 ·obtain⟨a,r,c,i⟩:=I.tuple hq;refine SeqAt.in_tupleAt (eqU x) c (λw d=>qGW e f r b w (by simpa using d)) ⟨.bl _,H,I,rfl,?_⟩
  rw[show a.toArray.any (eqU x)=a.any (eqU x) by simp,qKH r b]
  exact q
theorem qO3:OpR X (B94 .NotIn) (rIn X.K true):=by
 intro k s σ H x y v u Q I e g h;obtain⟨p,j,rfl,hq,f,b,q⟩:=h;cases g;rcases hq with hq|hq
 ·obtain⟨a,r,c,i⟩:=I.list hq;refine SeqAt.notIn_listAt (eqU x) c.isList (λw d=>qGW e f r b w (by simpa using d)) ⟨.bl _,H,I,rfl,?_⟩
  rw[show a.toArray.any (eqU x)=a.any (eqU x) by simp,qKH r b]
  exact q
 ·obtain⟨a,r,c,i⟩:=I.tuple hq;refine SeqAt.notIn_tupleAt (eqU x) c (λw d=>qGW e f r b w (by simpa using d)) ⟨.bl _,H,I,rfl,?_⟩
  rw[show a.toArray.any (eqU x)=a.any (eqU x) by simp,qKH r b]
  exact q
theorem qA9:qDX X (.builtin "len") (λxs H Q=>∃p ys,xs=[.ref p]/\(SqL X.K H p ys\/SqT X.K H p ys)/\Q (.int ys.length) H):=by
 intro i s σ H xs j Q I r h;obtain⟨p,ys,rfl,hq,q⟩:=h;obtain⟨u,rfl,e⟩:=qEI r;cases e;have g:=qOC;rcases hq with hq|hq
 ·obtain⟨b,d,c,f⟩:=I.list hq;have a:=d.length;exact Calls.call_len_list c.isList (by simp only[C3]<;>lia) ⟨.int ys.length,H,I.tok _,⟨s.toks+1,by rw[C3,a]⟩,q⟩
 ·obtain⟨b,d,c,f⟩:=I.tuple hq;have a:=d.length;exact len_tuple c (by simp only[C3]<;>lia) ⟨.int ys.length,H,I.tok _,⟨s.toks+1,by rw[C3,a]⟩,q⟩
theorem qFL:qDX X (.type "list") (λxs H Q=>∃p ys,xs=[.ref p]/\(SqL X.K H p ys\/SqT X.K H p ys)/\∀l,H l=none->Q (.ref l) (Ag H l (.lst ys))):=by
 intro v s σ H xs x Q I r h;obtain⟨p,ys,rfl,hq,q⟩:=h;obtain⟨u,rfl,t⟩:=qEI r;cases t;have g:∀(its:List Value),Vals ys its->ys.length<=B75->∀(h':Heap) (c':Nat),(∀b o',s.heap.get? b=some o'->h'.get? b=some o')->
   h'.get? s.heap.objs.size=some {cls:=.type "list",dict:=none,data:=.seq its.toArray c',slots:=#[]}->EP X v σ Q (.ref s.heap.objs.size) {s with heap:=h'}:=λits a f h' c' d e=>
  ⟨.ref s.heap.objs.size,_,I.laid (t':=s.toks) d (B4 _) (show ObjOk X.prog X.w _ h' _ (.lst ys) from⟨f,its,c',a,e⟩),rfl,q _ (I.hok.fresh (B4 _))⟩
 rcases hq with hq|hq
 ·obtain⟨its,a,k,f⟩:=I.list hq;have c:=a.length;obtain⟨o,m,i,n,j⟩:=k.isList;exact call_list_seq p (.inl rfl) m i j (λh' c' d e=>g its a f h' c' d e) (by simp only[C3]<;>lia)
 ·obtain⟨its,a,k,f⟩:=I.tuple hq;have c:=a.length;obtain⟨o,m,i,n,j⟩:=k;exact call_list_seq p (.inr rfl) m i j (λh' c' d e=>g its a f h' c' d e) (by simp only[C3]<;>lia)
theorem qAU:qDX X (.type "tuple") (λxs H Q=>∃p ys,xs=[.ref p]/\((SqL X.K H p ys/\∀l,H l=none->Q (.ref l) (Ag H l (.tup ys)))\/(SqT X.K H p ys/\Q (.ref p) H))):=by
 intro k s σ H xs x Q I r h;obtain⟨p,ys,rfl,h⟩:=h;obtain⟨u,rfl,n⟩:=qEI r;cases n;rcases h with⟨f,q⟩|⟨f,q⟩
 ·obtain⟨a,g,d,m⟩:=I.list f;have j:=g.length;refine call_tuple_list d.isList (λc t=>?_) (by simp only[C3]<;>lia)
  have i:Inv X k σ H {s with heap:=c}:=I.kept (t':=s.toks) t;have v:Inv X k σ (Ag H c.objs.size (.tup ys)) {s with heap:=c.push {cls:=.type "tuple",data:=.seq a.toArray}}:=
   i.laid (t':=s.toks) (λb o e=>A1 _ e) (B4 _) (show ObjOk X.prog X.w _ _ _ (.tup ys) from⟨m,a,g,IsTup.new _ _⟩)
  exact⟨.ref c.objs.size,_,v,rfl,q _ (i.hok.fresh (B4 _))⟩
 ·obtain⟨a,g,d,m⟩:=I.tuple f;exact call_tuple_same d ⟨.ref p,H,I,rfl,q⟩
def tyV (K:Ab1)(T:String)(x:V)(H:Hp):Prop:=match x with
 |.str _=>T = "str"
 |.int _=>T = "int"
 |.ref p=>(T = "list"/\∃xs,SqL K H p xs)\/(T = "tuple"/\∃o,K.lookup p=some o/\o.cls=.type "tuple"/\o.dict=none)\/
   (T = "dict"/\((∃Af,H p=some (.dK Af))\/∃Af,H p=some (.dT Af)))\/(T = "set"/\∃S n,H p=some (.set S n))
 |_=>False
theorem qXO {Ab:Aa2} {σ:St} {H:Hp} {T:String} {x:V} {v:Value} (I:Inv X Ab σ H s)(r:RelV x v)(f:tyV X.K T x H):
  s.TypeIs v T/\∀a,v=.ref a->∃ob,s.heap.get? a=some ob/\ob.dict=none:=by
 cases x with
 |str z=>
  obtain⟨t,rfl⟩:=r;cases(show T = "str" from f);exact⟨typeIs_str s z t,λ_ e=>nomatch e⟩
 |int i=>
  obtain⟨t,rfl⟩:=r;cases(show T = "int" from f);exact⟨typeIs_int s i t,λ_ e=>nomatch e⟩
 |ref p=>
  cases r;rcases f with⟨rfl,u,m⟩|⟨rfl,o,b,k,g⟩|⟨rfl,b⟩|⟨rfl,S,n,b⟩
  ·obtain⟨l,_,j,_⟩:=I.list m;refine⟨j.isList.typeIs,λa e=>?_⟩;cases e;obtain⟨o,n,e,c,g,_⟩:=j;exact⟨o,e,g⟩
  ·refine⟨⟨o,I.kIn p o b,k⟩,λa e=>?_⟩;cases e;exact⟨o,I.kIn _ o b,g⟩
  ·have z:∃o,s.heap.get? p=some o/\o.ExactDict:=by
    rcases b with⟨q,b⟩|⟨q,b⟩
    ·obtain⟨_,_,_,_,o,_,_,e,d,_⟩:=I.hok p _ b;exact⟨o,e,d⟩
    ·obtain⟨_,_,_,_,o,_,_,e,d,_⟩:=I.hok p _ b;exact⟨o,e,d⟩
   obtain⟨o,e,d⟩:=z;refine⟨⟨o,e,d.1⟩,λa h=>?_⟩;cases h;exact⟨o,e,d.2.1⟩
  ·obtain⟨o,_,_,_,e,d,_⟩:=I.hok p _ b;refine⟨⟨o,e,d.1⟩,λa h=>?_⟩;cases h;exact⟨o,e,d.2.1⟩
 |_=>exact P1 f
def tBM0 (K:Ab1)(T:String)(r:V->List V->Hp->VK->Prop)(to:TE):TE:=λσ H Q=>to σ H λx H1=>tyV K T x H1/\r x [] H1 Q
def tBM (K:Ab1)(T:String)(r:V->List V->Hp->VK->Prop)(to:TE)(t:TA):TE:=λσ H Q=>to σ H λx H1=>tyV K T x H1/\t σ H1 λxs H2=>r x xs H2 Q
variable{o e:Expr}{es:List Expr}{to:TE}{t:TA}{name:Str}{apos cpos:Pos}{T id:String}{r:V->List V->Hp->VK->Prop}
theorem qb6 (j:PlainAttrs T) (c:Slot T name id) (d:typeOf (.builtin id)=pure (.type "method_descriptor")) (i:MtR X id r) (k:PE X o to)
  (b:attributeBase o name X.env (eval o X.env)=eval o X.env:=by rfl) (a:(apos.endLine==cpos.line)=true:=by rfl):PE X (.Call (.Attribute o name apos) [] [] cpos) (tBM0 X.K T r to):=by
 intro e s σ H Q I h;refine wpAny_Call_method0_late b a (thn (k e s σ H _ I h) λv s1 ⟨x,H1,I1,r1,ty,q1⟩=>?_);obtain⟨f,g⟩:=qXO I1 r1 ty;exact⟨T,id,j,c,d,f,g,A47 rfl (PySem.evalArgs_none (i e s1 σ H1 x [] v [] Q I1 r1 .nil q1))⟩
theorem qO0 (n:PlainAttrs T) (f:Slot T name id) (g:typeOf (.builtin id)=pure (.type "method_descriptor")) (m:MtR X id r) (q:PE X o to) (u:PA X (e::es) t)
  (c:attributeBase o name X.env (eval o X.env)=eval o X.env:=by rfl)
  (d:((backTo cpos (B85 (e::es) X.env)).all (fun x=>!x.1) && (backToKw cpos (keywordEach [] X.env)).all (fun x=>x.1.isSome)
   && decide ((e::es).length+([]:List Keyword).length+(if([]:List Keyword).isEmpty then 0 else 1)<30))=true:=by rfl)
  (b:(apos.endLine==cpos.line)=true:=by rfl) (p:B85 (e::es) X.env=(false,eval e X.env)::B85 es X.env:=by rfl) (a:(backTo cpos (B85 es X.env)).any (·.1)=false:=by rfl):
  PE X (.Call (.Attribute o name apos) (e::es) [] cpos) (tBM X.K T r to t):=by
 intro i s σ H Q I h;refine wpAny_Call_method_late c d b rfl (thn (q i s σ H _ I h) λv s1 ⟨x,H1,I1,r1,ty,q1⟩=>?_);obtain⟨k,l⟩:=qXO I1 r1 ty;refine⟨T,id,n,f,g,k,l,?_⟩;have j:=u cpos i s1 σ H1 _ I1 q1;rw[p] at j ⊢;refine A47 (by show(false||(backTo cpos (B85 es X.env)).any (·.1))=false;rw[a]<;>rfl) (Calls.evalArgs_plain ?_)
 exact thn j λus s2 ⟨vs,H2,I2,r2,q2⟩=>m i s2 σ H2 x vs v us Q I2 r1 r2 q2
end
def MtM (X:Cx)(id:String)(r:V->List V->Hp->VK->Prop):Prop:=
 ∀(Ab:Aa2) (s:Shared) (σ:St) (H:Hp) (x:V) (xs:List V) (v:Value) (us:List Value) (Q:VK),Inv X Ab σ H s->RelV x v->Vals xs us->r x xs H Q->
  wpAny (model X.prog X.w) X.A (call (.builtin id) (v::us)) (EP X Ab σ Q) X.xe s
theorem Vals.one:∀{x:V} {us:List Value},Vals [x] us->∃u,us=[u]/\RelV x u
 |_,_,.cons r .nil=>⟨_,rfl,r⟩
theorem Vals.two:∀{x y:V} {us:List Value},Vals [x,y] us->∃u v,us=[u,v]/\RelV x u/\RelV y v
 |_,_,_,.cons r (.cons q .nil)=>⟨_,_,rfl,r,q⟩
theorem Vals.zero:∀{us:List Value},Vals [] us->us=[]
 |_,.nil=>rfl
theorem Vals.reverse {xs:List V} {a:List Value} (h:Vals xs a):Vals xs.reverse a.reverse:=by
 induction h with
 |nil=>exact .nil
 |cons r t ih=>rw[o6,o6];exact Vals.append ih (.cons r .nil)
theorem Vals.rep {xs:List V} {us:List Value} (h:Vals xs us):∀k:Nat,Vals (F1 k xs).flatten (F1 k us).flatten
 |0=>.nil
 |k+1=>by
  rw[O7,O7,V5,V5];exact Vals.append h (Vals.rep h k)
theorem qK6 (its:List Value):∀(k:Nat) (acc:List Value),
  B02 (λx1 x2=>x1++x2) acc.toArray (F1 k its.toArray)=(acc++(F1 k its).flatten).toArray
 |0,acc=>by simp
 |k+1,acc=>by
  have e:acc.toArray++its.toArray=(acc++its).toArray:=by simp
  have e2:(acc++its)++(F1 k its).flatten=acc++(F1 (k+1) its).flatten:=by
   rw[O7,V5,O3]
  rw[<- e2,<- qK6 its k (acc++its),<- e,O7,W3]
section
variable{X:Cx}{Ab:Aa2}{σ:St}{H:Hp}{s:Shared}{l b:Addr}{xs ys zs:List V}
theorem Inv.lset {a its':List Value} {n:Nat} {f:Array Value->Array Value} {t':Nat} (I:Inv X Ab σ H s)(b:H l=some (.lst xs))
  (e:s.heap.get? l=some {cls:=.type "list",data:=.seq a.toArray n}) (h:f a.toArray=its'.toArray) (d:Vals ys its') (i:ys.length<=B75):
  Inv X Ab σ (Ag H l (.lst ys)) {s with heap:=s.heap.update l (P2 f),toks:=t'}:=by
 have q:=PySem.IsL.update e f;rw[h] at q;refine I.write (x:=l) (e:=l) (by rw[b];exact trivial) (.inl rfl) (λj u c g=>(D5 s.heap (P2 f) (J4 c)).trans g) ⟨_,q⟩ ?_
 exact⟨i,its',_,d,q⟩
theorem Inv.lnew {a:List Value} {t':Nat} (I:Inv X Ab σ H s)(c:Vals ys a)(b:ys.length<=B75):
  Inv X Ab σ (Ag H s.heap.objs.size (.lst ys)) {s with heap:=s.heap.push {cls:=.type "list",data:=.seq a.toArray},toks:=t'}:=
 I.laid (λ_ _ q=>A1 _ q) (B4 _) ⟨b,a,0,c,B8 _ rfl⟩
theorem Inv.fresh (I:Inv X Ab σ H s):H s.heap.objs.size=none:=I.hok.fresh (B4 _)
theorem Inv.lstM (I:Inv X Ab σ H s) (a:H l=some (.lst xs)):xs.length<=B75/\∃(its:List Value) (n:Nat),Vals xs its/\xs.length=its.length/\s.heap.get? l=some {cls:=.type "list",data:=.seq its.toArray n}:=by
 obtain⟨z,its,n,r,e⟩:=I.hok l _ a;exact⟨z,its,n,r,r.length,e⟩
theorem qQX {n:Nat} (h:n<=B75):Y4 n=false:=by
 unfold Y4;exact decide_eq_false (by lia)
end
section
variable{X:Cx}
def qZ0:V->List V->Hp->VK->Prop:=λx vs H Q=>∃l xs y,x=.ref l/\vs=[y]/\H l=some (.lst xs)/\xs.length<B75/\Q .non (Ag H l (.lst (xs++[y])))
theorem qED:MtM X "list.append" qZ0:=by
 intro i s σ H x k v j Q I c f h;obtain⟨l,g,y,rfl,rfl,b,o,q⟩:=h;cases c;obtain⟨u,rfl,d⟩:=f.one;obtain⟨z,a,n,r,m,e⟩:=I.lstM b;refine C45 F.slot_list_append ⟨_,e,rfl⟩ F.entry_list_append (F.args_list_append_2 _ _) (PySem.list_append l a.toArray n u (by rw[C3];lia)) ⟨e,?_⟩
 refine⟨.non,_,I.lset (its':=a++[u]) b e (by simp) (r.append (.cons d .nil)) ?_,rfl,q⟩
 rw[A6,C1]
 lia
def qYZ:V->List V->Hp->VK->Prop:=λx vs H Q=>∃l b xs zs,x=.ref l/\vs=[.ref b]/\H l=some (.lst xs)/\H b=some (.lst zs)/\xs.length+zs.length<=B75/\Q .non (Ag H l (.lst (xs++zs)))
theorem qO9:MtM X "list.extend" qYZ:=by
 intro Ab s σ H x vs v us Q I o t h;obtain⟨l,b,xs,zs,rfl,rfl,g,i,hz,q⟩:=h;cases o;obtain⟨u,rfl,j⟩:=t.one;cases j;obtain⟨z,c,n,r,hl,e⟩:=I.lstM g;obtain⟨y,a,k,m,p,w⟩:=I.lstM i;have f:c.toArray.size+a.toArray.size<=B75:=by rw[C3,C3];lia
 have d:¬(!c.toArray.isEmpty&&Y4 (c.toArray.size+a.toArray.size))=true:=by
  rw[qQX f,p8];exact B6
 refine C45 F.slot_list_extend ⟨_,e,rfl⟩ F.entry_list_extend (F.args_list_extend_2 _ _)
  (AutoSeq1.list_extend_list_list_0 l c.toArray n b a.toArray k d (by rw[C3];lia) (by lia)) ⟨e,w,?_⟩
 refine⟨.non,_,I.lset (its':=c++a) g e (by simp) (r.append m) ?_,rfl,q⟩
 rw[A6]
 lia
def qWH:V->List V->Hp->VK->Prop:=λx vs H Q=>∃l xs,x=.ref l/\vs=[]/\H l=some (.lst xs)/\Q .non (Ag H l (.lst xs.reverse))
theorem qSF:MtM X "list.reverse" qWH:=by
 intro i s σ H x k v j Q I d f h;obtain⟨l,g,rfl,rfl,c,q⟩:=h;cases d;have b:=f.zero;subst b;obtain⟨z,a,n,r,m,e⟩:=I.lstM c;refine C45 F.slot_list_reverse ⟨_,e,rfl⟩ F.entry_list_reverse (F.args_list_reverse_1 _) (AutoSeq1.list_reverse_list_0 l a.toArray n (by rw[C3];lia)) ⟨e,?_⟩
 refine⟨.non,_,I.lset (its':=a.reverse) c e (by simp) r.reverse ?_,rfl,q⟩
 rw[W4]
 lia
def rCat:R2:=λx y H Q=>∃l b xs zs,x=.ref l/\y=.ref b/\H l=some (.lst xs)/\H b=some (.lst zs)/\xs.length+zs.length<=B75/\∀p,H p=none->Q (.ref p) (Ag H p (.lst (xs++zs)))
theorem qG8:OpR X (C13 .Add) rCat:=by
 intro Ab s σ H x y v u Q I g d h;obtain⟨l,b,p,zs,rfl,rfl,f,k,hz,q⟩:=h;cases g;cases d;obtain⟨z,c,n,r,hl,e⟩:=I.lstM f;obtain⟨w,a,t,i,j,m⟩:=I.lstM k;refine PySem.P.add_list e m ?_ (by rw[C3,C3];lia)
 have o:c.toArray++a.toArray=(c++a).toArray:=by simp
 rw[o];exact⟨.ref _,_,I.lnew (t':=s.toks) (r.append i) (by rw[A6];lia),rfl,q _ I.fresh⟩
def rRep:R2:=λx y H Q=>∃l k xs,x=.ref l/\y=.int k/\H l=some (.lst xs)/\-(2^63)<=k/\k<2^63/\xs.length*k.toNat<=B75/\
 ∀p,H p=none->Q (.ref p) (Ag H p (.lst (F1 k.toNat xs).flatten))
theorem qZF {α:Type} (xs:List α)(k:Nat):(F1 k xs).flatten.length=k*xs.length:=by
 induction k with
 |zero=>simp
 |succ k ih=>rw[O7,V5,A6,ih,B15,Nat.add_comm]
theorem qU1:OpR X (C13 .Mult) rRep:=by
 intro Ab s σ H x y v u Q I rx ry h;obtain⟨l,k,xs,rfl,rfl,hH,w,h2,p,q⟩:=h;cases rx;obtain⟨t,rfl⟩:=ry;obtain⟨z,b,n,r,hl,e⟩:=I.lstM hH;have g:b.toArray.size*k.toNat<=B75:=by rw[C3,<- hl];exact p
 have f:¬b.toArray.size*k.toNat>(2^63-1)/8:=by
  have:(B75:Nat)<=(2^63-1)/8:=by decide
  lia
 have i:¬(!Builtin.List.listFitsIndex k)=true:=by
  rw[fitsIndex_both w h2];exact B6
 have c:¬Y4 (b.toArray.size*k.toNat)=true:=by
  rw[qQX g];exact B6
 have d:B02 (λj o=>j++o) #[] (F1 (if b.toArray.isEmpty=true then 0 else k.toNat) b.toArray)=(F1 k.toNat b).flatten.toArray:=by
  have f0:∀m:Nat,B02 (λj o=>j++o) #[] (F1 m b.toArray)=(F1 m b).flatten.toArray:=λm=>by
   have:=qK6 b m [];rw[a8] at this;exact this
  rw[f0];cases b with
  |nil=>simp
  |cons a r'=>rw[if_neg (by simp)]
 refine wpAny_binaryOp_repeat_ref (T:="list") (U:="int") (by decide) ⟨_,e,rfl⟩ (λs'=>typeIs_int s' k t) noFill_list_mul F.fills_int_mul y9 repeat_list B20.lookup
  (C45 y9 (typeIs_int s k t) B21 (B03 _ _) (int___rmul___int_list k t l b.toArray n)
   ⟨e,rfl,⟨_,e,rfl⟩,C45 F.slot_list_mul ⟨_,e,rfl⟩ F.entry_list_mul (F.args_list_mul_2 _ _) (AutoListH.list___mul___list_int_3 l b.toArray n k t i f c) ⟨e,?_⟩⟩)
 rw[d];exact⟨.ref _,_,I.lnew (t':=s.toks) (r.rep k.toNat) (by rw[qZF,Nat.mul_comm];exact p),rfl,q _ I.fresh⟩
end
section
variable{prog:B76}{w:World}{A:Around}{E:Aa1}{s:Shared}
set_option maxRecDepth 100000 in
end
end _L
namespace Att
open PySem PySem.W PySem.Calls PyProof.Rows
theorem qJZ {P:Params} {h:Heap} :∀(ns:List Int) (vs:List Value),WellAll P h vs (ns.map WData.int)->C01 vs ns:=by
 intro ns
 induction ns with
 |nil=>
  intro vs w;rw[A52] at w;cases w;exact .nil
 |cons n ns ih=>
  intro vs w;rw[D8] at w;cases w with
  |cons a b=>
   cases a;exact .cons _ _ (ih _ b)
theorem qTH {l:OpenLaw} {n:Nat} (o:l.most=some n){P:Params}{h:Heap}{args:List WData}{b:List Value}
  (c:l.row.toRowW.claim.pre args=true) (j:WellAll P h b args):
  ∃a vs ns,b=[C7 a]/\args=[WData.list (ns.map WData.int)]/\h.get? a=some {cls:=.type "list",data:=.seq vs.toArray}/\C01 vs ns/\ns.length<=n:=by
 have i:WShape.hasAll [] args [.list .int]=true:=(pre_splitW c).1;have k:l.pre.holds [] {args:=args}=true:=(pre_splitW c).2;obtain⟨d,r,rfl,m,p⟩:=hasAllW_cons i;obtain rfl:=hasAllW_nil p;obtain⟨u,rfl,s⟩:=hasW_list m;obtain⟨ns,rfl⟩:=items_int s;have e:ns.length<=n:=by
  unfold OpenLaw.pre at k;have f:(WTm.not (.lt (.lit (.int (n:Int))) (.len (.arg 0)))).holds [] {args:=[.list (ns.map .int)]}=true:=by
   have f:=(holds_andW k).1;rw[o] at f;exact f
  have g:=condW_of f (w_not (w_lt w_lit (w_len_list (w_arg rfl))));rw[A0] at g;refine t7 λq=>?_;have t:(n:Int)<((ns.length:Nat):Int):=by lia
  first
   |(rw[decide_eq_true t] at g;exact absurd g (by decide))
   |(simp at g;lia)
 cases j with
 |cons w1 w2=>
  cases w2;cases w1 with
  |list ho hall=>exact⟨_,_,ns,rfl,rfl,ho,qJZ ns _ hall,e⟩
theorem qTQ (l:OpenLaw)(args:List WData):l.row.toRowW.claim.post args (.bool true) args=true:=
 postW_of (r:=l.row.toRowW) (X:=(true==true))
  (show WShape.has [] (.bool true) .bool=true by first|rfl|decide|simp[WShape.has,WShape.arms,WShape.armsAll])
  (show(WTm.eq .res (.lit (.bool true))).value [] {args:=args,res:=some (.bool true),after:=args}=some (.bool (true==true)) from w_eq_bool (w_res rfl) w_lit) rfl
theorem attach_call {l:OpenLaw} {n:Nat} {b:List Str} {XP:(Ab0)->Heap->Prop} {YP:World->Heap->Prop} {d:DefRec} 
  (x:l.most=some n) (m:d.params.defaults=[])
  (g:∀ (w:World) (s₀ s₁:Shared) (mg mb:Ab0) (fa:Addr) (o:Obj) (pm cd doc:Value) (a:Addr) (vs:List Value) (ns:List Int),
   Ground q b [] XP w s₀ mg mb s₁.heap->YP w s₁.heap->
   s₁.heap.get? fa=some o->o.data=.func (docDef d.name d.params d.body d.scope pm cd doc)->s₁.heap.CodeRec cd d.name->mg d.name=some (.ref fa)->
   s₁.heap.get? a=some {cls:=.type "list",data:=.seq vs.toArray}->C01 vs ns->ns.length<=n->s₁.gens=#[]->
   C14 (model l.prog w) callerA (.call (.ref fa) ⟨[.ref a],[]⟩) (λr s'=>r=.ok (.ret (.bool true))/\OldK s₁.heap s'.heap/\s'.os=s₁.os/\C44 s'.gens) s₁):
  WalkO q b XP YP l.row.toRowW d [] (λf vs=>B50 f vs):=by
 intro w s₀ s₁ mg mb G Y fa o pm cd doc z kV ho y k v j hg t u as h s a1 p a0;obtain rfl:z=.none:=Dflts.none v m;obtain rfl:kV=.none:=Dflts.noKw v;obtain⟨a,vs,ns,rfl,rfl,e,c,i⟩:=qTH x h p;refine enter_call (B99 (g w s₀ s₁ mg mb fa o pm cd doc a vs ns G Y ho (fd_plain y) k j e c i hg) λr s' hq=>?_);obtain⟨rfl,h2,h3,h4⟩:=hq;exact⟨.inl ⟨.bool true,.bool true,[],rfl,λ_=>rfl,.bool true,qTQ l _,λ_=>⟨List.Pairwise.nil,λ_ hm=>(nomatch hm)⟩⟩,h2,h3,h4⟩
end Att
namespace _L
open PySem PySem.Spec PyProof.Rows
theorem qJE:∀{vs:List Value} {ns:List Int},C01 vs ns->Vals (ns.map V.int) vs
 |_,_,.nil=>.nil
 |_,_,.cons n t h=>.cons ⟨t,rfl⟩ (qJE h)
noncomputable def qEB (s:Stmt):C09:=match s with
 |.FunctionDef _ a _ _ _ _ _ _ _ _=>a
 |_=>{posonlyargs:=[],args:=[],vararg:=none,kwonlyargs:=[],kw_defaults:=[],kwarg:=none,defaults:=[]}
noncomputable def qCJ (s:Stmt):List Stmt:=match s with
 |.FunctionDef _ _ b _ _ _ _ _ _ _=>b
 |_=>[]
noncomputable def qAA (s:Stmt):Scope:=match s with
 |.FunctionDef _ _ _ _ _ _ sc _ _ _=>sc
 |_=>{kind:=.function,names:=[],isGenerator:=false,isCoroutine:=false}
abbrev CX0:CXT:=λ_ _ _ _ _ _=>False
abbrev E0:XK:=λ_ _ _=>False
theorem qb8 {X:Cx} :qW0 CX0 X E0:=λ_ _ _ _ _ _ _ h=>h.elim
structure Fun (K:Ab1)(x qual:Str)(st:Stmt)(f:Addr)(fd:B88):Prop where
 ex:∃(oc:Value) (od:Option Addr) (kV doc pm:Value) (an:Option Addr) (cdv ct:Value) (osl:Array (Option Value)),
  fd=R5 x qual (qEB st) (qCJ st) (qAA st) .none kV doc pm an cdv ct/\K.lookup f=some ⟨oc,od,.func fd,osl⟩/\f9 K cdv qual=true
 kp:M8 K (.ref f)=true
section
variable{P:B76}{w:World}{K:Ab1}{mg:Ab0}{base:Heap}
theorem Fun.ok {x a:Str} {st:Stmt} {f:Addr} {g:B88} {N ps:List Str} {k:Nat} {sp:Sp} (F:Fun K x a st f g)(S:FnScope N ps (qAA st))(d:∀vs H Q E,sp vs H Q E->vs.length=ps.length)
  (b:∀ (cdv:Value) (A:Around) (outer:List Env) (s:Shared) (H:Hp) (vs:List V) (Q:VK) (E:XK),Room k (A.deeper (envOfC a (qAA st) s.heap.objs.size f cdv))->sp vs H Q E->
   ∃t,PSs (cxOf CX0 P w K mg base N a (qAA st) f cdv A outer s H E).nox (qCJ st) t/\t {nx:=λ_ H'=>Q .non H',rt:=Q} (start N vs) H):FnOk P w K mg base CX0 (k+1) f g ps sp:=by
 obtain⟨v,n,r,l,o,p,cdv,u,i,rfl,m,e⟩:=F.ex;refine qZQ m e S d λA outer s H vs Q E j c=>?_;obtain⟨t,h,q⟩:=b cdv A outer s H vs Q E j c;exact⟨t,h.nox,q⟩
theorem Fun.binds {x a:Str} {st:Stmt} {f:Addr} {b:B88} {ps:List Str} (F:Fun K x a st f b)
  (h:∀(kV doc pm:Value) (an:Option Addr) (cdv ct:Value) (us:List Value),us.length=ps.length->C42 (R5 x a (qEB st) (qCJ st) (qAA st) .none kV doc pm an cdv ct) ⟨us,[]⟩=pure (ps.zip us)):Binds K b ps []:=by
 obtain⟨g,e,kV,doc,pm,an,cdv,ct,c,rfl,i,d⟩:=F.ex;exact .all (h kV doc pm an cdv ct)
theorem fun_mk {x a:Str} {st:Stmt} {f:Addr} {n:Value} {m h:Option Addr} {e:Array (Option Value)} {i d g b j:Value} (l:K.lookup f=some ⟨n,m,.func (R5 x a (qEB st) (qCJ st) (qAA st) .none i d g h b j),e⟩)
  (c:f9 K b a=true) (k:M8 K (.ref f)=true):Fun K x a st f (R5 x a (qEB st) (qCJ st) (qAA st) .none i d g h b j):=⟨⟨n,m,i,d,g,h,b,j,e,rfl,l,c⟩,k⟩
end
theorem qPV {A:Around} {k:Nat} (a:Room k A):A.units+2<cLine:=k9 (Nat.add_le_add_left (by decide:2<=64) _) a.units
theorem qB2 {n:Nat} (h:n<=1000):n<B75:=k9 h (by decide)
variable{X:Cx}
theorem pv (i:Nat) {x:Str} {pos:Pos} (a:X.N[i]?=some x:=by rfl) (b:Vis X.env.scope x:=by first|exact F3 rfl|exact A53 (F3 rfl)|exact A53 (A53 rfl)) (c:(x==("__debug__" : Str))=false:=by decide)
  (hcd:(x==("__classdict__" : Str))=false:=by decide):PE X (.Name x pos) (tVar i):=qb4 a b c hcd
theorem iteF {A B:Prop} (h:B):if false=true then A else B:=by
 rw[if_neg B6];exact h
theorem iteT {A B:Prop} (h:A):if true=true then A else B:=by
 rw[if_pos rfl];exact h
theorem ite2 {c A B:Prop} [Decidable c](b:c->A)(a:¬c->B):if c then A else B:=by
 by_cases h:c
 ·rw[if_pos h];exact b h
 ·rw[if_neg h];exact a h
def Same (H H':Hp):Prop:=∀b o,H b=some o->H' b=some o
theorem Same.refl (H:Hp):Same H H:=λ_ _ h=>h
theorem Same.trans {H H1 H2:Hp} (a:Same H H1)(b:Same H1 H2):Same H H2:=λc o h=>b c o (a c o h)
theorem Same.free {H H':Hp} (e:Same H H'){l:Addr}(h:H' l=B70):H l=B70:=by
 cases q:H l with
 |none=>rfl
 |some o=>
  rw[e l o q] at h;cases h
section
variable{κ:Type}[DecidableEq κ]
noncomputable def valV (Af:List (κ×V))(k:κ):Option V:=(Af.find? λkv=>decide (kv.1=k)).map (·.2)
noncomputable def putK (Af:List (κ×V))(k:κ)(v:V):List (κ×V):=
 if(Af.any λkv=>decide (kv.1=k))=true then Af.map (λkv=>if kv.1=k then(kv.1,v) else kv) else Af++[(k,v)]
theorem qEJ {p:κ×V} {r:List (κ×V)} {k:κ} (e:p.1=k):valV (p::r) k=some p.2:=by simp[valV,a9,e]
theorem qEK {p:κ×V} {r:List (κ×V)} {k:κ} (e:¬p.1=k):valV (p::r) k=valV r k:=by simp[valV,a9,e]
theorem qIR (k:κ):∀Af:List (κ×V),(Af.any λkv=>decide (kv.1=k))=(valV Af k).isSome
 |[]=>rfl
 |p::r=>by
  rw[c8];by_cases e:p.1=k
  ·simp only[qEJ e,decide_eq_true e,Bool.true_or,Option.isSome_some]
  ·rw[qEK e,decide_eq_false e,Bool.false_or];exact qIR k r
theorem qGI (Af:List (κ×V))(k:κ)(v:V):(putK Af k v).length<=Af.length+1:=by
 unfold putK
 split
 ·rw[A0];lia
 ·rw[A6,J7,W0];lia
theorem qWJ {Af:List (κ×V)} {k:κ} (v:V)(h:valV Af k=none):putK Af k v=Af++[(k,v)]:=by
 unfold putK;rw[qIR,h];exact if_neg (by decide)
theorem RelO.isSome_eq {o:Option V} {u:Option Value} (r:RelO o u):o.isSome=u.isSome:=by
 cases o with
 |none=>cases u with
  |none=>rfl
  |some _=>exact(show False from r).elim
 |some _=>cases u with
  |none=>exact(show False from r).elim
  |some _=>rfl
theorem KV.val {Af:List (κ×V)} {vs:List (κ×Value)} (r:KV Af vs)(k:κ):RelO (valV Af k) (valueAt vs k):=by
 unfold KV at r
 induction r with
 |nil=>exact Y2
 |@cons p q ps qs h t ih=>
  obtain⟨c,d⟩:=h;by_cases e:p.1=k
  ·have a:q.1=k:=c.symm.trans e;have b:valueAt (q::qs) k=some q.2:=by simp[valueAt,a9,a]
   rw[qEJ e,b];exact d
  ·have a:¬q.1=k:=λz=>e (c.trans z);have b:valueAt (q::qs) k=valueAt qs k:=by simp[valueAt,a9,a]
   rw[qEK e,b];exact ih
theorem KV.any {Af:List (κ×V)} {vs:List (κ×Value)} (r:KV Af vs)(k:κ):(Af.any λkv=>decide (kv.1=k))=vs.any λkv=>decide (kv.1=k):=by
 unfold KV at r
 induction r with
 |nil=>rfl
 |cons h t ih=>rw[c8,c8,ih,h.1]
theorem KV.repl {Af:List (κ×V)} {vs:List (κ×Value)} (r:KV Af vs)(k:κ){y:V}{u:Value}(c:RelV y u):
  KV (Af.map λkv=>if kv.1=k then(kv.1,y) else kv) (vs.map λkv=>if kv.1=k then(kv.1,u) else kv):=by
 unfold KV at r ⊢
 induction r with
 |nil=>exact .nil
 |@cons p q ps qs h t ih=>
  rw[D8,D8];refine .cons ?_ ih;obtain⟨a,b⟩:=h;by_cases e:p.1=k
  ·rw[if_pos e,if_pos (a.symm.trans e)];exact⟨a,c⟩
  ·rw[if_neg e,if_neg (λz=>e (a.trans z))];exact⟨a,b⟩
theorem KV.put {Af:List (κ×V)} {vs:List (κ×Value)} (r:KV Af vs)(k:κ){y:V}{u:Value}(a:RelV y u):KV (putK Af k y) (stored vs k u):=by
 unfold putK stored;rw[r.any k];by_cases e:(vs.any λb=>decide (b.1=k))=true
 ·rw[if_pos e,if_pos e];exact r.repl k a
 ·rw[if_neg e,if_neg e];exact Q5 r ⟨rfl,a⟩
theorem KV.length {Af:List (κ×V)} {vs:List (κ×Value)} (r:KV Af vs):Af.length=vs.length:=C5 r
end
theorem qUO {k:Key} {u:Value} (r:RelV (kV k) u):(qCW P w).is k u=true:=by
 cases k with
 |inl i=>obtain⟨t,e⟩:=(show∃t,u=V8 i t from r);subst e;exact qPT P w i t
 |inr x=>obtain⟨t,e⟩:=(show∃t,u=A80 x t from r);subst e;exact qPS P w x t
theorem qdN {k:KI} {u:Value} (r:RelV (kI k) u):kiIs k u=true:=by
 cases k with
 |some k=>cases k with
  |inl i=>obtain⟨t,e⟩:=(show∃t,u=V8 i t from r);subst e;exact qOH i t
  |inr x=>obtain⟨t,e⟩:=(show∃t,u=A80 x t from r);subst e;exact qOG x t
 |none=>have e:u=M3:=r;subst e;rfl
theorem qOJ:∀{ks:List KI} {us:List Value},Vals (ks.map kI) us->Paired (λk v=>kiIs k v=true) ks us
 |[],_,r=>by rw[A52] at r;cases r;exact .nil
 |k::ks,_,r=>by
  rw[D8] at r;cases r with
  |cons h t=>exact .cons (qdN h) (qOJ t)
abbrev KT (H:Hp):List (List KI×V)->List (List KI×Addr×Value)->Prop:=Paired λp q=>p.1=q.1/\H q.2.1=some (.tup (p.1.map kI))/\RelV p.2 q.2.2
theorem KT.val {H:Hp} {Af:List (List KI×V)} {xs:List (List KI×Addr×Value)} (r:KT H Af xs)(k:List KI):RelO (valV Af k) ((atKey xs k).map (·.2)):=by
 induction r with
 |nil=>exact Y2
 |@cons p q ps qs h t ih=>
  obtain⟨c,_,d⟩:=h;by_cases e:p.1=k
  ·have a:q.1=k:=c.symm.trans e;have b:atKey (q::qs) k=some q.2:=by simp[atKey,a9,a]
   rw[qEJ e,b];exact d
  ·have a:¬q.1=k:=λz=>e (c.trans z);have b:atKey (q::qs) k=atKey qs k:=by simp[atKey,a9,a]
   rw[qEK e,b];exact ih
theorem KT.repl {H:Hp} {Af:List (List KI×V)} {xs:List (List KI×Addr×Value)} (r:KT H Af xs)(k:List KI){y:V}{u:Value}(c:RelV y u):
  KT H (Af.map λkv=>if kv.1=k then(kv.1,y) else kv) (xs.map (putAt k u)):=by
 induction r with
 |nil=>exact .nil
 |@cons p q ps qs h t ih=>
  rw[D8,D8];refine .cons ?_ ih;obtain⟨a,b,d⟩:=h;unfold putAt;by_cases e:p.1=k
  ·rw[if_pos e,if_pos (a.symm.trans e)];exact⟨a,b,c⟩
  ·rw[if_neg e,if_neg (λz=>e (a.trans z))];exact⟨a,b,d⟩
theorem KT.put {H:Hp} {Af:List (List KI×V)} {xs:List (List KI×Addr×Value)} (r:KT H Af xs)(k:List KI){b:Addr}{y:V}{u:Value}(c:H b=some (.tup (k.map kI)))(a:RelV y u):
  KT H (putK Af k y) (storedH xs k b u):=by
 have e:(Af.any λd=>decide (d.1=k))=(atKey xs k).isSome:=by
  rw[qIR,(r.val k).isSome_eq,o8]
 unfold putK storedH;rw[e];by_cases q:(atKey xs k).isSome=true
 ·rw[if_pos q,if_pos q];exact r.repl k a
 ·rw[if_neg q,if_neg q];exact Q5 r ⟨rfl,c,a⟩
theorem KT.keeps {H H':Hp} {Af:List (List KI×V)} {xs:List (List KI×Addr×Value)} (r:KT H Af xs)(a:∀b ys,H b=some (.tup ys)->H' b=some (.tup ys)):KT H' Af xs:=
 Paired.mapP r λ_ _ z=>⟨z.1,a _ _ z.2.1,z.2.2⟩
section
variable{P:B76}{w:World}{H:Hp}{h:Heap}{a:Addr}
theorem qb0 {u:HO} (ok:HOk P w H h)(e:Rd H a u):ObjOk P w H h a u:=e.ok ok
theorem qVC {Af:List (Key×V)} (b:HOk P w H h)(e:Rd H a (.dK Af)):Af.length<=B75/\(a==C00)=false/\∃vs,KV Af vs/\h.DictOf (qCW P w) a vs:=
 show ObjOk P w H h a (.dK Af) from qb0 b e
theorem qcA {Af:List (Key×V)} (b:HOk P w H h)(e:H a=some (.dK Af)):Af.length<=B75/\(a==C00)=false/\∃vs,KV Af vs/\h.DictOf (qCW P w) a vs:=qVC b (.inl e)
theorem qLT {ks:List KI} (g:HOk P w H h)(e:H a=some (.tup (ks.map kI))):(qO8 P w).is h ks a:=by
 obtain⟨_,b,r,o,c,d,n,f⟩:=(show ObjOk P w H h a (.tup (ks.map kI)) from g a _ e);exact⟨o,b.toArray,n,c,d,f,by simpa using qOJ r⟩
theorem qVB {Af:List (List KI×V)} (c:HOk P w H h)(e:Rd H a (.dT Af)):Af.length<=B75/\(a==C00)=false/\
  ∃xs,KT H Af xs/\h.DictOfH (qO8 P w) a xs:=by
 obtain⟨z,y,xs,r,o,k,n,d,g,j,f,i⟩:=(show ObjOk P w H h a (.dT Af) from qb0 c e);refine⟨z,y,xs,r,o,k,n,d,g,j,f,λx hx=>?_,i⟩;have b:∀{l:List (List KI×V)} {m:List (List KI×Addr×Value)},KT H l m->∀x∈m,(qO8 P w).is h x.1 x.2.1:=by
  intro l m q
  induction q with
  |nil=>intro x hx;exact nomatch hx
  |@cons p q ps qs hq t ih=>
   intro x hx;rcases C0.mp hx with e|hx
   ·subst e;exact qLT c (by rw[<- hq.1];exact hq.2.1)
   ·exact ih x hx
 exact b r x hx
theorem qc9 {Af:List (List KI×V)} (b:HOk P w H h)(e:H a=some (.dT Af)):Af.length<=B75/\(a==C00)=false/\
  ∃xs,KT H Af xs/\h.DictOfH (qO8 P w) a xs:=qVB b (.inl e)
end
def DGet (H:Hp)(a:Addr)(y:V)(r:Option V):Prop:=
 (∃Af k,Rd H a (.dK Af)/\y=kV k/\r=valV Af k)\/∃Af k b,Rd H a (.dT Af)/\y=.ref b/\H b=some (.tup (k.map kI))/\r=valV Af k
def DPut (H:Hp)(a:Addr)(y v:V)(H':Hp):Prop:=
 (∃Af k,H a=some (.dK Af)/\y=kV k/\Af.length<B75/\H'=Ag H a (.dK (putK Af k v)))\/
 ∃Af k b,H a=some (.dT Af)/\y=.ref b/\H b=some (.tup (k.map kI))/\Af.length<B75/\H'=Ag H a (.dT (putK Af k v))
theorem DGet.k {H:Hp} {a:Addr} {Af:List (Key×V)} {k:Key} (e:H a=some (.dK Af)):DGet H a (kV k) (valV Af k):=.inl ⟨Af,k,.inl e,rfl,rfl⟩
theorem DPut.k {H:Hp} {a:Addr} {Af:List (Key×V)} {k:Key} {v:V} (e:H a=some (.dK Af))(b:Af.length<B75):DPut H a (kV k) v (Ag H a (.dK (putK Af k v))):=.inl ⟨Af,k,e,rfl,b,rfl⟩
theorem DPut.t {H:Hp} {a b:Addr} {Af:List (List KI×V)} {k:List KI} {v:V} (e:H a=some (.dT Af))(c:H b=some (.tup (k.map kI)))(d:Af.length<B75):
  DPut H a (.ref b) v (Ag H a (.dT (putK Af k v))):=.inr ⟨Af,k,b,e,rfl,c,d,rfl⟩
section
variable{X:Cx}{Ab:Aa2}{σ:St}{H:Hp}{s:Shared}{a:Addr}{y v:V}{u r:Value}{o:Option V}{A:Around}{E:Aa1}
theorem Inv.big (I:Inv X Ab σ H s):C00<s.heap.objs.size:=by
 have h:B89<s.heap.objs.size:=(I.mod.glob.keeps I.bk).lt;exact A18 (by decide) h
theorem qVI {Q:Aa1} (t:A.units+2<cLine)(I:Inv X Ab σ H s)(g:DGet H a y (some v))(n:RelV y u)(h:∀w' s',Inv X Ab σ H s'->RelV v w'->Q w' s'):
  wpAny (model X.prog X.w) A (C37 (.ref a) u) Q E s:=by
 rcases g with⟨Af,k,e,i,l⟩|⟨Af,k,b,e,i,eb,l⟩
 ·subst i;obtain⟨z,r,vs,d,m⟩:=qVC I.hok e;obtain⟨w',j,c⟩:=RelO.some_of (v:=v) (o:=valueAt vs k) (by rw[l];exact d.val k)
  exact wpAny_getItem_of (qUO n) m.mapOf j (h w' _ (I.tok _) c)
 ·subst i;cases(show u=C7 b from n);obtain⟨z,r,q,d,m⟩:=qVB I.hok e;obtain⟨w',j,c⟩:=RelO.some_of (v:=v) (o:=(atKey q k).map (·.2)) (by rw[l];exact d.val k)
  obtain⟨p,x,f⟩:=Z7.mp j;refine wpAny_getItem_heap (qMN t) (qLT I.hok eb) m x ?_;rw[f];exact h w' _ (I.tok _) c
theorem d_in {Q:Aa1} (n:A.units+2<cLine)(I:Inv X Ab σ H s)(g:DGet H a y o)(j:RelV y u)(h:∀s',Inv X Ab σ H s'->Q (.bool o.isSome) s'):
  wpAny (model X.prog X.w) A (B94 .In u (.ref a)) Q E s:=by
 rcases g with⟨m,k,e,f,l⟩|⟨m,k,b,e,f,p,l⟩
 ·subst f;obtain⟨z,d,t,c,i⟩:=qVC I.hok e;refine wpAny_in_of (qUO j) d i.mapOf ?_;rw[<- (c.val k).isSome_eq,<- l];exact h _ (I.tok _)
 ·subst f;cases(show u=C7 b from j);obtain⟨z,d,r,c,i⟩:=qVB I.hok e;refine wpAny_in_heap (qMN n) (qLT I.hok p) d i ?_;have q:=(c.val k).isSome_eq;rw[o8] at q;rw[<- q,<- l];exact h _ (I.tok _)
theorem qa0 {Q:Aa1} (n:A.units+2<cLine)(I:Inv X Ab σ H s)(g:DGet H a y o)(j:RelV y u)(h:∀s',Inv X Ab σ H s'->Q (.bool (!o.isSome)) s'):
  wpAny (model X.prog X.w) A (B94 .NotIn u (.ref a)) Q E s:=by
 rcases g with⟨m,k,e,f,l⟩|⟨m,k,b,e,f,p,l⟩
 ·subst f;obtain⟨z,d,t,c,i⟩:=qVC I.hok e;refine wpAny_notIn_of (qUO j) d i.mapOf ?_;rw[<- (c.val k).isSome_eq,<- l];exact h _ (I.tok _)
 ·subst f;cases(show u=C7 b from j);obtain⟨z,d,r,c,i⟩:=qVB I.hok e;refine wpAny_notIn_heap (qMN n) (qLT I.hok p) d i ?_;have q:=(c.val k).isSome_eq;rw[o8] at q;rw[<- q,<- l];exact h _ (I.tok _)
theorem qN8 {h':Heap} {t':Nat} {d:HO} (I:Inv X Ab σ H s)(f:Mut (H a))(h:Heap.SameBut a s.heap h')(i:∃q,h'.get? a=some q)(c:ObjOk X.prog X.w (Ag H a d) h' a d):
  Inv X Ab σ (Ag H a d) {s with heap:=h',toks:=t'}:=
 I.write (x:=a) (e:=a) f (.inl rfl) (λb q g z=>(h.2 b g).trans z) i c
theorem qY6 {H':Hp} {h':Heap} {Af:List (Key×V)} {vs:List (Key×Value)} (z:Af.length<=B75)(d:(a==C00)=false)(b:KV Af vs)(c:h'.DictOf (qCW P w) a vs):
  ObjOk P w H' h' a (.dK Af):=⟨z,d,vs,b,c⟩
theorem qVH {H':Hp} {Q:Unit->Shared->Prop} (hu:A.units+2<cLine)(I:Inv X Ab σ H s)(g:DPut H a y v H')(ry:RelV y u)(rv:RelV v r)(h:∀s',Inv X Ab σ H' s'->Q () s'):
  wpAny (model X.prog X.w) A (setItem (.ref a) u r) Q E s:=by
 rcases g with⟨i,k,e,m,l,x⟩|⟨i,k,b,e,m,eb,l,x⟩
 ·subst m x;obtain⟨z,j,vs,d,n⟩:=qcA I.hok e;have o:vs.length<=B75:=by rw[<- d.length];exact z
  have p:(putK i k v).length<=B75:=by have:=qGI i k v;lia
  refine wpAny_setItem_pairs (hsz:=o) (qUO ry) n λh' f t=>h _ ?_;have he:∃q,h'.get? a=some q:=let⟨q,_,_,hq,_⟩:=f;⟨q,hq⟩
  exact qN8 I (by rw[e];exact Y2) t he (qY6 p j (d.put k rv) f)
 ·subst m x;cases(show u=C7 b from ry);obtain⟨z,j,xs,d,n⟩:=qc9 I.hok e;have o:xs.length<=B75:=by rw[<- C5 d];exact z
  have p:(putK i k v).length<=B75:=by have:=qGI i k v;lia
  refine wpAny_setItem_heap (hsz:=o) (qMN hu) (qLT I.hok eb) n λh' f t=>h _ ?_;obtain⟨q,es,ep,hq,h2,h3,h4,_,h5⟩:=f;refine qN8 I (by rw[e];exact Y2) t ⟨q,hq⟩ ⟨p,j,_,(d.put k eb rv).keeps λc ys ec=>?_,q,es,ep,hq,h2,h3,h4,h5⟩
  rw[qAB (qFB ec e (λz=>nomatch z))];exact ec
end
def NoSl (i:Expr):Prop:=∀ov iv,subscripted i false ov iv=operate [ov,iv] (C37 ov iv)
theorem qYT {env:Env} {b a:Expr} {pos:Pos} {T id:String} {Q:Aa1} 
  (l:typeLookup (.type T) "__getitem__" = pure (some (.builtin id))) (g:NoSl a)
  (h:wpAny (model prog w) A (eval b env) (λo s₁=>wpAny (model prog w) A (eval a env) (λi s₂=>s₂.TypeIs o T/\wpAny (model prog w) A (C37 o i) Q E s₂) E s₁) E s):
  wpAny (model prog w) A (eval (.Subscript b a pos) env) Q E s:=by
 refine Subscript_ (B83 h (λo s₁ j=>B83 j (λi s₂ d=>?_) λ_ _ x=>x) λ_ _ x=>x);obtain⟨e,d⟩:=d;unfold subscriptTail;refine B73 ?_;rw[getitemInPython_of_ne e.not_modules];refine B73 (wpAny_specialOf e l ?_);have c:wpAny (model prog w) A (subscripted a false o i) (λr f=>wpAny (model prog w) A (letTemporaryGo b o r >>= λ_=>pure r) Q E f) E s₂:=by
  rw[g o i];exact wpAny_operating (B83 d (λr f k=>B73 (wpAny_letTemporaryGo (B74 k))) λ_ _ x=>x)
 first
  |exact B74 (B73 c)
  |exact B73 (B74 (B73 c))
  |exact B73 c
theorem qQ1 {X:Cx} {Ab:Aa2} {σ:St} {H:Hp} {s:Shared} {a:Addr} {y:V} {o:Option V} (I:Inv X Ab σ H s) (g:DGet H a y o):s.TypeIs (.ref a) "dict":=by
 rcases g with⟨d,k,e,_,_⟩|⟨d,k,b,e,_,_,_⟩
 ·obtain⟨_,_,h,_,c⟩:=qVC I.hok e;exact c.typeIs
 ·obtain⟨_,_,f,_,c⟩:=qVB I.hok e;exact c.typeIs
def qcW (td ty:TE):TE:=λσ H Q=>td σ H λx H1=>ty σ H1 λy H2=>∃a v,x=.ref a/\DGet H2 a y (some v)/\Q v H2
def tDIn (ty td:TE):TE:=λσ H Q=>ty σ H λy H1=>td σ H1 λx H2=>∃a o,x=.ref a/\DGet H2 a y o/\Q (.bl o.isSome) H2
def qYS (ty td:TE):TE:=λσ H Q=>ty σ H λy H1=>td σ H1 λx H2=>∃a o,x=.ref a/\DGet H2 a y o/\Q (.bl (!o.isSome)) H2
def qd3 (td ty tv:TE):TS:=λD σ H=>tv σ H λv H1=>td σ H1 λx H2=>ty σ H2 λy H3=>∃a H4,x=.ref a/\DPut H3 a y v H4/\D.nx σ H4
section
variable{X:Cx}{o i e value:Expr}{pos pos' tpos:Pos}{td ty tv:TE}
theorem qE6 (f:X.A.units+2<cLine)(j:PE X o td)(hi:PE X i ty)(e:NoSl i):PE X (.Subscript o i pos) (qcW td ty):=by
 intro c s σ H Q I h;refine qYT PySem.F.slot_dict_getitem.lookup e (thn (j c s σ H _ I h) λu s1 ⟨x,H1,I1,rx,q1⟩=>thn (hi c s1 σ H1 _ I1 q1) λiv s2 ⟨y,H2,I2,ry,a,v,ex,g,q2⟩=>?_);subst ex;obtain rfl:u=C7 a:=rx;exact⟨qQ1 I2 g,qVI f I2 g ry λk l d b=>⟨v,H2,d,b,q2⟩⟩
theorem qXV (d:X.A.units+2<cLine)(hi:PE X i ty)(e:PE X o td):PC X .In i o (tDIn ty td):=by
 intro b s σ H Q I h;refine thn (hi b s σ H _ I h) λiv s1 ⟨y,H1,I1,ry,q1⟩=>thn (e b s1 σ H1 _ I1 q1) λu s2 ⟨x,H2,I2,rx,a,ov,ex,g,q2⟩=>?_;subst ex;obtain rfl:u=C7 a:=rx;exact d_in d I2 g ry λf c=>⟨.bl ov.isSome,H2,c,rfl,q2⟩
theorem qO1 (d:X.A.units+2<cLine)(hi:PE X i ty)(e:PE X o td):PC X .NotIn i o (qYS ty td):=by
 intro b s σ H Q I h;refine thn (hi b s σ H _ I h) λiv s1 ⟨y,H1,I1,ry,q1⟩=>thn (e b s1 σ H1 _ I1 q1) λu s2 ⟨x,H2,I2,rx,a,ov,ex,g,q2⟩=>?_;subst ex;obtain rfl:u=C7 a:=rx;exact qa0 d I2 g ry λf c=>⟨.bl (!ov.isSome),H2,c,rfl,q2⟩
theorem qMH (f:X.A.units+2<cLine)(j:PE X o td)(hi:PE X i ty)(c:PE X value tv)(e:swapsWith value (some (.Subscript o i pos')) pos.line X.env=pure false):
  PS X (.Assign [.Subscript o i pos'] value pos) (qd3 td ty tv):=by
 intro b s σ H D I h;refine wpAny_Assign_Subscript (thn (c b s σ H _ I h) λr s1 ⟨v,H1,I1,rv,q1⟩=>thn (j b s1 σ H1 _ I1 q1) λu s2 ⟨x,H2,I2,rx,q2⟩=>thn (hi b s2 σ H2 _ I2 q2) λiv s3 ⟨y,H3,I3,ry,a,H4,ex,g,q3⟩=>?_) e;subst ex;obtain rfl:u=C7 a:=rx;exact qVH f I3 g ry rv λk d=>⟨σ,H4,d,q3⟩
end
theorem qRI {H:Hp} (h:Heap) (a:C00<h.objs.size):ObjOk P w H (h.push {cls:=.type "dict",data:=.dict #[]}) h.objs.size (.dK []):=
 ⟨J5 _,beq_eq_false_iff_ne.mpr (J4 (E7 a)),[],.nil,Heap.DictOf.new h⟩
theorem qRG {H:Hp} (h:Heap) (a:C00<h.objs.size):ObjOk P w H (h.push {cls:=.type "dict",data:=.dict #[]}) h.objs.size (.dT []):=
 ⟨J5 _,beq_eq_false_iff_ne.mpr (J4 (E7 a)),[],.nil,_,#[],0,B8 _ rfl,⟨rfl,rfl,rfl⟩,rfl,rfl,A64⟩
def qaN:TE:=λ_ H Q=>∀p,H p=none->Q (.ref p) (Ag H p (.dK []))
def qaM:TE:=λ_ H Q=>∀p,H p=none->Q (.ref p) (Ag H p (.dT []))
section
variable{X:Cx}{pos:Pos}
theorem qWP:PE X (.Dict [] [] pos) qaN:=λb s σ H Q I h=>
 wpAny_Dict_empty ⟨.ref s.heap.objs.size,_,I.laid (a:=s.heap.objs.size) (o:=.dK []) (t':=s.toks) (λ_ _ q=>A1 _ q) (B4 _) (qRI s.heap I.big),rfl,h _ (I.hok.fresh (B4 _))⟩
theorem qWO:PE X (.Dict [] [] pos) qaM:=λb s σ H Q I h=>
 wpAny_Dict_empty ⟨.ref s.heap.objs.size,_,I.laid (a:=s.heap.objs.size) (o:=.dT []) (t':=s.toks) (λ_ _ q=>A1 _ q) (B4 _) (qRG s.heap I.big),rfl,h _ (I.hok.fresh (B4 _))⟩
end
def qT4:List (TE×TE)->St->Hp->(List (V×V)->Hp->Prop)->Prop
 |[],_,H,Q=>Q [] H
 |(tk,tv)::r,σ,H,Q=>tk σ H λx H1=>tv σ H1 λy H2=>qT4 r σ H2 λps H3=>Q ((x,y)::ps) H3
abbrev VV:List (V×V)->List (Value×Value)->Prop:=Paired λp q=>RelV p.1 q.1/\RelV p.2 q.2
def PPs (X:Cx)(pos:Pos)(keys:List (Option Expr))(values:List Expr)(trs:List (TE×TE)):Prop:=
 ∀(Ab:Aa2) (s:Shared) (σ:St) (H:Hp) (Q:List (V×V)->Hp->Prop),Inv X Ab σ H s->qT4 trs σ H Q->
  wpAny (model X.prog X.w) X.A (evalPairs (pairTrees keys values X.env pos)) (λvs s'=>∃ps H',Inv X Ab σ H' s'/\VV ps vs/\Q ps H') X.xe s
theorem qZ2 {X:Cx} {pos:Pos} :PPs X pos [] [] []:=λa s σ H Q I h=>pairTrees_nil_walk ⟨[],H,I,.nil,h⟩
theorem qQS {X:Cx} {pos:Pos} {k v:Expr} {ks:List (Option Expr)} {vs:List Expr} {tk d:TE} {a:List (TE×TE)} (i:PE X k tk)(f:PE X v d)(g:PPs X pos ks vs a):
  PPs X pos (some k::ks) (v::vs) ((tk,d)::a):=λb s σ H Q I h=>
 pairTrees_cons_walk (thn (i b s σ H _ I h) fun u s1 ⟨x,H1,I1,rx,q1⟩=>thn (f b s1 σ H1 _ I1 q1) fun w2 s2 ⟨y,H2,I2,ry,q2⟩=>
  thn (g b s2 σ H2 _ I2 q2) λws s3 ⟨ps,H3,I3,rel,q3⟩=>⟨(x,y)::ps,H3,I3,.cons ⟨rx,ry⟩ rel,q3⟩)
noncomputable def qJS (Af more:List (Key×V)):List (Key×V):=more.foldl (λc e=>putK c e.1 e.2) Af
theorem KV.merge:∀{more:List (Key×V)} {rs:List (Key×Value)} {Af:List (Key×V)} {vs:List (Key×Value)},KV more rs->KV Af vs->KV (qJS Af more) (merged vs rs):=by
 intro more rs Af vs r;unfold KV at r
 induction r generalizing Af vs with
 |nil=>intro q;exact q
 |@cons p q ps qs h t ih=>
  intro a;have e:KV (putK Af p.1 p.2) (stored vs q.1 q.2):=by
   have:=a.put p.1 h.2;rw[<- h.1];exact this
  exact ih e
theorem qGY:∀(more Af:List (Key×V)),(qJS Af more).length<=Af.length+more.length
 |[],Af=>by show Af.length<=Af.length+0;lia
 |p::r,Af=>by
  have h1:=qGY r (putK Af p.1 p.2);have h2:=qGI Af p.1 p.2;show(qJS (putK Af p.1 p.2) r).length<=_;rw[J7];lia
theorem qLY :∀{Af:List (Key×V)} {ws:List (Value×Value)},VV (Af.map λkv=>(kV kv.1,kv.2)) ws->∃rs,Carries (qCW P w) ws rs/\KV Af rs
 |[],_,r=>by rw[A52] at r;cases r;exact⟨[],Y2,.nil⟩
 |p::Af,_,r=>by
  rw[D8] at r;cases r with
  |@cons a b as bs h t=>
   obtain⟨rs,c,q⟩:=qLY (P:=P) (w:=w) t;obtain⟨b1,b2⟩:=b;exact⟨(p.1,b2)::rs,⟨qUO h.1,rfl,c⟩,.cons ⟨rfl,h.2⟩ q⟩
def qcV (trs:List (TE×TE)):TE:=λσ H Q=>∀p,H p=none->qT4 trs σ (Ag H p (.dK [])) λps H2=>H2 p=some (.dK [])/\∃Af:List (Key×V),ps=Af.map (λkv=>(kV kv.1,kv.2))/\Af.length<=15/\Q (.ref p) (Ag H2 p (.dK (qJS [] Af)))
theorem qZ7 {X:Cx} {pos:Pos} {b:List (Option Expr)} {d:List Expr} {i:List (TE×TE)} (h:PPs X pos b d i)(f:b.all (·.isSome)=true)(x:b.length=d.length)(r:b≠[])
  (j:b.length<=15):PE X (.Dict b d pos) (qcV i):=by
 intro v s σ H Q I q;have n:=I.hok.fresh (B4 s.heap.objs.size);have m:=I.laid (a:=s.heap.objs.size) (o:=.dK []) (h':=s.heap.push {cls:=.type "dict",data:=.dict #[]}) (t':=s.toks) (λ_ _ q=>A1 _ q) (B4 _) (qRI s.heap I.big);refine wpAny_Dict_walk (knd:=qCW X.prog X.w) f x r j (thn (h v _ σ _ _ m (q _ n)) λws s2 ⟨ps,H2,I2,rel,e,Af,ep,lk,q2⟩=>?_);subst ep;obtain⟨rs,c,rk⟩:=qLY (P:=X.prog) (w:=X.w) rel;obtain⟨z,p,y,l,t⟩:=qcA I2.hok e;cases l;refine⟨rs,c,t,λh' g hs=>⟨.ref s.heap.objs.size,_,?_,rfl,q2⟩⟩;have u:(qJS [] Af).length<=B75:=by
  have k:=qGY Af [];rw[W0] at k;rw[B80];lia
 have he:∃q,h'.get? s.heap.objs.size=some q:=let⟨q,_,_,hq,_⟩:=g;⟨q,hq⟩
 exact qN8 I2 (by rw[e];exact Y2) hs he (qY6 u p (rk.merge .nil) g)
structure M1 (X:Cx)(o:Expr)(m:Str)(apos:Pos)(e:Expr)(cpos:Pos):Prop where
 base:attributeBase o m X.env (eval o X.env)=eval o X.env
 few:((backTo cpos (B85 [e] X.env)).all (fun x=>!x.1) && (backToKw cpos (keywordEach [] X.env)).all (fun x=>x.1.isSome)
  && decide (([e]:List Expr).length+([]:List Keyword).length+(if([]:List Keyword).isEmpty then 0 else 1)<30))=true
 line:(apos.endLine==cpos.line)=true
 trees:backTo cpos (B85 [e] X.env)=[(false,eval e X.env)]
structure M2 (X:Cx)(o:Expr)(m:Str)(apos:Pos)(e f:Expr)(cpos:Pos):Prop where
 base:attributeBase o m X.env (eval o X.env)=eval o X.env
 few:((backTo cpos (B85 [e,f] X.env)).all (fun x=>!x.1) && (backToKw cpos (keywordEach [] X.env)).all (fun x=>x.1.isSome)
  && decide (([e,f]:List Expr).length+([]:List Keyword).length+(if([]:List Keyword).isEmpty then 0 else 1)<30))=true
 line:(apos.endLine==cpos.line)=true
 trees:backTo cpos (B85 [e,f] X.env)=[(false,eval e X.env),(false,eval f X.env)]
section
variable{κ:Type}[DecidableEq κ]
theorem qMO:∀{l:List κ} {k:κ},l.Nodup->¬k∈l->(l++[k]).Nodup
 |[],k,_,_=>by simp
 |a::r,k,h,hk=>by
  obtain⟨h1,h2⟩:=W1.mp h;show(a::(r++[k])).Nodup;refine W1.mpr ⟨λm=>?_,qMO h2 λm=>hk (C0.mpr (A53 m))⟩;rcases B7.mp m with q|q
  ·exact h1 q
  ·exact hk (C0.mpr (F3 (B3.mp q).symm))
end
def noX:Aa1:=λ_ _=>False
noncomputable def qHI (env:Env):List (Str×C31)->List (Str×Addr)->List (Str×Addr)
 |[],acc=>acc
 |(n,k)::r,acc=>qHI env r (if(k==O0)=true then(n,(env.cells.lookup n).getD 0)::acc else acc)
theorem qFJ {env:Env} :∀{names:List (Str×C31)} {acc:List (Str×Addr)},(∀x,(x,O0)∈names->∃c,env.cells.lookup x=some c)->(∀x c,acc.lookup x=some c->env.cells.lookup x=some c)->
  ∀x c,(qHI env names acc).lookup x=some c->env.cells.lookup x=some c
 |[],acc,_,ha,x,c,h=>ha x c h
 |(n,k)::r,acc,hf,ha,x,c,h=>by
  refine qFJ (names:=r) (λy hy=>hf y (C2 _ hy)) (λy d hd=>?_) x c h
  split at hd
  ·rename_i hk
   have hk':k=O0:=by simpa using hk
   subst hk';obtain⟨e,he⟩:=hf n F6;by_cases hyn:y=n
   ·subst hyn;rw[R6,he] at hd;rw[he];exact hd
   ·rw[Z5,beq_eq_false_iff_ne.mpr hyn] at hd;exact ha y d hd
  ·exact ha y d hd
theorem qFK {env:Env} :∀{names:List (Str×C31)} {acc:List (Str×Addr)} {x:Str},((x,O0)∈names\/∃c,acc.lookup x=some c)->∃c,(qHI env names acc).lookup x=some c
 |[],acc,x,h=>by
  rcases h with h|h
  ·exact absurd h (by simp)
  ·exact h
 |(n,k)::r,acc,x,h=>by
  refine qFK (names:=r) ?_;rcases h with h|⟨c,h⟩
  ·rcases C0.mp h with e|h
   ·cases e;refine .inr ⟨(env.cells.lookup n).getD 0,?_⟩;rw[if_pos (by rfl),R6]
   ·exact .inl h
  ·refine .inr ?_
   split
   ·by_cases hyn:x=n
    ·subst hyn;exact⟨_,R6⟩
    ·refine⟨c,?_⟩;rw[Z5,beq_eq_false_iff_ne.mpr hyn];exact h
   ·exact⟨c,h⟩
theorem qKF {env:Env} (f:Str×C31->List (Str×Addr)->Sem (ForInStep (List (Str×Addr))))
  (hf:∀n k c,f (n,k) c=(if(k==O0)=true then(do let a <- cellOf env n;pure (P9 ((n,a)::c))) else pure (P9 c))):
  ∀(names:List (Str×C31)) (acc:List (Str×Addr)),(∀x,(x,O0)∈names->∃c,env.cells.lookup x=some c)->forIn names acc f=(pure (qHI env names acc):Sem _)
 |[],acc,_=>rfl
 |(n,k)::r,acc,h=>by
  have ih:=λacc=>qKF f hf r acc λx hx=>h x (C2 _ hx);rw[R7,hf];by_cases hk:(k==O0)=true
  ·have hk':k=O0:=by simpa using hk
   subst hk';obtain⟨c,hc⟩:=h n F6;rw[if_pos hk];unfold cellOf qHI;rw[hc,if_pos hk];exact ih _
  ·rw[if_neg hk];unfold qHI;rw[if_neg hk];exact ih _
theorem qI6 {a:Scope} {env:Env} (h:∀x,(x,O0)∈a.names->∃c,env.cells.lookup x=some c):closureFor a env=pure (qHI env a.names []):=by
 unfold closureFor;dsimp only;rw[qKF (env:=env) _ (λn k c=>?_) a.names [] h]
 ·rfl
 ·rfl
theorem qE4 {env:Env} {x:Str} :∀{names:List (Str×C31)},
  (names.map λ(n,k)=>if(k==O0&&env.scope.kind == .function&&env.kindOf n==some .cell)=true then(n,B59) else(n,k)).lookup x =
   (names.lookup x).map λk=>if(k==O0&&env.scope.kind == .function&&env.kindOf x==some .cell)=true then B59 else k
 |[]=>rfl
 |(n,k)::r=>by
  have ih:=@qE4 env x r;rw[D8];by_cases hx:x=n
  ·subst hx;dsimp only;rw[R6 (b:=k),A00]
   split
   ·rw[R6]
   ·rw[R6]
  ·have hb:(x==n)=false:=beq_eq_false_iff_ne.mpr hx;dsimp only;rw[Z5 (k:=n) (b:=k),hb];dsimp only;rw[<- ih]
   split
   ·rw[Z5,hb]
   ·rw[Z5,hb]
structure LcZ where
 L:Addr
 cl:List (Str×Addr)
 ex:List Addr
 s₀:Shared
 H₀:Hp
noncomputable def lcCx (X:Cx)(scope:Scope)(own:List Str)(fv:List Nat)(z:LcZ):Cx where
 prog:=X.prog
 w:=X.w
 K:=X.K
 mg:=X.mg
 base:=X.base
 A:=X.A
 N:=own++fv.map λi=>X.N.getD i U8
 s₀:=z.s₀
 H₀:=z.H₀
 env:=compEnvC scope z.cl z.L X.env
 outer:=X.stack
 stack:=X.stack
 ex:=z.ex
 fn:=λ_=>false
 calm:=X.calm
 pn:=[]
 xe:=noX
structure LcScope (X:Cx)(scope:Scope)(own:List Str)(fv:List Nat):Prop where
 kind:scope.kind=.function
 nocell:∀y∈scope.names,y.2≠.cell
 names:∀y∈scope.names,y.2=.local->scope.names.lookup y.1=some .local
 free:∀y∈scope.names,y.2=.free->X.env.kindOf y.1=some .cell\/X.env.kindOf y.1=some .free
 nd:(own++fv.map λi=>X.N.getD i U8).Nodup
 fvs:∀i∈fv,i<X.N.length/\scope.names.lookup (X.N.getD i U8)=some .free
noncomputable def qJW (own:List Str)(fv:List Nat)(σ:St):St:=(own.map λ_=>none)++fv.map λi=>(σ[i]?).join
theorem qOY {R:Result->Shared->Prop} {g a e:Expr} {f:List Expr} {b:Scope} {pos:Pos} {j acc:Value} {env:Env} (I:Nat->Shared->Prop)
  (i:∀ n s,I n s->wpAny (model prog w) A (pyNext j) (fun r s₁=>match r with
   |none=>R (.ok .next) s₁
   | some v=>wpAny (model prog w) A (C53 a j v) (fun _ s₁=>wpAny (model prog w) A (assign a env v) (fun _ s₂=>
     wpAny (model prog w) A (forIn f true fun c r=>if r=true then do let ok <- isTrue c env (eval c env);pure (P9 ok) else pure (P9 r)) (fun ok s₃=>
      if ok=true then wpAny (model prog w) A (eval g env) (fun x s₄=>
       wpAny (model prog w) A (call (.builtin "list.append") [acc,x]) (λ_ s₅=>∃m,m<n/\I m s₅) noX s₄) noX s₃
      else∃m,m<n/\I m s₃) noX s₂) noX s₁) noX s₁) noX s)
  (n:Nat) (h:I n s):
  C14 (model prog w) A (.compLoop (.ListComp g [⟨a,e,f,0⟩] b pos) 0 j acc env) R s:=by
 refine codeAny_loop rfl I (λn s o=>?_) n h;show wpAny _ A ((compTurn (.ListComp g [⟨a,e,f,0⟩] b pos) 0 j acc env).onRaise (λx=>do noteFrame x env;theTreesLotGoes x)) _ _ s
 refine wpAny_noted ?_;rw[compTurn_list];refine B73 (C16 (B73 (B83 (i n s o) (λr s₁ k=>?_) λ_ _ d=>d.elim)));cases r with
 |none=>exact B74 k
 |some v=>
  refine B73 (B83 k (λ_ s₁ k=>?_) λ_ _ d=>d.elim);refine B73 (B83 k (λ_ s₂ p=>B73 (B83 p (λok s₃ l=>?_) λ_ _ d=>d.elim)) λ_ _ d=>d.elim);cases ok with
  |false=>exact B74 ⟨rfl,l⟩
  |true=>
   exact B73 (B73 (B83 l (λx s₄ q=>B73 (B83 q (λ_ s₅ t=>B74 (B74 ⟨rfl,t⟩)) λ_ _ d=>d.elim)) λ_ _ d=>d.elim))
section
variable{X:Cx}{Ab:Aa2}{σ:St}{H:Hp}{s:Shared}
theorem Inv.other {h':Heap} {L:Addr} {n:Nat} (I:Inv X Ab σ H s)(a:X.s₀.heap.objs.size<=L)(h:H L=none)(d:L≠X.env.locals)(f:∀x c,X.env.cells.lookup x=some c->c≠L)(g:∀p∈X.pn++Ab,p.1≠L)
  (k:Heap.SameBut L s.heap h'):Inv X Ab σ H {s with heap:=h'}:=
 I.turned (t':=s.toks) (λb o a e=>(k.2 b a).trans e) h d (.inr a) f g
theorem qbN {a:Scope} {own:List Str} {fv:List Nat} {j:List Addr} (I:Inv X Ab σ H s)(S:LcScope X a own fv)(i:∀b∈j,FpOk X Ab H b)(hsz:∀b∈j,b<s.heap.objs.size):
  (lcCx X a own fv ⟨s.heap.objs.size,qHI X.env a.names [],j,s,H⟩).Ok:=by
 have m:∀x,(x,O0)∈a.names->∃c,X.env.cells.lookup x=some c:=λx h=>I.ok.has x (S.free _ h rfl);have g:=qFJ (env:=X.env) (names:=a.names) (acc:=[]) m (λx c z=>by simp at z)
 refine⟨I.ok.mod,S.kind,I.ok.glob,I.ok.blt,B4 _,λx y c p r=>I.ok.inj x y c (g _ _ p) (g _ _ r),λx h=>?_,λx c h=>?_,I.ok.hd,I.ok.frames,.inl rfl,λb f=>⟨?_,λx c e=>?_⟩,I.bs,F4 I.ok.bsz I.sz,λb o e f=>?_,λb f l=>?_,I.stack,I.stkFree⟩
 ·refine qFK (.inl ?_);have d:(relabel a X.env).names.lookup x=some .cell\/(relabel a X.env).names.lookup x=some .free:=h;unfold relabel at d;rw[qE4] at d;cases e:a.names.lookup x with
  |none=>rw[e] at d;simp at d
  |some k=>
   have n:=N9 e;have q:=S.nocell _ n;rw[e] at d;simp only[A00,Y9.injEq] at d;cases k with
   |free=>exact n
   |cell=>exact absurd rfl q
   |_=>simp at d
 ·cases h
 ·exact E7 (hsz b f)
 ·exact(i b f).2.2.2.2.1 x c (g _ _ e)
 ·rcases(i b f).2.2.2.1 with z|z
  ·exact I.ok.noex b o e z
  ·exact absurd (D9 (B9 (I.ok.bs b o e).1) z) (V1 _)
 ·rcases C0.mp (I.stkSub b l) with z|z
  ·exact(i b f).2.1 z
  ·exact(i b f).2.2.1 z
theorem qWV {a:Scope} {own:List Str} {fv:List Nat} {fp:List Addr} {h₁:Heap} {tk:Nat} (I:Inv X Ab σ H s)(S:LcScope X a own fv)(hf:∀b∈fp,FpOk X Ab H b)(hsz:∀b∈fp,b<s.heap.objs.size)
  (a0:h₁.Ns s.heap.objs.size (λ_=>none)) (r:∀b o,s.heap.get? b=some o->h₁.get? b=some o):
  Inv (lcCx X a own fv ⟨s.heap.objs.size,qHI X.env a.names [],fp,s,H⟩) [] (qJW own fv σ) H {s with heap:=h₁,toks:=tk}:=by
 have a1:∀x,(x,O0)∈a.names->∃c,X.env.cells.lookup x=some c:=λx hx=>I.ok.has x (S.free _ hx rfl);have h:=qFJ (env:=X.env) (names:=a.names) (acc:=[]) a1 (λx c z=>by simp at z)
 refine⟨qbN I S hf hsz,rfl,I.bare,Un.kept r,⟨_,a0,λi x v f d h3=>?_⟩,λx c e=>?_,I.hok.fresh (B4 _),λx c e=>I.freeC x c (h _ _ e),λp hp=>absurd (show p∈([]:Aa2) from hp) (by simp),I.hok.kept r,?_⟩
 ·have f:(own++fv.map λi=>X.N.getD i U8)[i]?=some x:=f;unfold qJW at d;have t:own.length<=i:=by
   apply t7;intro t;rw[O2 (by simpa using t),C6] at d
   cases e:own[i]? with
   |none=>rw[e] at d;cases d
   |some z=>rw[e] at d;cases d
  rw[L4 (by simpa using t),A0,C6] at d
  rw[L4 t,C6] at f;cases e:fv[i-own.length]? with
  |none=>rw[e] at f;cases f
  |some j=>
   rw[e] at f d;have hj:=S.fvs j (D4 e);have f:X.N.getD j U8=x:=D7 f;have d:(σ[j]?).join=some v:=D7 d;have a2:σ[j]?=some (some v):=by
    cases q:σ[j]? with
    |none=>rw[q] at d;cases d
    |some y=>rw[q] at d;exact congrArg some d
   have hx:X.N[j]?=some x:=by
    rw[J9] at f;rw[B0 hj.1] at f ⊢;exact congrArg some f
   have k:a.names.lookup x=some .free:=f ▸ hj.2;have g:=N9 k;obtain ⟨m,hn,hl⟩:=id I.loc;have n:=S.free _ g rfl;obtain ⟨u,ru,lk⟩:=hl j x v hx a2 (by
    rcases n with z|z
    ·exact .inr (.inl z)
    ·exact .inr (.inr z))
   refine⟨u,ru,?_⟩;rcases lk with⟨z,_⟩|⟨_,c,e1,z⟩
   ·rcases n with y|y
    ·have l:X.env.kindOf x=some .cell:=y;rw[z] at l;cases l
    ·have l:X.env.kindOf x=some .free:=y;rw[z] at l;cases l
   ·obtain⟨c',e2⟩:=qFK (env:=X.env) (names:=a.names) (acc:=[]) (x:=x) (.inl g);have e3:=h _ _ e2;rw[e1] at e3;cases e3;obtain⟨o,ho,w⟩:=z;refine .inr ⟨?_,c,e2,o,r _ _ ho,w⟩;show(relabel a X.env).names.lookup x=some .cell\/(relabel a X.env).names.lookup x=some .free;unfold relabel;rw[qE4,k,A00]
    split
    ·exact .inl rfl
    ·exact .inr rfl
 ·obtain⟨v,o,ho,w⟩:=I.cell x c (h _ _ e);exact⟨v,o,r _ _ ho,w⟩
 ·unfold qJW;show _=(own++fv.map λi=>X.N.getD i U8).length;rw[A6,A6,A0,A0,A0]
theorem qZI {c:Scope} {own:List Str} {fv:List Nat} {f:List Addr} {a:Aa2} {σ':St} {H':Hp} {g:List (Str×Addr)} (I:Inv X Ab σ H s)(e:∀b∈f,FpOk X Ab H b)
  (J:Inv (lcCx X c own fv ⟨s.heap.objs.size,g,f,s,H⟩) a σ' H' s'):Inv X Ab σ H' s':=
 I.call' (ch:=f) J.os J.base J.hok J.bare λb d=>⟨(e b d).2.2.2.1,(e b d).2.1,(e b d).2.2.2.2.1,(e b d).2.2.2.2.2⟩
end
def PTs (X:Cx)(ifs:List Expr)(t:TT):Prop:=
 ∀(Ab:Aa2) (s:Shared) (σ:St) (H:Hp) (Q:Bool->Hp->Prop),Inv X Ab σ H s->t σ H Q->
  wpAny (model X.prog X.w) X.A (forIn ifs true λc r=>if r=true then do let ok <- isTrue c X.env (eval c X.env);pure (P9 ok) else pure (P9 r)) (TP X Ab σ Q) X.xe s
def qcL:TT:=λ_ H Q=>Q true H
theorem qBM {X:Cx} :PTs X [] qcL:=λa s σ H Q I h=>wpAny_tests_nil ⟨H,I,h⟩
theorem qF8 {X:Cx} {c:Expr} {t:TT} (h:PT X c t):PTs X [c] t:=λa s σ H Q I b=>wpAny_tests_one (h a s σ H Q I b)
def qbO (own:List Str)(fv:List Nat)(wi:TI)(g:TG)(tc:TT)(te:TE)(K:Addr->Hp->Prop):St->Hp->Prop:=λσ H=>wi σ H λJ H1=>∀p,H1 p=none->
 ∃W:Nat->Nat->St->Hp->Prop,(∃m,W 0 m (qJW own fv σ) (Ag H1 p (.lst [])))/\∀i m σ H,W i m σ H->
  (J.stop i H/\K p H)\/(J.go i H/\∃ N:St->Hp->Prop,(∀ σ' H',N σ' H'->∃ m',m'<m/\W (i+1) m' σ' H')/\∀ x H',J.yld i H x H'->g x σ H' fun σ2 H2=>tc σ2 H2 fun b H3=>
   if b=true then te σ2 H3 λy H4=>∃ys,H4 p=some (.lst ys)/\ys.length<B75/\N σ2 (Ag H4 p (.lst (ys++[y])))
   else N σ2 H3)
def tLc (own:List Str)(fv:List Nat)(wi:TI)(g:TG)(tc:TT)(te:TE):TE:=λσ H Q=>qbO own fv wi g tc te (λp H'=>Q (.ref p) H') σ H
section
variable{X:Cx}{tg iter elt:Expr}{ifs:List Expr}{scope:Scope}{pos:Pos}{own:List Str}{fv:List Nat}{wi:TI}{g:TG}{tc:TT}{te:TE}
theorem qUF {Ab:Aa2} {σ:St} {H:Hp} {K:Addr->Hp->Prop} {use:Option (Value->Sem Unit)} {Q:Aa1} (hc:X.calm=true)(S:LcScope X scope own fv)(hi:PI X tg iter wi)
  (hg:∀z,PG (lcCx X scope own fv z) tg g) (ht:∀z,PTs (lcCx X scope own fv z) ifs tc) (he:∀z,PE (lcCx X scope own fv z) elt te)
  (I:Inv X Ab σ H s) (h:qbO own fv wi g tc te K σ H) (ae:∀e s,X.xe e s->E e s)
  (al:∀ (p:Addr) (L:Addr) (H':Hp) (s':Shared) (m:Ab0),Inv X Ab σ H' s'->K p H'->s'.heap.Ns L m->X.s₀.heap.objs.size<=L->H' L=none->L ≠ X.env.locals->(∀ x c,X.env.cells.lookup x=some c->c ≠ L)->(∀ q ∈ X.pn++Ab,q.1 ≠ L)->
   compPost (model X.prog X.w) X.A E use Q (.ref p) L (.ok .next) s') (hs:∀x,C27 iter X.env x=pure x:=by intro _;rfl):
  wpAny (model X.prog X.w) X.A (comprehension (.ListComp elt [⟨tg,iter,ifs,0⟩] scope pos) scope X.env (firstIterPos [⟨tg,iter,ifs,0⟩] pos) (newList []) false (eval iter X.env) use) Q E s:=by
 have ao:∀x,(x,O0)∈scope.names->∃c,X.env.cells.lookup x=some c:=λx hx=>I.ok.has x (S.free _ hx rfl);refine wpAny_comprehension_free rfl hs (qI6 ao) S.kind S.names (B83 (hi Ab s σ H _ I h) (λv s1 h1=>B83 h1 (λap j h2=>?_) ae) ae);obtain⟨it,k,tn,J,H2,e,I2,T,ai,f2,q2⟩:=h2;subst e
 -- the list
 refine B82 ?_;have a2:H2 j.heap.objs.size=none:=I2.hok.fresh (B4 _);have I3:Inv X Ab σ (Ag H2 j.heap.objs.size (.lst [])) {j with heap:=j.heap.push {cls:=.type "list",dict:=none,data:=.seq ([]:List Value).toArray}}:=
  I2.laid (t':=j.toks) (λb u e=>A1 _ e) (B4 _) ⟨J5 _,[],0,.nil,B8 _ rfl⟩
 obtain⟨W,⟨m0,w0⟩,a8⟩:=q2 j.heap.objs.size a2;have ac:∀b∈k,b<j.heap.objs.size:=λb a=>by
  obtain⟨o,e,_⟩:=T.obj 0 _ ai b a;exact B9 e
 have f3:∀b∈k,FpOk X Ab (Ag H2 j.heap.objs.size (.lst [])) b:=λb a=>⟨by rw[qAB (E7 (ac b a))];exact(f2 b a).1,(f2 b a).2⟩
 generalize hp:j.heap.objs.size=p at *;generalize hH3:Ag H2 p (.lst [])=H3 at *;have am:tn 0 (j.heap.push {cls:=.type "list",dict:=none,data:=.seq ([]:List Value).toArray}):=T.keep _ _ _ ai λb _ o e=>A1 _ e;have an:∀b∈k,b<(j.heap.push {cls:=.type "list",dict:=none,data:=.seq ([]:List Value).toArray}).objs.size:=λb a=>by
  rw[O4];have:=ac b a;rw[hp];exact Y5 this
 generalize hs3:({j with heap:=j.heap.push {cls:=.type "list",dict:=none,data:=.seq ([]:List Value).toArray}}:Shared)=f at *;have ah:tn 0 f.heap:=by rw[<- hs3];exact am
 have a6:∀b∈k,b<f.heap.objs.size:=by rw[<- hs3];exact an
 -- the block's frame
 refine wpAny_newFunctionEnv S.nocell (by intro y hy;simp at hy) (λh₁ af ab=>?_) S.kind
 have l:∀b o,f.heap.get? b=some o->h₁.get? b=some o:=λb o e=>ab.extBut b o (E7 (B9 e)) (A1 _ e);have J0:Inv (lcCx X scope own fv ⟨f.heap.objs.size,qHI X.env scope.names [],k,f,H3⟩) [] (qJW own fv σ) H3 {f with heap:=h₁,toks:=f.toks+([]:List (Str×Value)).length}:=qWV I3 S f3 a6 af l;have a7:=qbN I3 S f3 a6;generalize hz:(⟨f.heap.objs.size,qHI X.env scope.names [],k,f,H3⟩:LcZ)=z at *;have a1:tn 0 h₁:=T.keep _ _ _ ah λb _ o e=>l b o e;have a4:∀b∈k,H3 b=none:=λb a=>(f3 b a).1;have t:∀{H':Hp},(∀b∈k,H' b=none)->∀b∈k,FpOk (lcCx X scope own fv z) [] H' b:=λhn b a=>by
  subst hz;refine⟨hn b a,(a7.exf b a).1,a7.exfs b a,.inl a,(a7.exf b a).2,λq hq=>absurd (show q∈([]:Aa2) from hq) (by simp)⟩
 have a9:({newEnv scope f.heap.objs.size X.env.globals (qHI X.env scope.names []) X.env.qual none .none (some X.env) C52 with scope:=relabel scope X.env}:Env)=(lcCx X scope own fv z).env:=by
  subst hz
  rfl
 have a5:∀sA:Shared,sA={f with heap:=h₁,toks:=f.toks+([]:List (Str×Value)).length}->C14 (model X.prog X.w) X.A (.compLoop (.ListComp elt [⟨tg,iter,ifs,0⟩] scope pos) 0 (.ref it) (.ref p) (lcCx X scope own fv z).env)
   (compPost (model X.prog X.w) X.A E use Q (.ref p) f.heap.objs.size) sA:=by
  rintro sA rfl;refine qOY (λn s'=>∃i σ' H',Inv (lcCx X scope own fv z) [] σ' H' s'/\tn i s'.heap/\(∀b∈k,H' b=none)/\W i n σ' H') ?_ m0 ⟨0,_,H3,J0,a1,a4,w0⟩;rintro n s4 ⟨i,σ4,H4,I4,a1,a4,w4⟩;rcases a8 i n σ4 H4 w4 with⟨ad,qn⟩|⟨go,Nx,ag,aa⟩
  ·refine thn (T.done (lcCx X scope own fv z) rfl rfl rfl hc i [] s4 σ4 H4 noX I4 (t a4) a1 ad) λr s5 ⟨hr,I5⟩=>?_;subst hr;subst hz;have I6:Inv X Ab σ H4 s5:=qZI I3 f3 I5;obtain⟨m,hn,_⟩:=id I5.loc;have a3:=I3.fpOk (H':=H4) (b:=f.heap.objs.size) (B4 _) I5.free;refine al p f.heap.objs.size H4 s5 m I6 qn hn I3.sz a3.1 a3.2.1 a3.2.2.2.2.1 a3.2.2.2.2.2
  ·refine thn (T.item (lcCx X scope own fv z) rfl rfl rfl hc i [] s4 σ4 H4 noX I4 (t a4) a1 go) λr s5 ⟨u,hr,h5⟩=>?_;subst hr;refine thn h5 λ_ s6 ⟨x,H6,I6,r6,y6,st6,fr6⟩=>?_;have ak:=I6.pinned (t fr6) (T.obj _ _ st6);have a0:∀{σ7:St} {H7:Hp} {s7:Shared} {m':Nat},m'<n->Inv (lcCx X scope own fv z) ([]++qLP k s6.heap) σ7 H7 s7->W (i+1) m' σ7 H7->
     ∃m,m<n/\∃i σ' H',Inv (lcCx X scope own fv z) [] σ' H' s7/\tn i s7.heap/\(∀b∈k,H' b=none)/\W i m σ' H':=λ{σ7 H7 s7 m'} hm I7 w7=>by
    refine⟨m',hm,i+1,σ7,H7,I7.unpinned,T.keep _ _ _ st6 λb a o e=>(I7.pin (b,o) (F7 _ (F7 _ (qDG a e)))).1,λb a=>?_,w7⟩;obtain⟨o,e,d⟩:=T.obj _ _ st6 b a;exact(I7.pin (b,o) (F7 _ (F7 _ (qDG a e)))).2.1
   refine thn (hg z _ s6 σ4 H6 x u _ ak r6 (aa x H6 y6)) λ_ s7 ⟨σ7,H7,I7,q7⟩=>?_;refine thn (ht z _ s7 σ7 H7 _ I7 q7) λb s8 ⟨H8,I8,q8⟩=>?_;cases b with
   |false=>
    obtain⟨m',hm,w8⟩:=ag _ _ q8;exact a0 hm I8 w8
   |true=>
    refine thn (he z _ s8 σ7 H8 _ I8 q8) λv s9 ⟨y,H9,I9,r9,ys,ep,hl,w9⟩=>?_;refine thn (qED (X:=lcCx X scope own fv z) _ s9 σ7 H9 (.ref p) [y] (.ref p) [v] (λ_ H'=>Nx σ7 H') I9 rfl (.cons r9 .nil) ⟨p,ys,y,rfl,rfl,ep,hl,w9⟩) λ_ s10 ⟨_,H10,I10,_,q10⟩=>?_;obtain⟨m',hm,aj⟩:=ag _ _ q10;exact a0 hm I10 aj
 rw[a9];exact codeAny_compStart_list (a5 _ rfl) (T.self _ _ _ _ _ a1 (a5 _ rfl))
theorem qE5 (e:X.calm=true)(S:LcScope X scope own fv)(hi:PI X tg iter wi)(f:∀z,PG (lcCx X scope own fv z) tg g)(j:∀z,PTs (lcCx X scope own fv z) ifs tc)(t:∀z,PE (lcCx X scope own fv z) elt te)
  (o:∀x,C27 iter X.env x=pure x:=by intro _;rfl):PE X (.ListComp elt [⟨tg,iter,ifs,0⟩] scope pos) (tLc own fv wi g tc te):=by
 intro v s σ H Q I h;rw[eval_ListComp];refine qUF (use:=none) (K:=λp a=>Q (.ref p) a) e S hi f j t I h (λ_ _ q=>q) (λp L a y m u q i c k r d l=>?_) o;exact⟨m,i,λw b=>⟨.ref p,a,u.other (n:=0) c k r d l b,rfl,q⟩⟩
theorem qPP {i:Nat} {x:Str} {b c:Pos} (hN:X.N.Nodup)(hx:X.N[i]?=some x)(r:X.env.scope.names.lookup x=some .local)(w:X.calm=true)(S:LcScope X scope own fv)(hi:PI X tg iter wi)(hg:∀z,PG (lcCx X scope own fv z) tg g)
  (ht:∀z,PTs (lcCx X scope own fv z) ifs tc) (he:∀z,PE (lcCx X scope own fv z) elt te) (d:swapsWith (.ListComp elt [⟨tg,iter,ifs,0⟩] scope pos) (some (.Name x b)) c.line X.env=pure true)
  (hs:∀x,C27 iter X.env x=pure x:=by intro _;rfl):PS X (.Assign [.Name x b] (.ListComp elt [⟨tg,iter,ifs,0⟩] scope pos) c) (tAsg (tLc own fv wi g tc te) (qV0 i)):=by
 intro Ab s σ H D I h;rw[exec_Assign_Name_used _ _ _ _ d];refine B73 (C16 (B73 ?_));show wpAny _ X.A (do let _ <- comprehension (.ListComp elt [⟨tg,iter,ifs,0⟩] scope pos) scope X.env _ (newList []) false (eval iter X.env) (some (assign (.Name x b) X.env))) _ _ s
 refine B73 (B83 (qUF (use:=some (assign (.Name x b) X.env)) (K:=fun p f=>D.nx (σ.set i (some (.ref p))) f) (Q:=fun _ j=>SP X Ab D .next j) (E:=X.xe) w S hi hg ht he I h (fun _ _ q=>q) (fun p L f j m I' q hn u h2 o t h5=>?_) hs)
  (λ_ j hq=>B74 (B74 hq)) λ_ _ e=>e)
 show wpAny _ X.A (assign (.Name x b) X.env (.ref p)) _ _ _;refine wpAny_assign_Name (qNO (v:=.ref p) I' hN hx (.inl r) rfl (λs2 I2 ⟨a,hsb,ha⟩=>?_) (.inr r));have l:L≠a:=by
  rcases ha with z|z
  ·rw[z];exact o
  ·exactλy=>t x a z y.symm
 exact⟨m,hn.sameBut hsb l,λh' k=>⟨_,f,I2.other (n:=0) u h2 o t h5 k,q⟩⟩
end
abbrev LcG (I:It)(g:TG)(tc:TT)(te:TE)(Kf:Hp->Prop)(σ0:St)(H0:Hp)(p:Addr):Prop:=∃W:Nat->Nat->St->Hp->Prop,(∃m,W 0 m σ0 H0)/\∀i m σ H,W i m σ H->(I.stop i H/\Kf H)\/(I.go i H/\∃N:St->Hp->Prop,(∀σ' H',N σ' H'->∃m',m'<m/\W (i+1) m' σ' H')/\∀x H',I.yld i H x H'->g x σ H' λσ2 H2=>tc σ2 H2 λb H3=>if b=true then te σ2 H3 λy H4=>∃ys,H4 p=some (.lst ys)/\ys.length<B75/\N σ2 (Ag H4 p (.lst (ys++[y]))) else N σ2 H3)
theorem qD7 {lo:Int} {n:Nat} {g:TG} {c:TT} {d:TE} {Kf:Hp->Prop} {σ0:St} {H0:Hp} {p:Addr} (Pv:Nat->St->Hp->Prop)(l:Pv 0 σ0 H0)
  (j:∀i σ H,i<n->Pv i σ H->g (.int (lo+i)) σ H λσ2 H2=>c σ2 H2 λb H3=>if b=true then d σ2 H3 λy H4=>∃ys,H4 p=some (.lst ys)/\ys.length<B75/\Pv (i+1) σ2 (Ag H4 p (.lst (ys++[y]))) else Pv (i+1) σ2 H3)
  (h:∀σ H,Pv n σ H->Kf H):
  LcG (Itr lo n) g c d Kf σ0 H0 p:=by
 refine⟨λi m σ H=>m=n-i/\i<=n/\Pv i σ H,⟨n,by simp,J5 _,l⟩,?_⟩
 rintro i m σ H ⟨rfl,hi,q⟩;by_cases a:i<n
 ·refine .inr ⟨a,Pv (i+1),λσ' k f=>⟨n-(i+1),by omega,rfl,a,f⟩,λx k y=>?_⟩
  obtain⟨e,y⟩:=y;subst e y;exact j i σ _ a q
 ·have e:i=n:=by omega
  subst e;exact .inl ⟨B4 _,h σ H q⟩
theorem qE7 {K:Ab1} {a:Addr} {xs:List V} {g:TG} {f:TT} {h:TE} {Kf:Hp->Prop} {σ0:St} {H0:Hp} {p:Addr} (Pv:Nat->St->Hp->Prop)(r:Pv 0 σ0 H0)(o:∀i σ H,i<=xs.length->Pv i σ H->SqL K H a xs)
  (l:∀i x σ H,xs[i]?=some x->Pv i σ H->g x σ H λσ2 H2=>f σ2 H2 λb H3=>if b=true then h σ2 H3 λy H4=>∃ys,H4 p=some (.lst ys)/\ys.length<B75/\Pv (i+1) σ2 (Ag H4 p (.lst (ys++[y]))) else Pv (i+1) σ2 H3)
  (k:∀σ H,Pv xs.length σ H->Kf H):
  LcG (Itl K a) g f h Kf σ0 H0 p:=by
 refine⟨λi m σ H=>m=xs.length-i/\i<=xs.length/\Pv i σ H,⟨xs.length,by simp,J5 _,r⟩,?_⟩
 rintro i m σ H ⟨rfl,hi,q⟩;have d:=o i σ H hi q;by_cases c:i<xs.length
 ·refine .inr ⟨⟨xs,xs[i],d,by simp[c]⟩,Pv (i+1),λσ' n j=>⟨xs.length-(i+1),by omega,rfl,c,j⟩,λx n y=>?_⟩
  obtain⟨e,y⟩:=y;subst e;exact l i x σ _ (y xs d) q
 ·have e:i=xs.length:=by omega
  subst e;exact .inl ⟨⟨xs,d,B4 _⟩,k σ H q⟩
theorem qOF {K:Ab1} {a:Addr} {xs:List V} {g:TG} {f:TT} {h:TE} {Kf:Hp->Prop} {σ0:St} {H0:Hp} {p:Addr} (Pv:Nat->St->Hp->Prop)(r:Pv 0 σ0 H0)(o:∀i σ H,i<=xs.length->Pv i σ H->SqT K H a xs)
  (l:∀i x σ H,xs[i]?=some x->Pv i σ H->g x σ H λσ2 H2=>f σ2 H2 λb H3=>if b=true then h σ2 H3 λy H4=>∃ys,H4 p=some (.lst ys)/\ys.length<B75/\Pv (i+1) σ2 (Ag H4 p (.lst (ys++[y]))) else Pv (i+1) σ2 H3)
  (k:∀σ H,Pv xs.length σ H->Kf H):
  LcG (Itt K a) g f h Kf σ0 H0 p:=by
 refine⟨λi m σ H=>m=xs.length-i/\i<=xs.length/\Pv i σ H,⟨xs.length,by simp,J5 _,r⟩,?_⟩
 rintro i m σ H ⟨rfl,hi,q⟩;have d:=o i σ H hi q;by_cases c:i<xs.length
 ·refine .inr ⟨⟨xs,xs[i],d,by simp[c]⟩,Pv (i+1),λσ' n j=>⟨xs.length-(i+1),by omega,rfl,c,j⟩,λx n y=>?_⟩
  obtain⟨e,y⟩:=y;subst e;exact l i x σ _ (y xs d) q
 ·have e:i=xs.length:=by omega
  subst e;exact .inl ⟨⟨xs,d,B4 _⟩,k σ H q⟩
noncomputable def qUG (scope:Scope)(own:List Str)(fv:List Nat)(osc:Scope)(N:List Str):Bool:=
 decide (scope.kind=.function)&&scope.names.all (λy=>decide (y.2≠.cell))&&scope.names.all (λy=>decide (y.2≠.local)||decide (scope.names.lookup y.1=some .local)) &&
 scope.names.all (λy=>decide (y.2≠.free)||(decide (osc.names.lookup y.1=some .cell)||decide (osc.names.lookup y.1=some .free)))&&decide ((own++fv.map λi=>N.getD i U8).Nodup) &&
 fv.all λi=>decide (i<N.length)&&decide (scope.names.lookup (N.getD i U8)=some .free)
theorem lcs {X:Cx} {a:Scope} {own:List Str} {fv:List Nat} (h:qUG a own fv X.env.scope X.N=true):LcScope X a own fv:=by
 unfold qUG at h;simp only[L3,decide_eq_true_eq,L7,A01] at h;obtain⟨⟨⟨⟨⟨c,g⟩,j⟩,d⟩,i⟩,f⟩:=h;exact⟨c,g,λy b e=>(j y b).resolve_left λz=>z e,λy b e=>(d y b).resolve_left λz=>z e,i,f⟩
theorem qdE {N:List Str} (h:decide N.Nodup=true):N.Nodup:=of_decide_eq_true h
theorem qTU {X:Cx} {K:Ab1} {es:List Expr} {k n:Nat} {t:TGs} {pos:Pos} (b:X.K=K)(c:X.calm=true)(h:PGs X es t)(d:(C30 es X.env).length=n)(a:(C30 es X.env).findIdx? (·.1)=none):PG X (.Tuple es k pos) (gTup K n t):=by
 subst b d;exact qNZ c h rfl a
theorem qZ3 {X:Cx} {K:Ab1} {b l:Expr} {a:TE} (c:X.K=K)(d:PE X l a):PI X b l (iTup K a):=by subst c;exact qNY d
theorem qMX {X:Cx} {K:Ab1} (a:X.K=K):IxR X (rIxT K):=by subst a;exact qAM
theorem qbA {X:Cx} {K:Ab1} (a:X.K=K):OpR X (B94 .In) (rIn K false):=by subst a;exact qJP
theorem qO4 {X:Cx} {K:Ab1} (a:X.K=K):OpR X (B94 .NotIn) (rIn K true):=by subst a;exact qO3
theorem qKG {X:Cx} {K:Ab1} (a:X.K=K):qDX X (.type "tuple") (λxs H Q=>∃p ys,xs=[.ref p]/\((SqL K H p ys/\∀l,H l=none->Q (.ref l) (Ag H l (.tup ys)))\/(SqT K H p ys/\Q (.ref p) H))):=by subst a;exact qAU
theorem qNF {xs:Array Nat} {j:Nat} (up:∀a b,a<b->b<xs.size->xs.getD a j<xs.getD b j):∀(fuel lo hi:Nat),lo<=hi->hi<=xs.size->hi-lo<=fuel->(∀i,i<lo->xs.getD i j<j)->(∀i,hi<=i->i<xs.size->j<=xs.getD i j)->
  o9 xs j fuel lo hi<=xs.size/\(∀i,i<o9 xs j fuel lo hi->xs.getD i j<j)/\(∀i,o9 xs j fuel lo hi<=i->i<xs.size->j<=xs.getD i j)
 |0,lo,hi,h1,h2,h3,a,b=>by
  have e:lo=hi:=by lia
  subst e;exact⟨h2,a,b⟩
 |fuel+1,lo,hi,h1,h2,h3,a,b=>by
  unfold o9;by_cases hlt:lo<hi
  ·rw[if_pos hlt];dsimp only;have hm1:lo<=(lo+hi)/2:=by lia
   have hm2:(lo+hi)/2<hi:=by lia
   by_cases hc:xs.getD ((lo+hi)/2) j<j
   ·rw[if_pos hc];refine qNF up fuel _ _ (by lia) h2 (by lia) (λi hi'=>?_) b
    by_cases e:i=(lo+hi)/2
    ·rw[e];exact hc
    ·exact A18 (up i ((lo+hi)/2) (by lia) (by lia)) hc
   ·rw[if_neg hc];refine qNF up fuel _ _ (by lia) (by lia) (by lia) a (λi hi' hs=>?_)
    by_cases e:i=(lo+hi)/2
    ·rw[e];lia
    ·have:=up ((lo+hi)/2) i (by lia) hs
     lia
  ·rw[if_neg hlt];have e:lo=hi:=by lia
   subst e;exact⟨h2,a,b⟩
theorem qYM {xs:Array Nat} (j:Nat)(h:xs.toList.Pairwise (·<·)):∀a b,a<b->b<xs.size->xs.getD a j<xs.getD b j:=λa b c d=>by
 have:=R3.mp h a b (by simpa using A18 c d) (by simpa using d) c
 rw[L0,L0,C8 (A18 c d),C8 d];simpa using this
theorem qI7 {xs:Array Nat} {j:Nat} (h:xs.toList.Pairwise (·<·)):F2 xs j<=xs.size/\(∀i,i<F2 xs j->xs.getD i j<j)/\(∀i,F2 xs j<=i->i<xs.size->j<=xs.getD i j):=by
 unfold F2;exact qNF (qYM j h) xs.size 0 xs.size (J5 _) (B4 _) (by lia) (λi a=>absurd a (by lia)) (λi a b=>absurd b (by lia))
theorem qCG {α:Type} (xs:Array α)(p:Nat)(x:α):(J6 xs p x).toList=xs.toList.take p++x::xs.toList.drop p:=by
 unfold J6;simp[Array.toList_extract,D3]
structure T7 (byText:Bool)(t:C24)(n:Nat):Prop where
 mask:t.mask=7
 dum:t.dummies=#[]
 plain:t.plain=true
 led:t.led=!byText
 size:t.place.size=n
 up:t.place.toList.Pairwise (·<·)
 le:∀j∈t.place.toList,j<=7
section
variable{byText:Bool}{t:C24}{n:Nat}
theorem T7.slot (T:T7 byText t n)(j:Nat):(t.slot j=.empty/\j∉t.place.toList)\/(∃i,t.slot j=.live i/\j∈t.place.toList):=by
 unfold SetTable.slot;dsimp only;have e:B67 t.dummies j=false:=by rw[T.dum];rfl
 obtain⟨o,h,l⟩:=qI7 (j:=j) T.up;by_cases b:t.place[F2 t.place j]?=some j
 ·rw[if_pos (by rw[b];simp)]
  exact .inr (xR rfl (by rw[<- Array.mem_def];exact Array.mem_of_getElem? b))
 ·rw[if_neg (by simpa using b),e,if_neg (by simp)]
  refine .inl ⟨rfl,λg=>?_⟩;obtain⟨i,k,c⟩:=d8.mp g;have a:i<t.place.size:=by simpa using k
  have m:t.place.getD i j=j:=by
   rw[L0,C8 a];simpa using c
  have d:¬i<F2 t.place j:=λz=>by have:=h i z;lia
  have f:F2 t.place j=i:=by
   apply Nat.le_antisymm (t7 d);apply t7;intro z;have:=l (F2 t.place j) (B4 _) (by lia)
   have:=qYM j T.up _ _ z a
   lia
  apply b;rw[f,C8 a];simpa using c
def pr (i pt:Nat):SetTable.Probe:={j:=i,more:=0,i:=i,perturb:=pt,dummy:=none}
theorem T7.adv (T:T7 byText t n)(i a:Nat):t.advance (pr i a)=pr ((i*5+1+a/32)%8) (a/32):=by
 unfold SetTable.advance pr SetTable.leap B37;rw[T.mask];dsimp only;rw[if_neg (by lia),if_neg (by lia),A54]
theorem T7.go1 (T:T7 byText t n)(h:Int)(f i a:Nat):
  (V6 t (λ_=>h+1) h (f+1) (pr i a)=some (.empty i none)/\i∉t.place.toList)\/
  (V6 t (λ_=>h+1) h (f+1) (pr i a)=V6 t (λ_=>h+1) h f (pr ((i*5+1+a/32)%8) (a/32))/\i∈t.place.toList):=by
 rcases T.slot i with⟨e,m⟩|⟨k,e,m⟩
 ·left
  refine⟨?_,m⟩;unfold V6;rw[show(pr i a).j=i from rfl,e]
  rfl
 ·right
  refine⟨?_,m⟩;rw[V6];rw[show(pr i a).j=i from rfl,e];dsimp only;rw[if_neg (by simp;lia),T.adv]
def F8 (i:Nat):Nat:=(i*5+1)%8
def F8n:Nat->Nat->Nat
 |0,i=>i
 |m+1,i=>F8n m (F8 i)
theorem T7.go0 (T:T7 byText t n)(h:Int)(f:Nat):∀(m i:Nat),(∃j,V6 t (λ_=>h+1) h (m+f) (pr i 0)=some (.empty j none)/\j∉t.place.toList/\∃q,q<m/\j=F8n q i)\/(∀q,q<m->F8n q i∈t.place.toList)
 |0,i=>.inr λq hq=>absurd hq (by lia)
 |m+1,i=>by
  rcases T.go1 h (m+f) i 0 with⟨e,z⟩|⟨e,z⟩
  ·exact .inl ⟨i,by rw[show m+1+f=m+f+1 by lia];exact e,z,0,by lia,rfl⟩
  ·rw[show m+1+f=m+f+1 by lia,e]
   have e2:(i*5+1+0/32)%8=F8 i:=by unfold F8;lia
   rw[e2];rcases T.go0 h f m (F8 i) with⟨j,e3,z3,q,hq,e4⟩|e3
   ·exact .inl ⟨j,e3,z3,q+1,by lia,e4⟩
   ·refine .inr λq hq=>?_;cases q with
    |zero=>exact z
    |succ q=>exact e3 q (by lia)
theorem qcF:∀i:_root_.Fin 8,∀j:_root_.Fin 8,∃q:_root_.Fin 8,F8n q.1 i.1=j.1:=by decide
theorem qcE:∀(q i:Nat),i<8->F8n q i<8
 |0,i,h=>h
 |q+1,i,h=>qcE q (F8 i) (B04 _ (by decide))
theorem T7.goK (T:T7 byText t n)(hn:n<=7)(h:Int)(f:Nat):∀(k i pt:Nat),i<8->pt<32^k->∃j,V6 t (λ_=>h+1) h (k+(8+f)) (pr i pt)=some (.empty j none)/\j∉t.place.toList/\j<=7
 |0,i,pt,hi,hp=>by
  have e:pt=0:=by lia
  subst e;rw[B16];rcases T.go0 h f 8 i with⟨j,e,z,q,hq,e2⟩|e
  ·exact⟨j,e,z,by have:=qcE q i hi;lia⟩
  ·exfalso
   have sub:[0,1,2,3,4,5,6,7] ⊆ t.place.toList:=λj hj=>by
    have hj8:j<8:=by
     simp at hj
     lia
    obtain⟨q,hq⟩:=qcF ⟨i,hi⟩ ⟨j,hj8⟩;rw[<- show F8n q.1 i=j from hq];exact e q.1 q.2
   have:=r8 (by decide:[0,1,2,3,4,5,6,7].Nodup) sub
   have hs:=T.size;simp at this
   lia
 |k+1,i,pt,hi,hp=>by
  rw[show k+1+(8+f)=k+(8+f)+1 by lia]
  rcases T.go1 h (k+(8+f)) i pt with⟨e,z⟩|⟨e,z⟩
  ·exact⟨i,e,z,by lia⟩
  ·rw[e];refine T.goK hn h f k _ _ (B04 _ (by decide)) ?_
   rw[Nat.pow_succ] at hp
   lia
theorem T7.free (T:T7 byText t n)(d:n<=7)(h:Int):∃j,t.freeSlot h=some (j,false)/\j∉t.place.toList/\j<=7:=by
 have c:l6 h<32^13:=by
  unfold l6;have b:0<=h%(2^64:Int):=b7 _ (by decide)
  have f:h%(2^64:Int)<2^64:=X0 _ (by decide)
  have:((2:Int)^64)=18446744073709551616:=by decide
  rw[this] at b f ⊢;have g:(32:Nat)^13=36893488147419103232:=by decide
  lia
 obtain⟨j,e,z,l⟩:=T.goK d h 199 13 (l6 h%8) (l6 h) (B04 _ (by decide)) c
 refine⟨j,?_,z,l⟩;have a:t.probeStart h=pr (l6 h%8) (l6 h):=by
  unfold SetTable.probeStart pr B37;rw[T.mask];dsimp only;rw[if_neg (by lia),A54]
 unfold SetTable.freeSlot SetTable.probe;rw[a,show 10*SetTable.turns t.mask=13+(8+199) by rw[T.mask];rfl,e]
 rfl
theorem T7.lay (T:T7 byText t n)(hn:n<=3){es:Array (Int×Value)}(he:es.size=n)(h:Int)(x:Value):
  ∃p t',layNew t es h x=(J6 es p (h,x),t',false,false)/\T7 byText t' (n+1)/\t'.tooFull=false/\p<=es.size:=by
 obtain⟨j,e,z,l⟩:=T.free (by lia) h
 obtain⟨q,b2,w⟩:=qI7 (j:=j) T.up;have v:B67 t.dummies j=false:=by rw[T.dum];rfl
 have o:(J6 t.place (F2 t.place j) j).toList=t.place.toList.take (F2 t.place j)++j::t.place.toList.drop (F2 t.place j):=qCG _ _ _;have m:(J6 t.place (F2 t.place j) j).size=n+1:=by
  rw[<- D6,o,A6,J7,C9,J2,D6,T.size];rw[T.size] at q
  lia
 have T':T7 byText {t with place:=J6 t.place (F2 t.place j) j,dummies:=t.dummies} (n+1):=by
  refine⟨T.mask,T.dum,T.plain,T.led,m,?_,?_⟩
  ·show(J6 t.place (F2 t.place j) j).toList.Pairwise (·<·);rw[o];have u:∀i,i<t.place.size->t.place.getD i j=t.place.toList.getD i j:=λi hi=>by
    rw[L0,J9,F9]
   have s:∀a∈t.place.toList.take (F2 t.place j),a<j:=λa f=>by
    obtain⟨i,hi,c⟩:=d8.mp f;rw[C9,D6] at hi;have k:i<F2 t.place j:=by lia
    have d:i<t.place.size:=by lia
    have:=b2 i k;rw[L0,C8 d] at this;rw[A28] at c;rw[<- c];simpa using this
   have hi:∀a∈t.place.toList.drop (F2 t.place j),j<a:=λa f=>by
    have hm:a∈t.place.toList:=Q7 f;obtain⟨i,hi,c⟩:=d8.mp f;rw[J2,D6] at hi;have d:F2 t.place j+i<t.place.size:=by lia
    have:=w _ (Nat.le_add_right _ i) d;rw[L0,C8 d] at this;rw[A29] at c;have y:j<=a:=by
     rw[<- c];simpa using this
    rcases Nat.lt_or_eq_of_le y with h4|h4
    ·exact h4
    ·exact absurd (h4▸hm) z
   refine U9.mpr ⟨T.up.sublist (n9 _ _),List.pairwise_cons.mpr ⟨hi,T.up.sublist (c9 _ _)⟩,λa f b hb=>?_⟩;rcases C0.mp hb with e|hb
   ·rw[e];exact s a f
   ·exact A18 (s a f) (hi b hb)
  ·show∀i∈(J6 t.place (F2 t.place j) j).toList,i<=7;rw[o];intro i hi;rcases B7.mp hi with hi|hi
   ·exact T.le i (Q8 hi)
   ·rcases C0.mp hi with e|hi
    ·lia
    ·exact T.le i (Q7 hi)
 have g:A89 {t with place:=J6 t.place (F2 t.place j) j,dummies:=t.dummies} (n+1)=true:=by
  unfold A89 A90;dsimp only;rw[m,T.dum,T.mask];have:((#[]:Array Nat)).size=0:=rfl;simp only[this,beq_self_eq_true,Q6,decide_eq_true_eq]
  lia
 have r:(J6 es (F2 t.place j) (h,x)).size=n+1:=by
  rw[<- D6,qCG,A6,J7,C9,J2,D6];rw[T.size] at q
  lia
 refine⟨F2 t.place j,{t with place:=J6 t.place (F2 t.place j) j,dummies:=t.dummies},?_,T',?_,by rw[he,<- T.size];exact q⟩
 ·unfold layNew;rw[e];dsimp only;unfold SetTable.put;rw[v];dsimp only;rw[r];unfold SetTable.orStandIn;simp only[G0,if_false];rw[g];simp
 ·unfold SetTable.tooFull A90;dsimp only;rw[m,T.dum,T.mask];have:((#[]:Array Nat)).size=0:=rfl;rw[this];exact decide_eq_false (by lia)
end
theorem qLX {α:Type} :∀(l:List α) (i:Nat) (h:i<l.length),(l[i]::l.eraseIdx i).Perm l
 |[],i,h=>absurd h (by simp)
 |a::r,0,h=>.refl _
 |a::r,i+1,h=>by
  have hi:i<r.length:=by simpa using h
  have ih:=qLX r i hi;show(r[i]::a::r.eraseIdx i).Perm (a::r);exact(B42 _ _ _).trans (ih.cons a)
theorem qTT {α:Type} (next:Nat->Nat):∀(fuel k:Nat) (left:List α) (out:Array α),fuel=left.length->(B17 next fuel k left out).toList.Perm (out.toList++left)
 |0,k,left,out,h=>by
  have:left=[]:=P3.mp h.symm;subst this;unfold B17;simp
 |fuel+1,k,left,out,h=>by
  have hl:0<left.length:=by lia
  have hm:next k%left.length<left.length:=B04 _ hl;unfold B17;rw[B0 hm];dsimp only;refine(qTT next fuel (k+1) _ _ (by rw[List.length_eraseIdx_of_lt hm];lia)).trans ?_
  rw[Y6,O3];exact t0 _ (qLX left _ hm)
theorem qTS {α:Type} (next:Nat->Nat)(xs:Array α):(pickOrder next xs).toList.Perm xs.toList:=by
 unfold pickOrder;have:=qTT next xs.size 0 xs.toList #[] (by simp)
 simpa using this
abbrev Ents:List Int->List (Int×Value)->Prop:=Paired λk e=>∃tk,e=(C20 k,V8 k tk)
theorem Ents.perm:∀{es es':List (Int×Value)} {ks:List Int},Ents ks es->es'.Perm es->∃ks',Ents ks' es'/\ks'.Perm ks:=by
 intro es es' ks h p;have e:∀{a b:List (Int×Value)},a.Perm b->∀ks,Ents ks b->∃ks',Ents ks' a/\ks'.Perm ks:=by
  intro a b p
  induction p with
  |nil=>intro ks h;exact⟨ks,h,.refl _⟩
  |cons x p ih=>
   intro ks h;cases h with
   |cons r t=>
    obtain⟨ks',c,d⟩:=ih _ t;exact⟨_::ks',.cons r c,d.cons _⟩
  |swap x y l=>
   intro ks h;cases h with
   |cons r t=>
    cases t with
    |cons r' t'=>exact⟨_,.cons r' (.cons r t'),.swap _ _ _⟩
  |trans p q ih1 ih2=>
   intro ks h;obtain⟨i,c,d⟩:=ih2 ks h;obtain⟨j,g,f⟩:=ih1 i c;exact⟨j,g,f.trans d⟩
 exact e p ks h
theorem Ents.elems {es:List (Int×Value)} {ks:List Int} (h:Ents ks es):ElemsOf (C28 prog w) es:=by
 intro e a;have b:∀{ks:List Int} {es:List (Int×Value)},Ents ks es->∀e∈es,∃k tk,e=(C20 k,V8 k tk):=by
  intro ks es h
  induction h with
  |nil=>intro e a;cases a
  |cons r t ih=>
   intro e a;rcases C0.mp a with z|z
   ·subst z;obtain⟨tk,e⟩:=r;exact⟨_,tk,e⟩
   ·exact ih e z
 obtain⟨k,tk,rfl⟩:=b h e a;exact⟨⟨k,by simp[C28,A37],rfl⟩,rfl⟩
theorem Ents.find {k:Int} :∀{es:List (Int×Value)} {ks:List Int},Ents ks es->((B60 (λe=>(C28 prog w).is k e.2) es).isSome=true↔k∈ks)
 |_,_,.nil=>by simp
 |_,_,.cons r t=>by
  obtain⟨tk,rfl⟩:=r
  rename_i k' ks' es'
  have ih:=Ents.find (prog:=prog) (w:=w) (k:=k) t;rw[List.findIdx?_cons,C0];have hi:(C28 prog w).is k (V8 k' tk)=decide (k=k'):=by
   by_cases e:k=k'
   ·simp[C28,A37,e]
   ·have e':¬k'=k:=λz=>e z.symm;simp[C28,A37,e,e']
  dsimp only;rw[hi];by_cases e:k=k'
  ·simp[e]
  ·simp only[e,decide_false,G0,if_false,false_or,o8];exact ih
noncomputable def byT (w:World):Bool:=w.params.followText "set-order"
def SetI (w:World)(a:Addr)(zs:List Int)(h:Heap):Prop:=
 ∃(es:Array (Int×Value)) (ep:Nat) (t:C24) (ks:List Int),h.get? a=some {cls:=.type "set",data:=.set es ep t}/\T7 (byT w) t es.size/\Ents ks es.toList/\ks.Perm zs/\zs.Nodup/\zs.length<=4
theorem SetI.at {a:Addr} {zs:List Int} {h h':Heap} (x:SetI w a zs h)(k:∀o,h.get? a=some o->h'.get? a=some o):SetI w a zs h':=
 let⟨es,ep,t,ks,h1,r⟩:=x;⟨es,ep,t,ks,k _ h1,r⟩
theorem T7.fits {b:Bool} {t:C24} {n:Nat} (T:T7 b t n)(a:n<=7):t.fits n=true:=by
 unfold A89 A90;rw[T.size,T.dum,T.mask];have:((#[]:Array Nat)).size=0:=rfl;simp only[this,beq_self_eq_true,Q6,decide_eq_true_eq]
 lia
noncomputable def addI (zs:List Int)(k:Int):List Int:=if k∈zs then zs else zs++[k]
variable{prog:B76}{w:World}{A:Around}{E:Aa1}{s:Shared}
theorem SetI.size {a:Addr} {zs:List Int} {h:Heap} {es:Array (Int×Value)} {ks:List Int} (c:Ents ks es.toList)(b:ks.Perm zs):es.size=zs.length:=by
 rw[<- b.length_eq,C5 c,D6]
theorem qWC {a:Addr} {zs:List Int} {k:Int} {tk:Tok} {Q:Bool->Shared->Prop} (hS:SetI w a zs s.heap)(f:zs.length<=3\/k∈zs)
  (h:∀h',Heap.SameBut a s.heap h'->SetI w a (addI zs k) h'->∀b,Q b {s with heap:=h'}):wpAny (model prog w) A (setAddHashed a (.int k tk) (C20 k)) Q E s:=by
 obtain⟨es,ep,t,ks,r,T,q,o,v,a0⟩:=id hS;have m:es.size=zs.length:=SetI.size (a:=a) (h:=s.heap) q o;have i:ElemsOf (C28 prog w) es.toList:=q.elems;have hb:es.size<scanBound:=by rw[m];unfold scanBound;lia
 have hf:t.fits es.size=true:=T.fits (by lia)
 unfold setAddHashed setAddHashedIn;refine B84 (B73 (C03 r rfl hf ?_));dsimp only;rw[byScan_of (knd:=C28 prog w) (x:=.int k tk) rfl hb i];simp only[↓reduceIte];unfold setAddByScan;refine B73 ?_;refine B73 (B98 ?_);refine B73 (wpAny_setScan_of (knd:=C28 prog w) (k:=k) (intKind_is _ _ _ _) r rfl hf i ?_);have c:=Ents.find (prog:=prog) (w:=w) (k:=k) q;cases hr:B60 (λe=>(C28 prog w).is k e.2) es.toList with
 |some j=>
  dsimp only;rw[hr] at c;have g:k∈zs:=o.mem_iff.mp (c.mp rfl);refine B74 (B74 ?_);have e:s={s with heap:=s.heap}:=by cases s;rfl
  rw[e];refine h s.heap (Heap.SameBut.refl a s.heap) ?_ _;unfold addI;rw[if_pos g];exact hS
 |none=>
  dsimp only;rw[hr] at c;have g:¬k∈zs:=λz=>by have:=c.mpr (o.mem_iff.mpr z);cases this
  have h3:zs.length<=3:=f.resolve_right g;obtain⟨p,n,e1,T',tf,a1⟩:=T.lay (by lia) rfl (C20 k) (.int k tk)
  rw[e1];dsimp only;refine B73 (B74 ?_);rw[T'.plain];simp only[↓reduceIte];rw[hashByValue_scannable 8 (x:=.int k tk) rfl];refine B73 (B74 ?_);have d:(J6 es p (C20 k,V8 k tk)).size=es.size+1:=by
   rw[<- D6,qCG,A6,J7,C9,J2,D6]
   lia
  rw[show plainKind (V8 k tk)=true from rfl];simp only[↓reduceIte];show wpAny _ _ (storeSet a (J6 es p (C20 k,.int k tk)) n >>= _) _ _ _;refine B73 (wpAny_storeSet_of r rfl ?_ (by rw[d,m,B80];lia))
  rw[tf];simp only[p8,G0,↓reduceIte];refine B74 (B74 ?_);refine h _ (Z2 s.heap a _) ?_ _;have hg:(s.heap.update a (Obj.putSet (J6 es p (C20 k,.int k tk)) n)).get? a=some {cls:=.type "set",data:=.set (J6 es p (C20 k,.int k tk)) (ep+1) n}:=by
   have:=L6 (Obj.putSet (J6 es p (C20 k,.int k tk)) n) r (by rw[putSet_of _ _ (ep:=ep) (es:=es) (t:=t) rfl];rfl)
   rw[putSet_of _ _ (ep:=ep) (es:=es) (t:=t) rfl] at this;exact this
  have u:(J6 es p (C20 k,V8 k tk)).toList.Perm (es.toList++[(C20 k,.int k tk)]):=by
   rw[qCG];have e3:es.toList++[(C20 k,V8 k tk)]=es.toList.take p++(es.toList.drop p++[(C20 k,V8 k tk)]):=by
    rw[<- O3,X1]
   rw[e3];exact t0 _ (List.perm_append_singleton _ _).symm
  obtain⟨y,h4,h5⟩:=Ents.perm (ks:=ks++[k]) (Q5 q ⟨tk,rfl⟩) u;refine⟨_,_,n,y,hg,by rw[d];exact T',h4,?_,?_,?_⟩
  ·unfold addI;rw[if_neg g];exact h5.trans (o.append_right _)
  ·unfold addI;rw[if_neg g];exact qMO v g
  ·unfold addI;rw[if_neg g,A6,C1]
   lia
noncomputable def dedI:List Int->List Int:=λl=>l.foldl addI []
theorem qXJ (zs:List Int)(k:Int):(addI zs k).length<=zs.length+1:=by
 unfold addI
 split<;>simp
theorem qE8:∀(l zs:List Int),(l.foldl addI zs).length<=zs.length+l.length
 |[],zs=>by simp
 |k::r,zs=>by
  have h1:=qE8 r (addI zs k);have h2:=qXJ zs k;rw[W3,J7]
  lia
section
variable{prog:B76}{w:World}{A:Around}{R:Result->Shared->Prop}{I:Addr}{fp wr:List Addr}{G:Array C41->Array C41->Prop}{n:Nat}{P:Nat->Value->Prop}{St:Nat->Shared->Prop}
theorem qID (W:WalksS prog w A.in1 I fp wr G n P St)(S:Addr)(x:S∉fp)(ns:List Int)(a3:ns.length=n)(h4:n<=4)(y:∀i v,P i v->∃t,v=.int (ns.getD i 0) t):
  ∀(k i:Nat) (s:Shared),n-i=k->i<=n->St i s->SetI w S (dedI (ns.take i)) s.heap->
   (∀s',Moved (S::wr) G s s'->SetI w S (dedI ns) s'.heap->R (.ok (.ret .none)) s')->
   C14 (model prog w) A (.builtin "set.update.loop" ⟨[.ref S,.ref I],[]⟩) R s:=by
 have j:S∉wr:=λh=>x (W.sub _ h);have a:∀b∈wr,b∈S::wr:=λb l=>C2 _ l;intro k
 induction k with
 |zero=>
  intro i s hk hi d hS hR;have a2:i=n:=by lia
  subst a2;refine B92 F.entry_set_update_loop ?_;rw[L9 F.plain_set_update_loop _];show wpAny _ A.in1 (pyNext (.ref I) >>= _) _ _ s;refine B73 (W.done s _ _ d λs' r=>?_);show wpAny _ A.in1 (ret M3) _ _ s';rw[D3 (by lia)] at hS
  exact B74 (hR s' (r.mono a) (hS.at λo e=>r.heap S _ j e))
 |succ k ih=>
  intro i s hk hi d hS hR;have z:i<n:=by lia
  refine B92 F.entry_set_update_loop ?_;rw[L9 F.plain_set_update_loop _];show wpAny _ A.in1 (pyNext (.ref I) >>= _) _ _ s;refine B73 (W.item i s _ _ z d λv s' hP p r=>?_);obtain⟨t,rfl⟩:=y i v hP;have a0:SetI w S (dedI (ns.take i)) s'.heap:=hS.at λo e=>r.heap S _ j e;show wpAny _ A.in1 (C36 [V8 (ns.getD i 0) t] (setAdd S (.int (ns.getD i 0) t)) >>= _) _ _ s';refine B73 (B84 ?_);unfold setAdd;refine B84 ?_;refine B73 ((C28 prog w).pyHash (k:=ns.getD i 0) (intKind_is _ _ _ _) ?_);have c:(dedI (ns.take i)).length<=3:=by
   have:=qE8 (ns.take i) [];rw[C9] at this;unfold dedI;simp at this
   lia
  refine qWC (s:={s' with toks:=s'.toks+1}) a0 (.inl c) λh' u f b=>?_;have e2:addI (dedI (ns.take i)) (ns.getD i 0)=dedI (ns.take (i+1)):=by
   have m:i<ns.length:=by lia
   rw[E8,B0 m,E9];unfold dedI;rw[B05,W3,B43,J9,B0 m,A40]
  rw[e2] at f;refine B74 ⟨C04 F.plain_set_update_loop _,ih (i+1) _ (by lia) z (W.frame _ s' _ _ p (X5 _) λb l o e=>?_) f λa1 g q=>?_⟩
  ·rw[u.2 b (λh:b=S=>x (by rw[<- h];exact l))];exact e
  ·refine hR a1 (Moved.trans W.gtrans ((r.mono a).then_heap (X5 _) λb o l e=>?_) g) q;rw[u.2 b (λh:b=S=>l (by rw[h];exact F6))];exact e
end
noncomputable abbrev freshSet (w:World):Obj:={cls:=.type "set",dict:=none,data:=.set #[] 0 (.fresh 0 0 (!byT w))}
theorem qNT (a:Value){Q₁:Aa1}(h:Q₁ (.ref s.heap.objs.size) {s with heap:=s.heap.push (freshSet w)}):
  C14 (model prog w) A (.call (.builtin "set.__new__") ⟨[.type "set",a],[]⟩) (wants Q₁ E) s:=by
 refine C39 ?_;show wpAny _ A.in1 (do checkBuiltinCall "set.__new__" ⟨[.type "set",a],[]⟩;again (.builtin "set.__new__" ⟨[.type "set",a],[]⟩)) _ _ s
 refine B73 (C25 (F.newCall_set_1 a) (B74 ⟨C04 F.plain_set_new _,B92 F.entry_set_new ?_⟩));rw[L9 F.plain_set_new _];unfold Builtin.«set.__new__» B40;have b:=sub_set_self;obtain⟨e,g,d,c,f⟩:=s;dsimp only
 wp_walk
 refine C32 (B74 ?_);dsimp only;simp only[newObj];refine B73 (wpAny_alloc (B74 ?_));exact B74 h
theorem SetI.fresh {a:Addr} {h:Heap} (e:h.get? a=some (freshSet w)):SetI w a [] h:=
 ⟨#[],0,_,[],e,⟨rfl,rfl,rfl,rfl,rfl,.nil,λ_ z=>nomatch z⟩,.nil,.refl _,.nil,J5 _⟩
set_option maxHeartbeats 3200000 in
theorem qSR {l:Addr} {a:Array Value} {ns:List Int} {Q:Aa1} (hh:A.handled=none)(hl:s.heap.IsList l a)(hi:C01 a.toList ns)(h4:a.size<=4)
  (h:∀(h':Heap) (tk:Nat),SetI w s.heap.objs.size (dedI ns) h'->(∀b o,s.heap.get? b=some o->h'.get? b=some o)->Q (.ref s.heap.objs.size) {s with heap:=h',toks:=tk}):
  wpAny (model prog w) A (call (.type "set") [.ref l]) Q E s:=by
 have y:ns.length=a.size:=by have:=IntsAre.length hi;simpa using this.symm
 obtain⟨c,tl,ad⟩:=O8.mro;have a3:=O8.made;have ae:=O8.sub;refine C19 (C39 ?_);show wpAny _ _ (callAny (.type "set") _) _ _ _;refine B74 ⟨l7 _ (by decide +kernel),B92 B06 ?_⟩
 rw[A91 (weight_type_call_type "set" [.ref l] []) rfl];have h1:=O8.notType;have h2:=O8.canCreate;have ai:=B22 (.ref l)
 repeat (any_goals (first|assumption|wp_step))
 refine B99 (qNT (.ref l) (E:=E) (Q₁:=λn s₁=>n=.ref s.heap.objs.size/\s₁={s with heap:=s.heap.push (freshSet w)}) ⟨rfl,rfl⟩) λr s₁ m=>?_;cases r with
 |error e=>exact m
 |ok fl=>
  cases fl with
  |ret n=>
   obtain⟨rfl,rfl⟩:=m;have hS:(s.heap.push (freshSet w)).get? s.heap.objs.size=some (freshSet w):=B8 _ rfl;have hT:Shared.TypeIs {s with heap:=s.heap.push (freshSet w)} (.ref s.heap.objs.size) "set":=⟨_,hS,rfl⟩;have ag:=O8.init.lookup;have aj:=O8.init.bind (.ref s.heap.objs.size)
   repeat (any_goals (first|assumption|wp_step))
   refine B99 (C33 (R:=wants (fun r s₂=>r=.none/\∃ h' tk,s₂={ s with heap:=h',toks:=tk }/\SetI w s.heap.objs.size (dedI ns) h'/\
     (∀b o,s.heap.get? b=some o->h'.get? b=some o)) E) O8.init.plain B23 (check_set_init_1 hT ?_)) λr₂ s₂ d=>?_
   ·obtain⟨ol,p,z,nl,a0⟩:=hl;obtain⟨af,j,a4,f⟩:=ol;simp only at z a0;subst z;subst a0;have x:(s.heap.push (freshSet w)).get? l=some {cls:=.type "list",dict:=j,data:=.seq a nl,slots:=f}:=A1 _ p;have ac:=F.sub_list_set;have ab:=F.sub_list_frozenset;have ah:(j6 "list" == j6 "dict")=false:=by decide
    have a1:(s.heap.push (freshSet w)).IsList l a:=⟨_,x,rfl,nl,rfl⟩;unfold Builtin.«set.__init__» noKeywords x6;generalize hPI:pyIter=PI
    wp_walk
    subst hPI;refine C17 a1 ?_;refine B73 (wpAny_runValue ?_);have k:l<s.heap.objs.size:=B9 p;have a2:A.in1.in1.in1.handled=none:=by simp[hh]
    have q:l≠(s.heap.push (freshSet w)).objs.size:=by
     rw[O4];exact E7 (Y5 k)
    have aa:s.heap.objs.size∉[(s.heap.push (freshSet w)).objs.size,l]:=by
     rw[O4];simp only[C0,B3,t8,or_false,not_or];exact⟨E7 (B24 _),V4 k⟩
    have u:∀(i:Nat) (v:Value),a[i]?=some v->∃t,v=.int (ns.getD i 0) t:=λi v hv=>
     A02 hi i v (by rw[F9];exact hv)
    refine qID ((B51 a2 _ l q a).toS) s.heap.objs.size aa ns y h4 u (a.size-0) 0 _ (by lia) (J5 _)
     ⟨⟨_,B8 _ rfl,rfl,rfl⟩,(a1.push _)⟩ ?hS0 ?hR
    case hS0=>exact SetI.fresh (A1 _ hS)
    case hR=>
     intro s' hm g;obtain⟨h',g',d',a8,a7⟩:=s';have eg:g'=s.gens:=hm.gens;have ed:d'=s.drawn:=hm.drawn;have eo:a7=s.os:=hm.os;subst eg;subst ed;subst eo;show wpAny _ _ _ _ _ _;refine B74 ?_;show wpAny _ _ (ret M3) _ _ _;refine B74 ⟨rfl,h',a8,rfl,g,λb o e=>?_⟩;have hb:=B9 e;have a6:b≠s.heap.objs.size:=E7 hb;have a5:b≠(s.heap.push (freshSet w)).objs.size:=by
      rw[O4];exact E7 (Y5 hb)
     exact hm.heap b o (by simp only[C0,B3,t8,or_false,not_or];exact⟨a6,a5⟩) (A1 _ (A1 _ e))
   ·cases r₂ with
    |error e=>exact d
    |ok fl₂=>
     cases fl₂ with
     |ret r=>
      obtain⟨rfl,h',tk,rfl,g,a9⟩:=d
      repeat (any_goals (first|assumption|wp_step))
      exact h _ _ g a9
     |next=>exact d
     |brk=>exact d
     |cont=>exact d
  |next=>exact m
  |brk=>exact m
  |cont=>exact m
theorem slot_si_next:Slot "set_iterator" "__next__" "set_iterator.__next__":=
 .of (owner:="set_iterator") (n:="__next__") (by rw[typeLookup_type,builtinLookup_eq_fast];kernel_rfl) (by decide +kernel) (by decide +kernel) (by decide +kernel)
  (by first|exact .inl (by decide +kernel)|exact .inr (by decide +kernel)) (by rw[isSubtype_type];kernel_rfl)
theorem qIC:Slot "set_iterator" "__iter__" "set_iterator.__iter__":=
 .of (owner:="set_iterator") (n:="__iter__") (by rw[typeLookup_type,builtinLookup_eq_fast];kernel_rfl) (by decide +kernel) (by decide +kernel) (by decide +kernel)
  (by first|exact .inl (by decide +kernel)|exact .inr (by decide +kernel)) (by rw[isSubtype_type];kernel_rfl)
theorem qHD:entryFor table "set_iterator.__next__" = some Builtin.«set_iterator.__next__»:=entryFor_of_tree (by kernel_rfl)
theorem qN5:entryFor table "set_iterator.__iter__" = some Builtin.«dict_keyiterator.__iter__»:=
 entryFor_alias (id':="dict_keyiterator.__iter__") (by kernel_rfl) rfl (by decide +kernel) (by kernel_rfl)
theorem qLB:entryFor table "set.__iter__" = some Builtin.«frozenset.__iter__»:=
 entryFor_alias (id':="frozenset.__iter__") (by kernel_rfl) rfl (by decide +kernel) (by kernel_rfl)
theorem qQV:Manifest.owners.lookup (String.ofList "set_iterator".toList.reverse.reverse)=some Manifest.sig_set_iterator:=by kernel_rfl
theorem qIJ (a:Value):argsOk "set_iterator.__next__" ⟨[a],[]⟩:=by
 unfold argsOk;rw[signature?_of (id:="set_iterator.__next__") (n:="__next__".toList.reverse) (o:="set_iterator".toList.reverse) (by kernel_rfl) qQV];kernel_rfl
theorem qP8 (a:Value):argsOk "set_iterator.__iter__" ⟨[a],[]⟩:=by
 unfold argsOk;rw[signature?_of (id:="set_iterator.__iter__") (n:="__iter__".toList.reverse) (o:="set_iterator".toList.reverse) (by kernel_rfl) qQV];kernel_rfl
noncomputable def qF5 (w:World)(a:Addr)(ep:Nat)(es:Array (Int×Value)):List (Int×Value):=if byT w=true then(pickOrder (w.params.setOrder a ep) es).toList else es.toList
noncomputable def qF6 (w:World)(t:C24)(i:Nat):Nat:=if byT w=true then 0 else if i=0 then 0 else t.place.getD (i-1) 0+1
theorem qF4 (w:World)(a:Addr)(ep:Nat)(es:Array (Int×Value)):(qF5 w a ep es).Perm es.toList:=by
 unfold qF5
 split
 ·exact qTS _ _
 ·exact .refl _
theorem T7.below_at {b:Bool} {t:C24} {n:Nat} (T:T7 b t n)(i:Nat)(hi:i<=n):F2 t.place (if i=0 then 0 else t.place.getD (i-1) 0+1)=i:=by
 obtain⟨h,e,f⟩:=qI7 (j:=if i=0 then 0 else t.place.getD (i-1) 0+1) T.up
 have p:=T.size;have k:∀a c d,a<t.place.size->t.place.getD a c=t.place.getD a d:=λa c d l=>by
  rw[L0,L0,C8 l]
  rfl
 by_cases g:i=0
 ·rw[if_pos g] at h e f ⊢;subst g;apply Nat.eq_zero_of_not_pos;intro z;have:=e 0 z;omega
 ·rw[if_neg g] at h e f ⊢;have m:¬F2 t.place (t.place.getD (i-1) 0+1)<i:=λz=>by
   have:=f (i-1) (by omega) (by omega)
   rw[k (i-1) (t.place.getD (i-1) 0+1) 0 (by omega)] at this
   omega
  have o:¬i<F2 t.place (t.place.getD (i-1) 0+1):=λz=>by
   have q:=e i z;have:=qYM 0 T.up (i-1) i (by omega) (by omega)
   rw[k i (t.place.getD (i-1) 0+1) 0 (by omega)] at q
   omega
  omega
def SetIt (w:World)(a I:Addr)(es:Array (Int×Value))(ep:Nat)(t:C24)(i:Nat)(h:Heap):Prop:=
 (∃o,h.get? I=some o/\o.cls=.type "set_iterator"/\o.data=.fields #[.int (qF6 w t i) 0,.int i 0,.ref a,.int es.size 0,.int ep 0])/\h.get? a=some {cls:=.type "set",data:=.set es ep t}
section
variable{prog:B76}{w:World}{A:Around}{E:Aa1}{s:Shared}{a I:Addr}{es:Array (Int×Value)}{ep:Nat}{t:C24}{i:Nat}
theorem SetIt.typeIs (x:SetIt w a I es ep t i s.heap):s.TypeIs (.ref I) "set_iterator":=let⟨⟨o,h1,h2,_⟩,_⟩:=x;⟨o,h1,h2⟩
theorem qNU {Q:Option (Value×Nat)->Shared->Prop} (T:T7 (byT w) t es.size) (k:es.size<=7) (f:s.heap.get? a=some {cls:=.type "set",data:=.set es ep t}) (hi:i<=es.size)
  (h:Q (match(qF5 w a ep es)[i]? with|some e=>some (e.2,qF6 w t (i+1))|none=>none) s):wpAny (model prog w) A (setNext a (qF6 w t i) i ep) Q E s:=by
 have d:=T.fits k;unfold setNext;refine B73 (C03 f rfl d ?_);dsimp only;unfold setsByText;refine B73 (B73 (C32 (B74 ?_)));show wpAny _ _ (if byT w=true then _ else _) _ _ _
 cases hb:byT w with
 |true=>
  rw[if_pos rfl];simp only[bne_self_eq_false,G0,if_false];refine B73 ?_;unfold setWalk;refine B73 (C03 f rfl d ?_);dsimp only;unfold setsByText;refine B73 (B73 (C32 (B74 ?_)));show wpAny _ _ (if byT w=true then _ else _) _ _ _
  rw[hb,if_pos rfl];refine B73 (C32 (B74 (B74 ?_)));have e:qF5 w a ep es=(pickOrder (w.params.setOrder a ep) es).toList:=by unfold qF5;rw[if_pos hb]
  have c:∀j,qF6 w t j=0:=λj=>by unfold qF6;rw[if_pos hb]
  rw[e,F9,c] at h;rw[c];show Q (Option.map _ (pickOrder (w.params.setOrder a ep) es)[i]?) s;cases hx:(pickOrder (w.params.setOrder a ep) es)[i]? with
  |none=>rw[hx] at h;exact h
  |some v=>rw[hx] at h;exact h
 |false=>
  rw[if_neg (by simp)]
  show wpAny _ _ (if(!t.plain&&decide (es.size>1))=true then _ else _) _ _ _
  rw[T.plain];simp only[c6,O9,G0,if_false];refine B73 ?_;show wpAny _ _ (if(!t.led && !es.isEmpty)=true then _ else _) _ _ _
  rw[T.led,hb];simp only[B41,c6,O9,G0,if_false];refine B74 (B74 ?_);have e:qF5 w a ep es=es.toList:=by unfold qF5;rw[if_neg (by rw[hb];simp)]
  have c:∀j,qF6 w t j=if j=0 then 0 else t.place.getD (j-1) 0+1:=λj=>by unfold qF6;rw[if_neg (by rw[hb];simp)]
  rw[e,F9] at h;rw[c,T.below_at i hi];cases hx:es[i]? with
  |none=>rw[hx] at h;exact h
  |some v=>
   rw[hx] at h;have b:i<t.place.size:=by rw[T.size];exact(W7.mp hx).1
   rw[C8 b];dsimp only at h ⊢;have g:qF6 w t (i+1)=t.place[i]+1:=by
    rw[c,if_neg (by omega),A92,L0,C8 b]
    rfl
   rw[g] at h;exact h
theorem qYV {Q:Option Value->Shared->Prop} (T:T7 (byT w) t es.size)(m:es.size<=7)(c:SetIt w a I es ep t i s.heap)(d:a≠I){e:Int×Value}(l:(qF5 w a ep es)[i]?=some e)
  (r:∀h',SetIt w a I es ep t (i+1) h'->(∀b o,b≠I->s.heap.get? b=some o->h'.get? b=some o)->Q (some e.2) {s with heap:=h'}):wpAny (model prog w) A (pyNext (.ref I)) Q E s:=by
 obtain⟨⟨o,j,q,f⟩,h⟩:=id c;have u:i<es.size:=by
  have:=(B5.mp l).1;rw[(qF4 w a ep es).length_eq,D6] at this;exact this
 unfold pyNext;refine B73 (C10 (wpAny_callSpecial?_slot (name:=B1 "__next__") c.typeIs slot_si_next (B86 slot_si_next c.typeIs qHD ?_ (qIJ _))));unfold Builtin.«set_iterator.__next__»;refine B73 (B74 ?_);refine B73 (wpAny_fieldsOf j f ?_);dsimp only;unfold setEntries;refine B73 (B73 (C03 h rfl (T.fits m) (B74 ?_)));rw[if_neg (by simp)]
 simp only[Y3];refine B73 (qNU T m h (F5 u) ?_);rw[l];dsimp only;show wpAny _ _ (setField (.ref I) 0 (rawInt _) >>= _) _ _ s;refine B73 (C02 j f (by simp) ?_)
 have n:=L6 (V2 (·.setIfInBounds 0 (rawInt ((qF6 w t (i+1):Nat):Int)))) j (X2 (P5 f _));have g:=P5 f (·.setIfInBounds 0 (rawInt ((qF6 w t (i+1):Nat):Int)));refine B73 (C02 n g (by simp) ?_)
 have p:=L6 (V2 (·.setIfInBounds 1 (rawInt ((i:Int)+1)))) n (X2 (P5 g _));have v:=P5 g (·.setIfInBounds 1 (rawInt ((i:Int)+1)));refine B74 (xR rfl (B74 (r _ ⟨⟨_,p,(p7 ..).trans ((p7 ..).trans q),?_⟩,?_⟩ λb x k e=>?_)))
 ·rw[v];simp[rawInt]
 ·exact(D5 _ _ (J4 d)).trans ((D5 _ _ (J4 d)).trans h)
 ·exact(D5 _ _ (J4 k)).trans ((D5 _ _ (J4 k)).trans e)
theorem qaW {Q:Option Value->Shared->Prop} (h:A.handled=none)(T:T7 (byT w) t es.size)(f:es.size<=7)(c:SetIt w a I es ep t es.size s.heap)
  (i:∀h',(∀b o,b≠I->s.heap.get? b=some o->h'.get? b=some o)->Q none {s with heap:=h'}):wpAny (model prog w) A (pyNext (.ref I)) Q E s:=by
 obtain⟨⟨o,g,k,d⟩,e⟩:=id c;unfold pyNext;refine B73 (C10 (wpAny_callSpecial?_slot (name:=B1 "__next__") c.typeIs slot_si_next (B86 slot_si_next c.typeIs qHD ?_ (qIJ _))));unfold Builtin.«set_iterator.__next__»;refine B73 (B74 ?_);refine B73 (wpAny_fieldsOf g d ?_);dsimp only;unfold setEntries;refine B73 (B73 (C03 e rfl (T.fits f) (B74 ?_)));rw[if_neg (by simp)]
 simp only[Y3];have j:(qF5 w a ep es)[es.size]?=none:=R8 (by rw[(qF4 w a ep es).length_eq,D6];exact B4 _)
 refine B73 (qNU T f e (B4 _) ?_);rw[j];dsimp only;show wpAny _ _ (setField (.ref I) 2 .none >>= _) _ _ s;refine B73 (C02 g d (by simp) ?_)
 show wpAny _ _ (newExc (.type "StopIteration") [] >>= _) _ _ _;refine B73 ?_;simp only[newExc,newTuple];refine B73 (B82 ?_ (by size_fits))
 refine B73 (m:=C29 _ _) (C25 (a:=M3) (by first|rfl|(simp only[C29];rfl)) ?_)
 refine B82 ?_ (by size_fits)
 simp only[raiseNew];refine B73 (wpAny_handled ?_);rw[show A.in1.handled=none from h];refine B73 (B74 (wpAny_throw ?_));refine B73 (C12 (T:="StopIteration") (b:=true) ⟨_,B8 _ rfl,rfl⟩ isSubtype_stop ?_);exact B74 (i _ (((Z2 ..).extBut.push _).push _))
theorem qYU {Q:Aa1} (b:SetIt w a I es ep t i s.heap)(h:Q (.ref I) s):wpAny (model prog w) A (pyIter (.ref I)) Q E s:=by
 refine wpAny_pyIter_slot b.typeIs qIC (B86 qIC b.typeIs qN5 ?_ (qP8 _));show wpAny _ _ (ret (.ref I)) _ _ s;exact B74 (xR rfl ⟨"set_iterator",_,b.typeIs,slot_si_next.lookup,h⟩)
theorem qaV {Q:Aa1} (T:T7 (byT w) t es.size) (f:es.size<=7) (b:s.heap.get? a=some {cls:=.type "set",data:=.set es ep t})
  (e:Q (.ref s.heap.objs.size) {s with heap:=s.heap.push {cls:=.type "set_iterator",data:=.fields #[.int 0 0,.int 0 0,.ref a,.int es.size 0,.int ep 0]}}):wpAny (model prog w) A (pyIter (.ref a)) Q E s:=by
 have d:s.TypeIs (.ref a) "set":=⟨_,b,rfl⟩;have c:=T.fits f;refine wpAny_pyIter_slot d F.slot_set_iter (B86 F.slot_set_iter d qLB ?_ (F.args_set_iter_1 _));unfold Builtin.«frozenset.__iter__» B61 B52 setEntries;refine B73 (B73 (B74 ?_));show wpAny _ _ (pure a) _ _ s;refine B74 ?_;refine B73 (B73 (B73 (C03 b rfl c (B74 (B74 ?_)))));unfold setDrawn setsByText;refine B73 (B73 (C03 b rfl c ?_));dsimp only;refine B73 (B73 (C32 (B74 (B74 ?_))));show wpAny _ _ (if(!byT w&&(!t.plain&&decide (es.size>1)))=true then _ else _) _ _ _
 rw[T.plain];simp only[c6,O9,p8,G0,if_false];refine B73 (B74 ?_);unfold setEpoch;refine B73 (B73 (C03 b rfl c (B74 ?_)));refine B73 (B82 (B74 (xR rfl ⟨"set_iterator",_,⟨_,B8 _ rfl,rfl⟩,slot_si_next.lookup,?_⟩)));simpa[rawInt] using e
theorem qYW {Q:Bool->Shared->Prop} (d:s.TypeIs (.ref a) "set") (h:Q false s):wpAny (model prog w) A (A03 (.ref a)) Q E s:=by
 unfold A03;refine B73 (wpAny_specialOf d PySem.F.slot_set_len.lookup ?_);generalize hid:("set.__len__" : String)=e
 wp_delta
 rw[show splitId e=some ("set","__len__") from by subst hid;decide +kernel]
 subst hid;refine B73 (C12 (T:="set") (b:=true) d (by rw[isSubtype_type];kernel_rfl) ?_)
 refine wpAny_ite_split (λc=>absurd c (by decide)) (λ_=>?_)
 refine wpAny_ite_split (λ_=>?_) (λc=>absurd (by decide +kernel) c)
 refine B73 (C43 d ?_);exact B74 h
theorem qaU (T:T7 (byT w) t es.size) (l:es.size<=7):PySem.W.KdlSrc prog w "set" a a es.size (λi v=>∃e,(qF5 w a ep es)[i]?=some e/\v=e.2) (λh=>h.get? a=some {cls:=.type "set",data:=.set es ep t}) where
 type:=λs h=>⟨_,h,rfl⟩
 there:=λh x=>⟨B9 x,B9 x⟩
 keep:=λh f x k=>k a (.inl rfl) _ x
 notList:=by decide
 notTuple:=by decide
 hint:=λA E s Q x q=>qYW ⟨_,x,rfl⟩ q
 iter:=λA s u x=>by
  have j:a≠s.heap.objs.size:=E7 (B9 x);refine⟨_,λi h=>SetIt w a s.heap.objs.size es ep t i h,λE Q q=>qaV T l x q,?_,⟨⟨_,B8 _ rfl,rfl,?_⟩,A1 _ x⟩⟩
  ·refine⟨λb d=>?_,λi h f c k=>?_,λi g Q E hi c q=>?_,λg Q E c q=>?_,λi g Q E c q=>qYU c q⟩
   ·have e:b=s.heap.objs.size:=by simpa using d
    simp[e]
   ·obtain⟨⟨o,p,y,h3⟩,r⟩:=c;exact⟨⟨o,k _ (by simp) _ p,y,h3⟩,k _ (by simp) _ r⟩
   ·have n:i<(qF5 w a ep es).length:=by rw[(qF4 w a ep es).length_eq,D6];exact hi
    refine qYV T l c j (B0 n) λf m k=>?_;exact q _ f g.toks ⟨_,B0 n,rfl⟩ m λb o d e=>k b o (λz=>d (by simp[z])) e
   ·refine qaW u T l c λf k=>?_;exact q f g.toks λb o d e=>k b o (λz=>d (by simp[z])) e
  ·unfold qF6
   split<;>rfl
end
theorem qDQ {ns:List Int} :∀{us:List Value},Vals (ns.map V.int) us->C01 us ns:=by
 induction ns with
 |nil=>intro us h;cases h;exact .nil
 |cons n r ih=>
  intro us h;cases h with
  |cons r1 r2=>
   obtain⟨t,rfl⟩:=r1;exact IntsAre.cons _ _ (ih r2)
theorem qIA:∀{us:List Value} {ns:List Int},C01 us ns->Vals (ns.map V.int) us:=qJE
def SetO (w:World)(a:Addr)(zs:List Int):HO:=.ext (SetI w a zs)
theorem qNA (f:X.calm=true):qDX X (.type "set") (λxs H Q=>∃p ns,xs=[.ref p]/\SqL X.K H p (ns.map V.int)/\ns.length<=4/\∀a,H a=none->Q (.ref a) (Ag H a (SetO X.w a (dedI ns)))):=by
 intro y s σ H xs z Q I r h;obtain⟨p,ns,rfl,l,h4,q⟩:=h;obtain⟨u,rfl,m⟩:=qEI r;cases m;obtain⟨g,d,j,v⟩:=I.list l;have b:=d.length;rw[A0] at b;refine qSR (ns:=ns) (I.ok.hd f) j.isList (by simpa using qDQ d) (by simp;lia) λh' i c n=>?_
 refine⟨.ref s.heap.objs.size,_,I.laid (t':=i) n (B4 _) ?_,rfl,q _ (I.hok.fresh (B4 _))⟩;obtain⟨es,ep,t,ks,e,_⟩:=id c;exact⟨c,⟨_,e⟩,λo h2 x k=>x.at k⟩
theorem Inv.track {Ab:Aa2} {σ:St} {H:Hp} {T:Addr} {o:HO} (I:Inv X Ab σ H s)(h0:H T=none)(j:X.s₀.heap.objs.size<=T)(l:T≠X.env.locals)(m:∀x c,X.env.cells.lookup x=some c->c≠T)(k:∀p∈X.pn++Ab,p.1≠T)
  (d:ObjOk X.prog X.w (Ag H T o) s.heap T o):Inv X Ab σ (Ag H T o) s:=by
 have f:∀b ob,X.s₀.heap.get? b=some ob->b≠T:=λb ob e=>E7 (D9 (B9 e) j);have a:∀b u,H b=some u->(Ag H T o) b=some u:=λb u e=>by rw[qAB (qA7 e h0)];exact e
 refine⟨I.ok,I.os,I.bare,⟨I.base.keep,I.base.slot,λb ob e n y=>?_,I.base.there,λb i e=>a _ _ (I.base.tups b i e),λb ob u e=>a _ _ (I.base.frzs b ob u e),λb ps e=>?_⟩,I.loc,I.cell,?_,λx c e=>?_,λp h=>?_,λb u e=>?_,I.len⟩
 ·rw[qAB (f b ob e)];exact I.base.free b ob e n y
 ·exact a _ _ (I.base.tbls b ps e)
 ·rw[qAB (J4 l)];exact I.free
 ·rw[qAB (m x c e)];exact I.freeC x c e
 ·obtain⟨z,n,r⟩:=I.pin p h;exact⟨z,by rw[qAB (k p h)];exact n,r⟩
 ·by_cases g:b=T
  ·subst g;rw[qA1] at e;cases e;exact d
  ·rw[qAB g] at e;exact(I.hok b u e).stay (λc v _ q=>q) (λc q=>a _ _ q) (λc ys q=>a _ _ q) λc t q=>a _ _ q
theorem qWB {Ab:Aa2} {σ:St} {H:Hp} {Q:VK} {vs:List Value} {ns:List Int} {D:Addr} (I:Inv X Ab σ (Ag H D (.lst (ns.map V.int))) s)(t:H D=none)(l:ns.length<64)
  (q:∀ns':List Int,ns'.Perm ns->ns'.Pairwise (·<=·)->Q (.ref D) (Ag H D (.lst (ns'.map V.int)))):
  wpAny (model X.prog X.w) A (call (.builtin "list.sort") [.ref D]) (λ_ s'=>EP X Ab σ Q (.ref D) s') E s:=by
 obtain⟨z,g,n,h,v,e⟩:=I.lstM qA1;have o:=qDQ h;have c:=h.length;rw[A0] at c;refine B86 slot_list_sort ⟨_,e,rfl⟩ entry_list_sort (list_sort_tree (ns:=ns) (n:=n) e o (by lia) λout ns' p i j=>(xR rfl ?_)) (args_list_sort _)
 have a:=sortedHeap_at (vs:=g) (out:=out) e;obtain⟨r,a⟩:=a;refine⟨.ref D,Ag H D (.lst (ns'.map V.int)),?_,rfl,q ns' i j⟩;have m:Ag (Ag H D (.lst (ns.map V.int))) D (.lst (ns'.map V.int))=Ag H D (.lst (ns'.map V.int)):=qPB;rw[<- m];refine I.write (x:=D) (e:=D) (t':=s.toks) (by rw[qA1];exact trivial) (.inl rfl) (λb u k d=>?_) ⟨_,a⟩ ?_
 ·rw[sortedHeap_old k (B9 d)];exact d
 ·refine⟨?_,out.toList,r,qIA p,by simpa using a⟩
  rw[A0,i.length_eq,<- A0 (f:=V.int)];exact z
theorem qSD {Ab:Aa2} {σ:St} {H:Hp} {vs:List Value} {ns:List Int} (I:Inv X Ab σ H s)(b:C01 vs ns)(a:ns.length<=B75):
  Inv X Ab σ (Ag H s.heap.objs.size (.lst (ns.map V.int))) {s with heap:=s.heap.push {cls:=.type "list",data:=.seq vs.toArray}}:=
 I.lnew (t':=s.toks) (qIA b) (by rw[A0];exact a)
theorem qEY (hc:X.calm=true):qDX X (.builtin "sorted") (fun xs H Q=>∃ p ns,xs=[.ref p]/\(SqL X.K H p (ns.map V.int)\/SqT X.K H p (ns.map V.int)\/H p=some (SetO X.w p ns))/\ns.length<64/\
  ∀(a:Addr) (ns':List Int),H a=none->ns'.Perm ns->ns'.Pairwise (·<=·)->Q (.ref a) (Ag H a (.lst (ns'.map V.int)))):=by
 intro Ab s σ H xs us Q I r h;obtain ⟨p,ns,rfl,hq,a4,q⟩:=h;obtain ⟨u,rfl,rx⟩:=qEI r;cases rx;refine Calls.call_function_entry kind_sorted plain_sorted entry_sorted (args_sorted1 _) ?_;unfold Builtin.«sorted»;refine B73 (m:=checkCount "sorted" 1 1 _) (B74 ?_);have c:∀ (s1:Shared) (vs:List Value) (zs:List Int),Inv X Ab σ H s1->C01 vs zs->zs.Perm ns->wpAny (model X.prog X.w) X.A.in1 (do
   let l <- newList vs
   let _ <- C36 [l] (call (.builtin "list.sort") [l] [])
   ret l) (λc s'=>∃r,c=.done (.ret r)/\EP X Ab σ Q r s') X.xe s1:=by
  intro s1 vs zs I1 j g;have d:=IntsAre.length j;have hz:zs.length<=B75:=by rw[g.length_eq,B80];lia
  refine B73 (wpAny_newList ?_ (by rw[d];exact hz))
  have hf:=I1.hok.fresh (B4 s1.heap.objs.size);refine B73 (B84 (B83 (qWB (E:=X.xe) (vs:=vs) (qSD I1 j hz) hf (by rw[g.length_eq];exact a4) λns' a b=>q _ ns' hf (a.trans g) b) (λ_ s' x=>?_) λ_ _ e=>e))
  exact B74 (xR rfl x)
 rcases hq with hq|hq|hq
 ·obtain⟨a2,z,pl,hz⟩:=I.list hq;obtain⟨o,ho,f,n,hd⟩:=pl.isList;have d:=z.length;refine B73 (wpAny_collect_seq p (.inl rfl) ho f hd (λh' k=>?_) (by simp;lia))
  exact c _ _ ns (I.kept (t':=s.toks) k) (by simpa using qDQ z) (.refl _)
 ·obtain⟨a2,z,pl,hz⟩:=I.tuple hq;obtain⟨o,ho,f,n,hd⟩:=pl;have d:=z.length;refine B73 (wpAny_collect_seq p (.inr rfl) ho f hd (λh' k=>?_) (by simp;lia))
  exact c _ _ ns (I.kept (t':=s.toks) k) (by simpa using qDQ z) (.refl _)
 ·obtain⟨hS,_,_⟩:=(show ObjOk X.prog X.w H s.heap p (.ext (SetI X.w p ns)) from I.hok p _ hq);obtain⟨es,ep,t,ks,e,T,y,g,a7,h4⟩:=hS;have a3:es.size=ns.length:=SetI.size (a:=p) (h:=s.heap) y g;obtain⟨a6,h1,h2⟩:=y.perm (qF4 X.w p ep es);refine B73 (A75 (A:=X.A.in1) (qaU (ep:=ep) T (by lia)) (I.ok.hd hc) e (by rw[a3,B80];lia) λh' tk a1 k a0=>?_)
  refine c _ _ a6 (I.kept (t':=tk) k) ?_ (h2.trans g);obtain⟨l1,l2⟩:=a0;have a5:∀{ks:List Int} {l:List (Int×Value)},Ents ks l->∀vs:List Value,vs.length=l.length->(∀(i:Nat) (v:Value),vs[i]?=some v->∃e:Int×Value,l[i]?=some e/\v=e.2)->C01 vs ks:=by
   intro ks l h
   induction h with
   |nil=>
    intro vs hl _;have:vs=[]:=P3.mp hl;subst this;exact .nil
   |cons r t ih=>
    intro vs hl j;cases vs with
    |nil=>simp at hl
    |cons v vs=>
     obtain⟨tk,rfl⟩:=r;obtain⟨e,y,rfl⟩:=j 0 v rfl;simp at y;subst y;exact IntsAre.cons _ _ (ih vs (by simpa using hl) λi v hi=>by simpa using j (i+1) v (by simpa using hi))
  refine a5 h1 a1.toList ?_ λi v hi=>l2 i v (by rw[<- F9];exact hi)
  rw[D6,l1,(qF4 X.w p ep es).length_eq,D6]
noncomputable def qIE (lo hi:Int):List V:=(Y1 (hi-lo).toNat).map λ(i:Nat)=>V.int (lo+i)
theorem qVR:qDX X (.type "range") (λxs H Q=>∃i j,xs=[.int i,.int j]/\∀p,H p=none->Q (.ref p) (Ag H p (.rng i j))):=by
 intro c s σ H xs a Q I r h;obtain⟨i,j,rfl,q⟩:=h;obtain⟨u,v,rfl,⟨t,rfl⟩,⟨d,rfl⟩⟩:=qRU r;refine call_range_2 ⟨.ref s.heap.objs.size,_,I.laid (λb o e=>A1 _ e) (B4 _) ?_,rfl,q _ (I.hok.fresh (B4 _))⟩;exact⟨_,_,_,B8 _ rfl⟩
theorem qWF {lo hi:Int} {n:Nat} {acc:List Value} (d:n=(hi-lo).toNat)(a:acc.length=n)(h:∀(i:Nat) (v:Value),acc[i]?=some v->∃t,v=.int (lo+i*1) t):Vals (qIE lo hi) acc:=by
 have b:∀(m:Nat) (acc:List Value),acc.length=m->∀lo:Int,(∀(i:Nat) (v:Value),acc[i]?=some v->∃t,v=.int (lo+i) t)->Vals ((Y1 m).map λ(i:Nat)=>V.int (lo+i)) acc:=by
  intro m
  induction m with
  |zero=>
   intro acc a lo h;have:acc=[]:=P3.mp a;subst this;exact .nil
  |succ m ih=>
   intro acc a lo h;cases acc with
   |nil=>simp at a
   |cons v acc=>
    rw[List.range_succ_eq_map,D8,X3];have f:=h 0 v rfl;refine .cons f ?_;have c:=ih acc (by simpa using a) (lo+1) λi v hi=>by
     have:=h (i+1) v (by simpa using hi)
     obtain⟨t,e⟩:=this;refine⟨t,?_⟩;rw[e];congr 1
     push_cast
     lia
    have e:((λ(i:Nat)=>V.int (lo+i)) ∘ Nat.succ)=λ(i:Nat)=>V.int (lo+1+i):=by
     funext i
     simp only[Function.comp];congr 1
     push_cast
     lia
    rw[e];exact c
 unfold qIE;rw[<- d];refine b n acc a lo λi v hi=>?_;obtain⟨t,e⟩:=h i v hi;exact⟨t,by rw[e,Int.mul_one]⟩
theorem qS5 (lo hi:Int):(qIE lo hi).length=(hi-lo).toNat:=by unfold qIE;simp
theorem qd4 {lo hi:Int} :Z0 lo hi 1=((hi-lo).toNat:Nat):=by rw[rangeSize_one];split<;>lia
theorem qN9 {A:Around} {s:Shared} {R:List Value->Shared->Prop} {r:Addr} {a b:Int} {t u v:Tok} {n:Nat} (hh:A.handled=none)(hr:IsRange s.heap r a b 1 t u v)(g:A76 a b 1=true)
  (hn:Z0 a b 1=n) (j:n<=2^24)
  (h:∀(h':Heap) (tk:Nat) (acc:Array Value),(∀b o,s.heap.get? b=some o->h'.get? b=some o)->ItemsOf (λi v=>∃t,v=.int (a+i*1) t) acc n->R acc.toList {s with heap:=h',toks:=tk}):
  wpAny (model prog w) A (collect (.ref r)) R E s:=by
 unfold collect;refine B73 (wpAny_runValue (B92 entry_proto_collect' ?_));rw[L9 PySem.F.plain_proto_collect _];show wpAny _ A.in1 (newList [] >>= λl=>again (.builtin "list.__iadd__" ⟨[l,.ref r],[]⟩)) _ _ s;refine B73 (B82 ?_);refine B74 ⟨C04 A38 _,B92 entry_list_iadd' ?_⟩;rw[L9 A38 _];have p:(s.heap.push {cls:=.type "list",data:=.seq ([]:List Value).toArray}).get? s.heap.objs.size=some {cls:=.type "list",data:=.seq #[]}:=B8 _ rfl;show wpAny _ A.in1 (Builtin.List.listExtendWith (.ref s.heap.objs.size) (.ref r) (.ref s.heap.objs.size)) _ _ _;have m:=wpAny_extend_range (prog:=prog) (w:=w) (A:=A) (s:={s with heap:=s.heap.push {cls:=.type "list",data:=.seq ([]:List Value).toArray}})
  (R:=fun (q:Result) (s':Shared)=>∃ (h':Heap) (tk:Nat) (acc':Array Value) (c':Nat),q=.ok (.ret (.ref s.heap.objs.size))/\s'={ s with heap:=h',toks:=tk }/\
   (∀b o,s.heap.get? b=some o->h'.get? b=some o)/\h'.get? s.heap.objs.size=some {cls:=.type "list",dict:=none,data:=.seq acc' c',slots:=#[]}/\ItemsOf (λi v=>∃t,v=.int (a+i*1) t) acc' n)
  hh (A1 _ hr) g hn j s.heap.objs.size (.ref s.heap.objs.size) 0 p
  (λh' tk acc' c' k d c=>⟨h',tk,acc',c',rfl,rfl,λb o e=>k b o (E7 (B9 e)) (A1 _ e),d,c⟩)
 refine B83 m (λz s' x=>?_) λe s' x=>?_
 ·cases z with
  |done f=>
   obtain⟨h',tk,acc',c',e,rfl,k,d,c⟩:=x;cases e;show wpAny _ A (load s.heap.objs.size >>= _) _ _ _;refine B73 (wpAny_load d ?_);exact B74 (h h' tk acc' k c)
  |again c₁=>
   refine⟨x.1,B99 x.2 λq s₂ y=>?_⟩;obtain⟨h',tk,acc',c',rfl,rfl,k,d,c⟩:=y;show wpAny _ A (load s.heap.objs.size >>= _) _ _ _;refine B73 (wpAny_load d ?_);exact B74 (h h' tk acc' k c)
 ·obtain⟨_,_,_,_,e',_⟩:=x;cases e'
theorem qPD {A:Around} {s:Shared} {Q:Aa1} {r:Addr} {a b:Int} {t u v:Tok} {n:Nat} (y:A.handled=none)(q:IsRange s.heap r a b 1 t u v)(d:A76 a b 1=true)
  (z:Z0 a b 1=n) (k:n<=2^24)
  (h:∀(h':Heap) (tk:Nat) (acc:Array Value),(∀b o,s.heap.get? b=some o->h'.get? b=some o)->ItemsOf (λi v=>∃t,v=.int (a+i*1) t) acc n->Q (.ref h'.objs.size) {s with heap:=h'.push {cls:=.type "tuple",data:=.seq acc},toks:=tk}):
  wpAny (model prog w) A (call (.type "tuple") [.ref r]) Q E s:=by
 have j:C14 (model prog w) A.in1 (.call (.builtin "tuple.__new__") ⟨[.type "tuple",.ref r],[]⟩) (wants (λc g=>g.TypeIs c "tuple"/\Q c g) E) s:=by
  refine C39 ?_;show wpAny _ A.in1.in1 (do checkBuiltinCall "tuple.__new__" ⟨[.type "tuple",.ref r],[]⟩;again (.builtin "tuple.__new__" ⟨[.type "tuple",.ref r],[]⟩)) _ _ s
  refine B73 (C25 (F.newCall_tuple_1 _) (B74 ⟨C04 B07 _,B92 F.entry_tuple_new ?_⟩));rw[L9 B07 _];have x:=sub_tuple_self;have m:=init_tuple_lookup;have a0:=madeHere_tuple;have l:s.TypeIs (.ref r) "range":=⟨_,q,rfl⟩
  wp_walk using C43 l,qN9 (prog:=prog) (w:=w) (A:=A.in1.in1) y q d z k
  intro h' tk acc hk f;show wpAny _ _ (O6 acc.toList.toArray >>= λv=>ret v) _ _ _;unfold O6;refine B73 (B82 ?_ (by show acc.toList.toArray.size<=B75;simp only[Array.toArray_toList];rw[f.1,B80];lia))
  refine B74 ?_;have e:acc.toList.toArray=acc:=by simp
  rw[e];exact⟨⟨_,B8 _ rfl,rfl⟩,h h' tk acc hk f⟩
 refine callType_codes (Q₁:=λc g=>g.TypeIs c "tuple"/\Q c g) A65 (F.typeCall_tuple_1 _) F.entry_object_init j λc g p=>?_;exact⟨p.1,F.args_object_init_2 c _,object_init_meets A65.init.lookup A65.made (by decide) prog w A.in1 _ g ⟨p.1,rfl,p.2⟩⟩
theorem qLG (j:X.calm=true):qDX X (.type "tuple") (λxs H Q=>∃p lo hi,xs=[.ref p]/\H p=some (.rng lo hi)/\-1000000<=lo/\lo<=1000000/\-1000000<=hi/\hi<=1000000/\∀l,H l=none->Q (.ref l) (Ag H l (.tup (qIE lo hi)))):=by
 intro x s σ H xs us Q I r h;obtain⟨p,lo,hi,rfl,y,l1,l2,l3,l4,q⟩:=h;obtain⟨u,rfl,k⟩:=qEI r;cases k;obtain⟨t,u,v,e⟩:=(show∃t u v,s.heap.get? p=some {cls:=.type "range",data:=.fields #[.int lo t,.int hi u,.int 1 v]} from I.hok p _ y);refine qPD (n:=(hi-lo).toNat) (I.ok.hd j) (show IsRange s.heap p lo hi 1 t u v from e) (small_one (by lia) (by lia) (by lia) (by lia)) qd4 (by lia) λd g a m c=>?_
 obtain⟨z,a2⟩:=c;have f:Inv X x σ H {s with heap:=d,toks:=g}:=I.kept m;refine⟨.ref d.objs.size,_,f.laid (t':=g) (λb o e=>A1 _ e) (B4 _) (show ObjOk X.prog X.w _ _ _ (.tup (qIE lo hi)) from⟨?_,a.toList,qWF rfl (by simpa using z) λi v hi=>a2 i v (by rw[<- F9];exact hi),?_⟩),rfl,q _ (f.hok.fresh (B4 _))⟩
 ·rw[qS5,B80]
  lia
 ·have:=IsTup.new d a;simpa using this
theorem qS4:∀(bs:List Bool),((Y1 bs.length).all λi=>(bs[i]?).getD true)=bs.all id:=by
 intro bs;rw[R4,L7,L7]
 constructor
 ·intro h b d;obtain⟨i,c,e⟩:=d8.mp d;have:=h i (V3.mpr c);rw[B0 c,e] at this;exact this
 ·intro h i c;have a:=V3.mp c;rw[B0 a];exact h _ (Q9 a)
theorem qJ6 (n:X.calm=true):qDX X (.builtin "all") (λxs H Q=>∃(p:Addr) (bs:List Bool),xs=[.ref p]/\SqL X.K H p (bs.map V.bl)/\Q (.bl (bs.all id)) H):=by
 intro Ab s σ H xs us Q I r h;obtain⟨p,bs,rfl,y,q⟩:=h;obtain⟨u,rfl,z⟩:=qEI r;cases z;obtain⟨c,l,w,hz⟩:=I.list y;have g:=w.isList;have j:p<s.heap.objs.size:=by obtain⟨_,e,_⟩:=g;exact B9 e
 have a:=l.length;rw[A0] at a;refine call_all_walk (C17 g ?_);refine⟨s.heap.objs.size,[s.heap.objs.size,p],[s.heap.objs.size],c.toArray.size,_,_,λi=>(bs[i]?).getD true,rfl,B51 (A:=X.A.in1) (I.ok.hd n) _ p (E7 j) c.toArray,
  ⟨⟨_,B8 _ rfl,rfl,rfl⟩,g.push _⟩,λi v s' Q' E' o f=>?_,λh' tk hk=>?_⟩
 ·have d:c[i]?=some v:=by simpa using o
  have m:i<bs.length:=by rw[a];exact(B5.mp d).1
  obtain⟨u,k,t⟩:=l.get (i:=i) (x:=.bl bs[i]) (by rw[C6,B0 m];rfl)
  rw[d] at k;cases k;cases t;dsimp only at f;rw[B0 m,A40] at f;exact B91 f
 ·have e:((Y1 c.toArray.size).all λi=>(bs[i]?).getD true)=bs.all id:=by
   rw[C3,<- a];exact qS4 bs
  refine⟨.bl (bs.all id),H,I.kept λb x e=>hk b x (λhm=>by rw[B3.mp hm] at e;exact V1 _ (B9 e)) (A1 _ e),?_,q⟩
  rw[e]
  rfl
theorem qAR:qDX X (.builtin "isinstance") (λxs H Q=>∃x T t b,xs=[x,.ty T]/\TyOf X.K H x t/\K0 X.K t (.type T)=some b/\Q (.bl b) H):=by
 intro f s σ H xs g Q I r h;obtain⟨x,T,t,b,rfl,c,d,q⟩:=h;obtain⟨u,v,rfl,a,e⟩:=qRU r;cases e;exact qUQ I a c d λi=>⟨.bl b,H,I.tok _,rfl,q⟩
theorem qO7 (d:X.A.units<cLine):OpR X (B94 .Eq) (λx y H Q=>∃p l xs,x=.ref p/\y=.ref l/\SqL X.K H p xs/\SqL X.K H l []/\Q (.bl xs.isEmpty) H):=by
 intro Ab s σ H x y v u Q I m k h;obtain⟨p,l,xs,rfl,rfl,i,n,q⟩:=h;cases m;cases k;obtain⟨o,b,g,w⟩:=I.list i;obtain⟨c,t,f,z⟩:=I.list n;cases t;cases xs with
 |nil=>
  cases b;exact SeqAt.eq_listAt (e:=λ_=>true) g.isList f.isList rfl d (λj h _=>absurd h (by simp)) ⟨.bl true,H,I,rfl,q⟩
 |cons a r=>
  cases b;exact SeqAt.eq_list_lengthsAt g.isList f.isList (by simp) d ⟨.bl false,H,I,rfl,q⟩
theorem qP1 {X:Cx} {K:Ab1} (c:X.K=K) (b:X.w=w) (d:X.calm=true):qDX X (.builtin "sorted") (fun xs H Q=>∃ p ns,xs=[.ref p]/\(SqL K H p (ns.map V.int)\/SqT K H p (ns.map V.int)\/H p=some (SetO w p ns))/\ns.length<64/\
  ∀(a:Addr) (ns':List Int),H a=none->ns'.Perm ns->ns'.Pairwise (·<=·)->Q (.ref a) (Ag H a (.lst (ns'.map V.int)))):=by subst c b;exact qEY d
theorem qVQ {X:Cx} {K:Ab1} (c:X.K=K) (b:X.w=w) (d:X.calm=true):qDX X (.type "set") (λxs H Q=>∃p ns,xs=[.ref p]/\SqL K H p (ns.map V.int)/\ns.length<=4/\∀a,H a=none->Q (.ref a) (Ag H a (SetO w a (dedI ns)))):=by subst c b;exact qNA d
def Ite (K:Ab1)(l:Addr):It:=
 ⟨λi H=>∃xs x,SqL K H l xs/\xs[i]?=some x,λi H v H'=>∃T x,H T=none/\v=.ref T/\H'=Ag H T (.tup [.int (i:Int),x])/\∀xs,SqL K H l xs->xs[i]?=some x,λi H=>∃xs,SqL K H l xs/\xs.length<=i⟩
theorem Inv.turnedL {Ab:Aa2} {s:Shared} {σ:St} {H:Hp} {h':Heap} {t':Nat} {ch:List Addr} (I:Inv X Ab σ H s)(k:∀b o,b∉ch->s.heap.get? b=some o->h'.get? b=some o)(d:∀b∈ch,FpOk X Ab H b):Inv X Ab σ H {s with heap:=h',toks:=t'}:=by
 have f:∀b u,H b=some u->b∉ch:=λb u e z=>by rw[(d b z).1] at e;cases e
 refine I.step (g':=s.gens) (d':=s.drawn) (ch:=ch) (λb g=>⟨(d b g).2.2.2.1,(d b g).2.1,(d b g).2.2.2.2.1,(d b g).2.2.2.2.2⟩) (λb o _ _ a e _=>k b o a e) (λb o _ _ a e _=>⟨o.slots,k b o a e⟩) (λ_ _ _ _ n=>n)
  (λb o a e=>⟨o,k b o a e⟩) (λ_ _ e=>e) (λ_ _ _ e=>e) (λ_ _ e=>e) (λm h=>?_) (λb u e=>?_) I.bare
 ·obtain⟨o,i,l,j,r⟩:=h;exact⟨o,i,l,k _ o (λz=>(d _ z).2.1 rfl) j,r⟩
 ·refine(I.hok b u e).stay (λc v a q=>k c v ?_ q) (λ_ q=>q) λ_ _ q=>q;rcases a with z|z
  ·rw[z];exact f b u e
  ·exact f c _ z
theorem qT2 {K:Ab1} {r:List Expr} {k:Nat} {pos:Pos} (l c e:Addr)(m:e≠c):Turn P w K (.Tuple r k pos) (Ite K l) [e,c] e (λi h=>(∃old,IsEnum h e c i old)/\h.IsListIter c l i) where
 mem:=by simp
 obj:=λi h g b f=>by
  obtain⟨⟨old,d⟩,o,a,_,h4⟩:=g;have e':b=e\/b=c:=by simpa using f
  rcases e' with rfl|rfl
  ·exact⟨_,d,λv z=>by
    have z':B35 _=A84 v:=z;cases z'⟩
  ·exact⟨o,a,λv z=>by rw[h4] at z;cases z⟩
 keep:=λi h h' g kk=>by
  obtain⟨⟨old,d⟩,a⟩:=g;exact⟨⟨old,kk e (by simp) _ d⟩,a.at λo q=>kk c (by simp) o q⟩
 item:=by
  intro X hP hw hK hc i Ab s σ H E I y g hg;subst hP hw hK;obtain⟨xs,x,t,hx⟩:=hg;obtain⟨a0,rv,p,hz⟩:=I.list t;obtain⟨u,hu,ru⟩:=rv.get hx;obtain⟨⟨old,d⟩,a⟩:=g;refine wpAny_pyNext_enum_item d a p.isList (x:=u) (by simpa using hu) m λh' a1 a2 a3 a4 a5=>?_
  refine xR rfl (wpAny_letOwnedTupleGo_enum a1 fun a b1 b2=>?_);have j:e<s.heap.objs.size:=B9 d;have I1:Inv X Ab σ H { s with heap:=a,toks:=s.toks+1 }:=I.turnedL (ch:=[e,c]) (fun b o f q=>by
   have n:b≠e:=λz=>f (by simp[z])
   have a7:b≠c:=λz=>f (by simp[z])
   exact(b2.2 b n).trans (a5 b o n a7 q)) y
  have hT:H s.heap.objs.size=none:=I.hok.fresh (B4 _);have fT:=I.fpOk (H':=H) (b:=s.heap.objs.size) (B4 _) hT;have gT:a.get? s.heap.objs.size=some {cls:=.type "tuple",data:=.seq #[.int i s.toks,u]}:=(b2.2 _ (V4 j)).trans a3;refine⟨.ref s.heap.objs.size,Ag H s.heap.objs.size (.tup [.int (i:Int),x]),I1.track hT I.sz fT.2.1 fT.2.2.2.2.1 fT.2.2.2.2.2 ⟨by simp only[J7,W0];rw[B80];decide,[.int (i:Int) s.toks,u],.cons ⟨_,rfl⟩ (.cons ru .nil),⟨_,gT,rfl,_,rfl⟩⟩,rfl,
   ⟨_,x,hT,rfl,rfl,λys hy=>by rw[I.list_inj hy t];exact hx⟩,⟨⟨_,b1⟩,a2.at λo q=>(b2.2 c (J4 m)).trans q⟩,λb f=>?_⟩
  have a6:b<s.heap.objs.size:=by
   have e':b=e\/b=c:=by simpa using f
   rcases e' with rfl|rfl
   ·exact j
   ·obtain⟨o,q,_⟩:=a;exact B9 (by assumption)
  rw[qAB (E7 a6)];exact(y b f).1
 done:=by
  intro X hP hw hK hc i Ab s σ H E I y g hg;subst hP hw hK;obtain⟨xs,t,hx⟩:=hg;obtain⟨a0,rv,p,hz⟩:=I.list t;have hl:=rv.length;obtain⟨⟨old,d⟩,a⟩:=g;exact wpAny_pyNext_enum_end (I.ok.hd hc) d a p.isList (by simp;lia) λh' eb=>⟨rfl,I.turnedL (t':=s.toks) (ch:=[e,c]) (λb o f q=>eb b o (λz=>f (by simp[z])) q) y⟩
 self:=λ_ _ _ _ _ g h=>by
  obtain⟨⟨old,d⟩,a⟩:=g;exact wpAny_pyIter_enum d h
def qdQ (K:Ab1)(ta:TA):TI:=λσ H R=>ta σ H λvs H1=>∃l,vs=[.ref l]/\(∃xs,SqL K H1 l xs)/\R (Ite K l) H1
theorem qZ4 {d:List Expr} {k:Nat} {c:Pos} {a:Expr} {f:TA} {p pos:Pos} (hg:Gl X "enumerate") (z:X.mg "enumerate" = none) (w:B81 "enumerate" = some (.type "enumerate")) (ha:PA X [a] f) (hs:B85 [a] X.env=[(false,eval a X.env)]:=by rfl):
  PI X (.Tuple d k c) (.Call (.Name "enumerate" p) [a] [] pos) (qdQ X.K f):=by
 intro g s σ H R I h;refine Call_ (qIG I hg z w (V9 (thn (ha pos g s σ H _ I h) λus s1 ⟨vs,H1,I1,r1,q1⟩=>?_) hs rfl));obtain⟨l,e,⟨xs,r⟩,q⟩:=q1;subst e;obtain⟨u,rfl,x⟩:=qEI r1;cases x;obtain⟨j,rv,o,hz⟩:=I1.list r;refine call_enumerate_list o.isList λn i hi v y=>?_;refine wpAny_pyIter_enum i ?_;have t:Inv X g σ H1 {s1 with heap:=n}:=I1.kept (t':=s1.toks) y;refine⟨s1.heap.objs.size+1,[s1.heap.objs.size+1,s1.heap.objs.size],_,_,H1,rfl,t,qT2 l s1.heap.objs.size (s1.heap.objs.size+1) (B25 _),⟨⟨_,i⟩,hi⟩,λb m=>?_,q⟩;have e':b=s1.heap.objs.size+1\/b=s1.heap.objs.size:=by simpa using m
 rcases e' with rfl|rfl
 ·exact I1.fpOk (X5 _) (I1.hok.fresh (X5 _))
 ·exact I1.fpOk (B4 _) (I1.hok.fresh (B4 _))
theorem qZH {K:Ab1} {a:Addr} {xs:List V} {g:TG} {f:TT} {h:TE} {Kf:Hp->Prop} {σ0:St} {H0:Hp} {p:Addr} (Pv:Nat->St->Hp->Prop)(u:Pv 0 σ0 H0)(t:∀i σ H,i<=xs.length->Pv i σ H->SqL K H a xs)
  (n:∀i x σ H T,xs[i]?=some x->Pv i σ H->H T=none->g (.ref T) σ (Ag H T (.tup [.int (i:Int),x])) λσ2 H2=>f σ2 H2 λb H3=>if b=true then h σ2 H3 λy H4=>∃ys,H4 p=some (.lst ys)/\ys.length<B75/\Pv (i+1) σ2 (Ag H4 p (.lst (ys++[y]))) else Pv (i+1) σ2 H3)
  (l:∀σ H,Pv xs.length σ H->Kf H):
  LcG (Ite K a) g f h Kf σ0 H0 p:=by
 refine⟨λi m σ H=>m=xs.length-i/\i<=xs.length/\Pv i σ H,⟨xs.length,by simp,J5 _,u⟩,?_⟩
 rintro i m σ H ⟨rfl,hi,q⟩;have d:=t i σ H hi q;by_cases c:i<xs.length
 ·refine .inr ⟨⟨xs,xs[i],d,by simp[c]⟩,Pv (i+1),λσ' o k=>⟨xs.length-(i+1),by lia,rfl,c,k⟩,λv o y=>?_⟩
  obtain⟨T,x,j,r,s,y⟩:=y;subst r s;exact n i x σ H T (y xs d) q j
 ·have e:i=xs.length:=by lia
  subst e;exact .inl ⟨⟨xs,d,B4 _⟩,l σ H q⟩
theorem qHZ {s:Shared} {c t:Addr} {i:Nat} {a:Array Value} {x:Value} {Q:Aa1} (b:s.heap.IsTupleIter c t i)(k:s.heap.IsTuple t a)(l:a[i]?=some x)
  (j:∀h':Heap,h'.IsTupleIter c t (i+1)->Heap.SameBut c s.heap h'->Q x {s with heap:=h'}):wpAny (model prog w) A (X6 (.ref c)) Q E s:=by
 obtain⟨o,e,h,d⟩:=id b;obtain⟨m,g,_,n,f⟩:=k;refine B73 (wpAny_callSpecial?_slot b.typeIs W8 (B86 W8 b.typeIs A04 ?_ (x8 _)));show wpAny _ _ (field (.ref c) 0 >>= _) _ _ _;refine B73 (B87 e d rfl ?_);refine C40 rfl ?_;show wpAny _ _ (field (.ref c) 1 >>= _) _ _ _;refine B73 (B87 e d rfl ?_);show wpAny _ _ (seqItems? (.ref t) >>= _) _ _ _;refine B73 (B95 g f ?_);show wpAny _ _ (match a[i]? with|some x=>_|none=>_) _ _ _
 rw[l];refine B73 (C02 e d (by simp) ?_)
 refine B74 ⟨x,rfl,B74 (j _ ⟨_,L6 _ e (X2 (P5 d _)),(p7 o _).trans h,?_⟩ (Z2 _ _ _))⟩;rw[P5 d];simp
 rfl
theorem qIP {A:Around} {s:Shared} {d t:Addr} {i:Nat} {b:Array Value} {Q:Aa1} (k:A.handled=none)(c:s.heap.IsTupleIter d t i)(l:s.heap.IsTuple t b)(n:b[i]?=none)
  (p:∀(h':Heap) (e:Addr),Heap.ExtBut d s.heap h'->(∃o,h'.get? e=some o/\o.cls=.type "StopIteration")->E (.ref e) {s with heap:=h'}):wpAny (model prog w) A (X6 (.ref d)) Q E s:=by
 obtain⟨o,g,r,f⟩:=id c;obtain⟨q,j,_,u,h⟩:=l;refine B73 (wpAny_callSpecial?_slot c.typeIs W8 (B86 W8 c.typeIs A04 ?_ (x8 _)));show wpAny _ _ (field (.ref d) 0 >>= _) _ _ _;refine B73 (B87 g f rfl ?_);refine C40 rfl ?_;show wpAny _ _ (field (.ref d) 1 >>= _) _ _ _;refine B73 (B87 g f rfl ?_);show wpAny _ _ (seqItems? (.ref t) >>= _) _ _ _;refine B73 (B95 j h ?_);show wpAny _ _ (match b[i]? with|some x=>_|none=>_) _ _ _
 rw[n];refine B73 (B98 ?_);refine B73 (C02 g f (by simp) ?_)
 show wpAny _ _ (newExc (.type "StopIteration") [] >>= _) _ _ _;refine B73 ?_;simp only[newExc,newTuple];refine B73 (B82 ?_ (by size_fits))
 refine B73 (m:=C29 _ _) (C25 (a:=M3) (by first|rfl|(simp only[C29];rfl)) ?_)
 refine B82 ?_ (by size_fits)
 simp only[raiseNew];refine B73 (wpAny_handled ?_);rw[show A.in1.handled=none from k];refine B73 (B74 (wpAny_throw ?_));exact p _ _ (((Z2 ..).extBut.push _).push _) ⟨_,B8 _ rfl,rfl⟩
def SIt (b:Bool)(h:Heap)(it l:Addr)(i:Nat):Prop:=match b with|true=>h.IsTupleIter it l i|false=>h.IsListIter it l i
def SSq (b:Bool)(h:Heap)(l:Addr)(xs:Array Value):Prop:=match b with|true=>h.IsTuple l xs|false=>h.IsList l xs
theorem SIt.at {b:Bool} {h h':Heap} {a l:Addr} {i:Nat} (q:SIt b h a l i)(k:∀o,h.get? a=some o->h'.get? a=some o):SIt b h' a l i:=by
 cases b
 ·exact Heap.IsListIter.at q k
 ·exact Heap.IsTupleIter.at q k
theorem SSq.at {b:Bool} {h h':Heap} {l:Addr} {xs:Array Value} (q:SSq b h l xs)(k:∀o,h.get? l=some o->h'.get? l=some o):SSq b h' l xs:=by
 cases b
 ·obtain⟨o,e,r⟩:=q;exact⟨o,k o e,r⟩
 ·obtain⟨o,e,r⟩:=q;exact⟨o,k o e,r⟩
theorem qGF {b:Bool} {s:Shared} {d t:Addr} {i:Nat} {a:Array Value} {x:Value} {Q:Aa1} (c:SIt b s.heap d t i)(f:SSq b s.heap t a)(g:a[i]?=some x)
  (e:∀h':Heap,SIt b h' d t (i+1)->Heap.SameBut d s.heap h'->Q x {s with heap:=h'}):wpAny (model prog w) A (X6 (.ref d)) Q E s:=by
 cases b
 ·exact wpAny_nextOf_list_item c f g e
 ·exact qHZ c f g e
theorem qLR {b:Bool} {A:Around} {s:Shared} {d t:Addr} {i:Nat} {a:Array Value} {Q:Aa1} (f:A.handled=none)(c:SIt b s.heap d t i)(g:SSq b s.heap t a)(h:a[i]?=none)
  (j:∀(h':Heap) (e:Addr),Heap.ExtBut d s.heap h'->(∃o,h'.get? e=some o/\o.cls=.type "StopIteration")->E (.ref e) {s with heap:=h'}):wpAny (model prog w) A (X6 (.ref d)) Q E s:=by
 cases b
 ·exact wpAny_nextOf_list_end f c g h j
 ·exact qIP f c g h j
theorem qSW {b t:Bool} {s:Shared} {z TI TO g f l k:Addr} {k1 k2:Nat} {xs ys:Array Value} {x y a c:Value} {Q:Aa1} (D:C48 z TI TO g f l k)(p:IsZip s.heap z TI TO .none)(a2:IsPair s.heap TI (.ref g) (.ref f))(a7:IsPair s.heap TO a c)
  (h1:SIt b s.heap g l k1) (h2:SIt t s.heap f k k2) (ac:SSq b s.heap l xs) (a8:SSq t s.heap k ys) (hx:xs[k1]?=some x) (hy:ys[k2]?=some y)
  (hQ:∀ h':Heap,IsZip h' z TI TO (rawInt (s.heap.objs.size:Int))->IsPair h' TO x y->SIt b h' g l (k1+1)->SIt t h' f k (k2+1)->IsPair h' s.heap.objs.size x y->h'.objs.size=s.heap.objs.size+1->
   (∀(c:Addr) (o:Obj),c≠z->c≠TO->c≠g->c≠f->s.heap.get? c=some o->h'.get? c=some o)->Q (.ref s.heap.objs.size) {s with heap:=h'}):
  wpAny (model prog w) A (Builtin.«zip.__next__» {pos:=[.ref z]}) (λfin s'=>∃v,fin=.done (.ret v)/\Q v s') E s:=by
 show wpAny _ _ (field (.ref z) 2 >>= _) _ _ _;refine B73 (B87 p rfl rfl ?_);show wpAny _ _ (field (.ref z) 3 >>= _) _ _ _;refine B73 (B87 p rfl rfl ?_);refine B73 (B95 a2 rfl ?_);show wpAny _ _ (W5 (.ref z) >>= _) _ _ _;refine B73 ?_;show wpAny _ _ (field (.ref z) 0 >>= _) _ _ _;refine B73 (B87 p rfl rfl (B74 ?_));refine wpAny_ite_true rfl ?_;refine B73 (B98 ?_);refine B73 (B87 p rfl rfl ?_);refine B73 (C07 p (by simp) λhA gz h=>?_)
 refine B73 ?_;show wpAny _ _ (forIn [(C7 g,0),(C7 f,1)] _ _) _ _ _;rw[R7];refine B73 ?_;dsimp only;refine B73 (C35 ?_);have e:((#[M3,Y0 false,Y0 false,C7 TI,C7 TO][2]==Y0 true)=false):=rfl;rw[e];have aa:SIt b hA g l k1:=h1.at λo q=>(h.2 _ D.i1z).trans q;have a5:SSq b hA l xs:=ac.at λo q=>(h.2 _ D.l1z).trans q;refine B73 (qGF (s:={s with heap:=hA}) aa a5 hx λhB nB i=>?_);refine B74 ?_;have tB:IsPair hB TO a c:=(i.2 _ D.TOi1).trans ((h.2 _ D.TOz).trans a7);refine B73 (B95 tB rfl ?_);refine B73 (C54 tB λhC tC j=>?_);refine B73 (C26 (B74 ?_));dsimp only;rw[R7];refine B73 ?_;refine B73 (C35 ?_);have ab:SIt t hC f k k2:=h2.at λo q=>(j.2 _ (J4 D.TOi2)).trans ((i.2 _ (J4 D.i12)).trans ((h.2 _ D.i2z).trans q));have a1:SSq t hC k ys:=a8.at λo q=>(j.2 _ D.l2TO).trans ((i.2 _ D.l2i1).trans ((h.2 _ D.l2z).trans q));refine B73 (qGF (s:={s with heap:=hC}) ab a1 hy λhD nD sD=>?_);refine B74 ?_;have tD:IsPair hD TO x c:=(sD.2 _ D.TOi2).trans tC;refine B73 (B95 tD rfl ?_);refine B73 (C54 tD λd tF u=>?_);refine B73 (C26 (B74 ?_));dsimp only;rw[A66];refine B74 ?_;dsimp only;have r:IsPair d TO x y:=tF;refine B73 (B95 r rfl ?_);refine B73 (wpAny_newTuple ?_ (by show 2<=B75;decide))
 have a0:d.get? z=some {cls:=.type "zip",data:=.fields #[.ellipsis,.bool false,.bool false,.ref TI,.ref TO]}:=(u.2 _ (J4 D.TOz)).trans ((sD.2 _ (J4 D.i2z)).trans ((j.2 _ (J4 D.TOz)).trans ((i.2 _ (J4 D.i1z)).trans gz)));have a4:d.objs.size=s.heap.objs.size:=u.1.trans (sD.1.trans (j.1.trans (i.1.trans h.1)));have a9:z<d.objs.size:=B9 a0;have a6:(d.push {cls:=.type "tuple",data:=.seq #[x,y]}).get? z=some {cls:=.type "zip",data:=.fields #[.ellipsis,.bool false,.bool false,.ref TI,.ref TO]}:=A1 _ a0;refine B73 ?_;show wpAny _ _ (setField (.ref z) 0 (rawInt _) >>= _) _ _ _;refine B73 (C07 a6 (by simp) λhG gG sG=>?_)
 refine C07 gG (by simp) λm gI sI=>?_
 refine B74 (xR rfl ?_);have o4:∀(c:Addr) (o:Obj),c≠z->c≠TO->c≠g->c≠f->s.heap.get? c=some o->m.get? c=some o:=λc o n1 n2 n3 n4 e=>
  (sI.2 _ n1).trans ((sG.2 _ n1).trans (A1 _ ((u.2 _ n2).trans ((sD.2 _ n4).trans ((j.2 _ n2).trans ((i.2 _ n3).trans ((h.2 _ n1).trans e)))))))
 have nz:d.objs.size≠z:=V4 a9;have gT:m.get? d.objs.size=some {cls:=.type "tuple",data:=.seq #[x,y]}:=(sI.2 _ nz).trans ((sG.2 _ nz).trans (B8 _ rfl));have a3:m.objs.size=d.objs.size+1:=sI.1.trans (sG.1.trans (O4 ..));have pz:∀{c:Addr} {o:Obj},c≠z->d.get? c=some o->m.get? c=some o:=λn e=>(sI.2 _ n).trans ((sG.2 _ n).trans (A1 _ e));have q:=hQ m;rw[<- a4] at q;refine q gI (pz D.TOz r) (nB.at λo e=>pz D.i1z ((u.2 _ (J4 D.TOi1)).trans ((sD.2 _ D.i12).trans ((j.2 _ (J4 D.TOi1)).trans e)))) (nD.at λo e=>pz D.i2z ((u.2 _ (J4 D.TOi2)).trans e)) gT a3 o4
theorem qW5 {b:Bool} {A:Around} {s:Shared} {z TI TO a j f y:Addr} {n:Nat} {xs:Array Value} {Q:PySem.Fin->Shared->Prop} (hh:A.handled=none)(D:C48 z TI TO a j f y)(d:IsZip s.heap z TI TO .none)(h:IsPair s.heap TI (.ref a) (.ref j))
  (v:SIt b s.heap a f n) (r:SSq b s.heap f xs) (hx:xs[n]?=none)
  (hE:∀(h':Heap) (e:Addr),(∀(c:Addr) (o:Obj),c≠z->c≠a->s.heap.get? c=some o->h'.get? c=some o)->(∃o,h'.get? e=some o/\o.cls=.type "StopIteration")->E (.ref e) {s with heap:=h'}):
  wpAny (model prog w) A (Builtin.«zip.__next__» {pos:=[.ref z]}) Q E s:=by
 show wpAny _ _ (field (.ref z) 2 >>= _) _ _ _;refine B73 (B87 d rfl rfl ?_);show wpAny _ _ (field (.ref z) 3 >>= _) _ _ _;refine B73 (B87 d rfl rfl ?_);refine B73 (B95 h rfl ?_);show wpAny _ _ (W5 (.ref z) >>= _) _ _ _;refine B73 ?_;show wpAny _ _ (field (.ref z) 0 >>= _) _ _ _;refine B73 (B87 d rfl rfl (B74 ?_));refine wpAny_ite_true rfl ?_;refine B73 (B98 ?_);refine B73 (B87 d rfl rfl ?_);refine B73 (C07 d (by simp) λl gz k=>?_)
 refine B73 ?_;show wpAny _ _ (forIn [(C7 a,0),(C7 j,1)] _ _) _ _ _;rw[R7];refine B73 ?_;dsimp only;refine B73 (C35 ?_);have e:((#[M3,Y0 false,Y0 false,C7 TI,C7 TO][2]==Y0 true)=false):=rfl;rw[e];have p:SIt b l a f n:=v.at λo q=>(k.2 _ D.i1z).trans q;have i:SSq b l f xs:=r.at λo q=>(k.2 _ D.l1z).trans q;refine B73 (qLR (s:={s with heap:=l}) hh p i hx λhB ea xB ⟨ob,gb,cb⟩=>?_);have g:=xB z _ (J4 D.i1z) gz;refine C07 g (by simp) λhC gC u=>?_
 have m:ea≠z:=λq=>by
  rw[q,g] at gb;cases gb;exact absurd (show j6 "zip" = j6 "StopIteration" from cb) (by decide)
 exact hE hC ea (λc o t x q=>(u.2 _ t).trans (xB c o x ((k.2 _ t).trans q))) ⟨ob,(u.2 _ m).trans gb,cb⟩
theorem qSX {b n:Bool} {A:Around} {s:Shared} {z TI TO g d k j:Addr} {k1 k2:Nat} {xs ys:Array Value} {x a c:Value} {Q:PySem.Fin->Shared->Prop} (hh:A.handled=none)(D:C48 z TI TO g d k j)(h:IsZip s.heap z TI TO .none)(t:IsPair s.heap TI (.ref g) (.ref d))(a1:IsPair s.heap TO a c)
  (h1:SIt b s.heap g k k1) (h2:SIt n s.heap d j k2) (a5:SSq b s.heap k xs) (a2:SSq n s.heap j ys) (hx:xs[k1]?=some x) (hy:ys[k2]?=none)
  (hE:∀(h':Heap) (e:Addr),(∀(c:Addr) (o:Obj),c≠z->c≠TO->c≠g->c≠d->s.heap.get? c=some o->h'.get? c=some o)->(∃o,h'.get? e=some o/\o.cls=.type "StopIteration")->E (.ref e) {s with heap:=h'}):
  wpAny (model prog w) A (Builtin.«zip.__next__» {pos:=[.ref z]}) Q E s:=by
 show wpAny _ _ (field (.ref z) 2 >>= _) _ _ _;refine B73 (B87 h rfl rfl ?_);show wpAny _ _ (field (.ref z) 3 >>= _) _ _ _;refine B73 (B87 h rfl rfl ?_);refine B73 (B95 t rfl ?_);show wpAny _ _ (W5 (.ref z) >>= _) _ _ _;refine B73 ?_;show wpAny _ _ (field (.ref z) 0 >>= _) _ _ _;refine B73 (B87 h rfl rfl (B74 ?_));refine wpAny_ite_true rfl ?_;refine B73 (B98 ?_);refine B73 (B87 h rfl rfl ?_);refine B73 (C07 h (by simp) λy gz f=>?_)
 refine B73 ?_;show wpAny _ _ (forIn [(C7 g,0),(C7 d,1)] _ _) _ _ _;rw[R7];refine B73 ?_;dsimp only;refine B73 (C35 ?_);have e:((#[M3,Y0 false,Y0 false,C7 TI,C7 TO][2]==Y0 true)=false):=rfl;rw[e];have a3:SIt b y g k k1:=h1.at λo q=>(f.2 _ D.i1z).trans q;have u:SSq b y k xs:=a5.at λo q=>(f.2 _ D.l1z).trans q;refine B73 (qGF (s:={s with heap:=y}) a3 u hx λhB nB i=>?_);refine B74 ?_;have tB:IsPair hB TO a c:=(i.2 _ D.TOi1).trans ((f.2 _ D.TOz).trans a1);refine B73 (B95 tB rfl ?_);refine B73 (C54 tB λp tC m=>?_);refine B73 (C26 (B74 ?_));dsimp only;rw[R7];refine B73 ?_;refine B73 (C35 ?_);have a4:SIt n p d j k2:=h2.at λo q=>(m.2 _ (J4 D.TOi2)).trans ((i.2 _ (J4 D.i12)).trans ((f.2 _ D.i2z).trans q));have r:SSq n p j ys:=a2.at λo q=>(m.2 _ D.l2TO).trans ((i.2 _ D.l2i1).trans ((f.2 _ D.l2z).trans q));refine B73 (qLR (s:={s with heap:=p}) hh a4 r hy λhD ea xD ⟨ob,gb,cb⟩=>?_);have v:p.get? z=some {cls:=.type "zip",data:=.fields #[.ellipsis,.bool false,.bool false,.ref TI,.ref TO]}:=(m.2 _ (J4 D.TOz)).trans ((i.2 _ (J4 D.i1z)).trans gz);have l:=xD z _ (J4 D.i2z) v;refine C07 l (by simp) λhF gF sF=>?_
 have a0:ea≠z:=λq=>by
  rw[q,l] at gb;cases gb;exact absurd (show j6 "zip" = j6 "StopIteration" from cb) (by decide)
 exact hE hF ea (λc o n1 n2 n3 n4 q=>(sF.2 _ n1).trans (xD c o n4 ((m.2 _ n2).trans ((i.2 _ n3).trans ((f.2 _ n1).trans q))))) ⟨ob,(sF.2 _ a0).trans gb,cb⟩
section
variable{b b':Bool}{prog:B76}{w:World}{A:Around}{E:Aa1}{s:Shared}{z TI TO i1 i2 l1 l2:Addr}{k1 k2:Nat}{xs ys:Array Value}
theorem qIM {x y a c:Value} {Q:Option Value->Shared->Prop} (D:C48 z TI TO i1 i2 l1 l2)(i:IsZip s.heap z TI TO .none)(d:IsPair s.heap TI (.ref i1) (.ref i2))(e:IsPair s.heap TO a c)
  (j:SIt b s.heap i1 l1 k1) (u:SIt b' s.heap i2 l2 k2) (g:SSq b s.heap l1 xs) (f:SSq b' s.heap l2 ys) (hx:xs[k1]?=some x) (m:ys[k2]?=some y)
  (n:∀ h':Heap,IsZip h' z TI TO (rawInt (s.heap.objs.size:Int))->IsPair h' TO x y->SIt b h' i1 l1 (k1+1)->SIt b' h' i2 l2 (k2+1)->IsPair h' s.heap.objs.size x y->h'.objs.size=s.heap.objs.size+1->
   (∀(c:Addr) (o:Obj),c≠z->c≠TO->c≠i1->c≠i2->s.heap.get? c=some o->h'.get? c=some o)->Q (some (.ref s.heap.objs.size)) {s with heap:=h'}):
  wpAny (model prog w) A (pyNext (.ref z)) Q E s:=by
 have h:s.TypeIs (.ref z) "zip":=⟨_,i,rfl⟩;unfold pyNext;refine B73 (C10 (wpAny_callSpecial?_slot (name:=B1 "__next__") h b8 (B86 b8 h A41 ?_ (A30 _))));exact qSW (Q:=λv k=>wpAny (model prog w) A (pure (some v)) Q E k) D i d e j u g f hx m λh' p q2 r t q q6 l=>B74 (n h' p q2 r t q q6 l)
theorem qJK {Q:Option Value->Shared->Prop} (j:A.handled=none)(D:C48 z TI TO i1 i2 l1 l2)(h:IsZip s.heap z TI TO .none)(a:IsPair s.heap TI (.ref i1) (.ref i2))
  (i:SIt b s.heap i1 l1 k1) (d:SSq b s.heap l1 xs) (m:xs[k1]?=none)
  (l:∀h':Heap,(∀(c:Addr) (o:Obj),c≠z->c≠i1->s.heap.get? c=some o->h'.get? c=some o)->Q none {s with heap:=h'}):
  wpAny (model prog w) A (pyNext (.ref z)) Q E s:=by
 have f:s.TypeIs (.ref z) "zip":=⟨_,h,rfl⟩;unfold pyNext;refine B73 (C10 (wpAny_callSpecial?_slot (name:=B1 "__next__") f b8 (B86 b8 f A41 ?_ (A30 _))));refine qW5 j D h a i d m λh' e k ⟨o,g,c⟩=>?_;refine B73 (C12 (T:="StopIteration") (b:=true) ⟨_,g,c⟩ isSubtype_stop ?_);exact B74 (l h' k)
theorem qIN {x a c:Value} {Q:Option Value->Shared->Prop} (n:A.handled=none)(D:C48 z TI TO i1 i2 l1 l2)(l:IsZip s.heap z TI TO .none)(f:IsPair s.heap TI (.ref i1) (.ref i2))(d:IsPair s.heap TO a c)
  (m:SIt b s.heap i1 l1 k1) (q:SIt b' s.heap i2 l2 k2) (i:SSq b s.heap l1 xs) (h:SSq b' s.heap l2 ys) (r:xs[k1]?=some x) (t:ys[k2]?=none)
  (p:∀h':Heap,(∀(c:Addr) (o:Obj),c≠z->c≠TO->c≠i1->c≠i2->s.heap.get? c=some o->h'.get? c=some o)->Q none {s with heap:=h'}):
  wpAny (model prog w) A (pyNext (.ref z)) Q E s:=by
 have j:s.TypeIs (.ref z) "zip":=⟨_,l,rfl⟩;unfold pyNext;refine B73 (C10 (wpAny_callSpecial?_slot (name:=B1 "__next__") j b8 (B86 b8 j A41 ?_ (A30 _))));refine qSX n D l f d m q i h r t λh' e k ⟨o,g,c⟩=>?_;refine B73 (C12 (T:="StopIteration") (b:=true) ⟨_,g,c⟩ isSubtype_stop ?_);exact B74 (p h' k)
end
noncomputable abbrev itObj (b:Bool) (l:Addr):Obj:={cls:=.type (match b with|true=>"tuple_iterator" |false=>"list_iterator"),data:=.fields #[.ref l,.int 0 0]}
theorem qLN {b:Bool} {s:Shared} {l:Addr} {xs:Array Value} {Q:Aa1} (h:SSq b s.heap l xs)(a:Q (.ref s.heap.objs.size) {s with heap:=s.heap.push (itObj b l)}):wpAny (model prog w) A (pyIter (.ref l)) Q E s:=by
 cases b
 ·exact C17 h a
 ·exact wpAny_pyIter_tuple h a
noncomputable abbrev zb1 (b:Bool)(h:Heap)(l1:Addr):Heap:=h.push (itObj b l1)
noncomputable abbrev zb2 (b b':Bool)(h:Heap)(l1 l2:Addr):Heap:=(zb1 b h l1).push (itObj b' l2)
noncomputable abbrev zb3 (b b':Bool) (h:Heap) (l1 l2:Addr):Heap:=(zb2 b b' h l1 l2).push {cls:=.type "tuple",data:=.seq #[.ref h.objs.size,.ref (zb1 b h l1).objs.size]}
noncomputable abbrev zb4 (b b':Bool) (h:Heap) (l1 l2:Addr):Heap:=(zb3 b b' h l1 l2).push {cls:=.type "tuple",data:=.seq #[.none,.none]}
noncomputable abbrev zb5 (b b':Bool) (h:Heap) (l1 l2:Addr):Heap:=(zb4 b b' h l1 l2).push {cls:=.type "zip",data:=.fields #[.none,.bool false,.bool false,.ref (zb2 b b' h l1 l2).objs.size,.ref (zb3 b b' h l1 l2).objs.size]}
theorem qW4 (b e:Bool) (a c:Addr) (xs ys:Array Value):Meets (Builtin.«zip.__new__» {pos:=[.type "zip",.ref a,.ref c]}) λ_ R s=>
  SSq b s.heap a xs/\SSq e s.heap c ys/\R (.ok (.ret (.ref (zb4 b e s.heap a c).objs.size))) {s with heap:=zb5 b e s.heap a c}:=by
 refine Meets.of_wp λk w A R s h=>?_;obtain⟨l,g,d,n,m⟩:=s;obtain⟨j,f,h⟩:=h;have i:SSq e (l.push (itObj b a)) c ys:=SSq.at f λo q=>A1 _ q;refine B73 ?_;refine B73 (B74 ?_);refine C40 rfl ?_;refine B73 (C25 sub_zip ?_);refine C40 rfl ?_;refine B74 ?_;refine C40 rfl ?_;refine B73 ?_;refine B73 ?_;show wpAny _ _ (forIn [C7 a,C7 c] #[] _) _ _ _;rw[R7];refine B73 (B73 (B84 (qLN j (B74 ?_))));dsimp only;rw[R7];refine B73 (B73 (B84 (qLN i (B74 ?_))));dsimp only;rw[A66];refine B74 (B74 ?_);refine B73 (wpAny_newTuple ?_ (by show 2<=B75;decide))
 refine B73 (wpAny_newTuple ?_ (by show 2<=B75;decide))
 refine B73 ?_;unfold B31;dsimp only;refine B82 ?_ (by first|rfl|(show(5:Nat)<=_;decide)|(show(5:Nat)<=B75+2;rw[B80];decide))
 refine B74 (xR rfl h)
theorem qVO {b f:Bool} {s:Shared} {a d:Addr} {xs ys:Array Value} {Q:Aa1} (h:SSq b s.heap a xs)(g:SSq f s.heap d ys)
  (y:∀ (h':Heap) (z TI TO i1 i2:Addr),C48 z TI TO i1 i2 a d->IsZip h' z TI TO .none->IsPair h' TI (.ref i1) (.ref i2)->IsPair h' TO .none .none->SIt b h' i1 a 0->SIt f h' i2 d 0->(∀ c ∈ [z,TI,TO,i1,i2],s.heap.objs.size<=c)->
   (∀(c:Addr) (o:Obj),s.heap.get? c=some o->h'.get? c=some o)->Q (.ref z) {s with heap:=h'}):
  wpAny (model prog w) A (call (.type "zip") [.ref a,.ref d]) Q E s:=by
 refine callType_new F.called_zip (by decide) (F.typeCall_zip_2 _ _) (F.newCall_zip_2 _ _) (λi=>F.args_object_init_3 i _ _) F.entry_zip_new (qW4 b f a d xs ys) ⟨h,g,?_⟩
 have r:(zb1 b s.heap a).objs.size=s.heap.objs.size+1:=O4 ..;have j:(zb2 b f s.heap a d).objs.size=s.heap.objs.size+2:=(O4 ..).trans (by rw[r])
 have p:(zb3 b f s.heap a d).objs.size=s.heap.objs.size+3:=(O4 ..).trans (by rw[j])
 have x:(zb4 b f s.heap a d).objs.size=s.heap.objs.size+4:=(O4 ..).trans (by rw[p])
 have u:(zb5 b f s.heap a d).get? (zb4 b f s.heap a d).objs.size=some {cls:=.type "zip",data:=.fields #[.none,.bool false,.bool false,.ref (zb2 b f s.heap a d).objs.size,.ref (zb3 b f s.heap a d).objs.size]}:=B8 _ rfl;have g4:(zb5 b f s.heap a d).get? (zb3 b f s.heap a d).objs.size=some {cls:=.type "tuple",data:=.seq #[.none,.none]}:=A1 _ (B8 _ rfl);have g3:(zb5 b f s.heap a d).get? (zb2 b f s.heap a d).objs.size=some {cls:=.type "tuple",data:=.seq #[.ref s.heap.objs.size,.ref (zb1 b s.heap a).objs.size]}:=A1 _ (A1 _ (B8 _ rfl));have m:(zb5 b f s.heap a d).get? (zb1 b s.heap a).objs.size=some (itObj f d):=A1 _ (A1 _ (A1 _ (B8 _ rfl)));have t:(zb5 b f s.heap a d).get? s.heap.objs.size=some (itObj b a):=A1 _ (A1 _ (A1 _ (A1 _ (B8 _ rfl))));have k:∀{b:Bool} {l:Addr} {zs:Array Value},SSq b s.heap l zs->l<s.heap.objs.size:=λ{b l zs} q=>by
  cases b
  ·obtain⟨o,e,_⟩:=q;exact B9 e
  ·obtain⟨o,e,_⟩:=q;exact B9 e
 refine⟨⟨_,u,rfl⟩,?_⟩;have D:=zipApart_new (n:=s.heap.objs.size) (k h) (k g);rw[<- x,<- p,<- j,<- r] at D;refine y _ _ _ _ _ _ D u g3 g4 ?_ ?_ ?_ λc o e=>A1 _ (A1 _ (A1 _ (A1 _ (A1 _ e))))
 ·cases b
  ·exact⟨_,t,rfl,rfl⟩
  ·exact⟨_,t,rfl,rfl⟩
 ·cases f
  ·exact⟨_,m,rfl,rfl⟩
  ·exact⟨_,m,rfl,rfl⟩
 ·intro c v;have e':c=(zb4 b f s.heap a d).objs.size\/c=(zb2 b f s.heap a d).objs.size\/c=(zb3 b f s.heap a d).objs.size\/c=s.heap.objs.size\/c=(zb1 b s.heap a).objs.size:=by simpa using v
  rcases e' with rfl|rfl|rfl|rfl|rfl
  ·lia
  ·lia
  ·lia
  ·exact B4 _
  ·lia
def SqB (b:Bool)(K:Ab1)(H:Hp)(a:Addr)(xs:List V):Prop:=match b with|true=>SqT K H a xs|false=>SqL K H a xs
def Itz2 (K:Ab1)(b b':Bool)(l1 l2:Addr):It:=
 ⟨λi H=>∃xs ys x y,SqB b K H l1 xs/\SqB b' K H l2 ys/\xs[i]?=some x/\ys[i]?=some y,λi H v H'=>∃T x y,H T=none/\v=.ref T/\H'=Ag H T (.tup [x,y])/\∀xs ys,SqB b K H l1 xs->SqB b' K H l2 ys->xs[i]?=some x/\ys[i]?=some y,λi H=>∃xs,SqB b K H l1 xs/\(xs.length<=i\/∃ys x,SqB b' K H l2 ys/\xs[i]?=some x/\ys.length<=i)⟩
abbrev Itz (K:Ab1)(b:Bool)(l1 l2:Addr):It:=Itz2 K b b l1 l2
theorem Inv.seqB {b:Bool} {Ab:Aa2} {s:Shared} {σ:St} {H:Hp} {a:Addr} {xs:List V} (I:Inv X Ab σ H s)(h:SqB b X.K H a xs):∃its:List Value,Vals xs its/\SSq b s.heap a its.toArray:=by
 cases b
 ·obtain⟨its,c,p,_⟩:=I.list h;exact⟨its,c,p.isList⟩
 ·obtain⟨its,c,p,_⟩:=I.tuple h;exact⟨its,c,p⟩
theorem Inv.seqB_inj {b:Bool} {Ab:Aa2} {σ:St} {H:Hp} {a:Addr} {xs ys:List V} (I:Inv X Ab σ H s)(h:SqB b X.K H a xs)(h':SqB b X.K H a ys):xs=ys:=by
 cases b
 ·exact I.list_inj h h'
 ·exact I.tuple_inj h h'
theorem qWA {K:Ab1} {a9:List Expr} {k:Nat} {pos:Pos} {b b':Bool} {z TI TO g f l1 l2:Addr} (D:C48 z TI TO g f l1 l2):Turn P w K (.Tuple a9 k pos) (Itz2 K b b' l1 l2) [z,TI,TO,g,f] z (λi h=>IsZip h z TI TO .none/\IsPair h TI (.ref g) (.ref f)/\(∃a c,IsPair h TO a c)/\SIt b h g l1 i/\SIt b' h f l2 i) where
 mem:=by simp
 obj:=λi h ⟨h1,h2,⟨a,c,h3⟩,h4,h5⟩ d hd=>by
  have it:∀{b:Bool} {j l:Addr},SIt b h j l i->∃o,h.get? j=some o/\∀v,o.data≠.cell v:=λ{b j l} q=>by
   cases b
   ·obtain⟨o,e,_,q⟩:=q;exact⟨o,e,λv z=>by rw[q] at z;cases z⟩
   ·obtain⟨o,e,_,q⟩:=q;exact⟨o,e,λv z=>by rw[q] at z;cases z⟩
  have e':d=z\/d=TI\/d=TO\/d=g\/d=f:=by simpa using hd
  rcases e' with rfl|rfl|rfl|rfl|rfl
  ·exact⟨_,h1,λv z=>by
    have z':B35 _=A84 v:=z;cases z'⟩
  ·exact⟨_,h2,λv z=>by
    have z':Data.seq _=A84 v:=z;cases z'⟩
  ·exact⟨_,h3,λv z=>by
    have z':Data.seq _=A84 v:=z;cases z'⟩
  ·exact it h4
  ·exact it h5
 keep:=λi h h' ⟨h1,h2,⟨a,c,h3⟩,h4,h5⟩ kk=>⟨kk z (by simp) _ h1,kk TI (by simp) _ h2,⟨a,c,kk TO (by simp) _ h3⟩,h4.at λo q=>kk g (by simp) o q,h5.at λo q=>kk f (by simp) o q⟩
 item:=by
  intro X hP hw hK hc i Ab s σ H E I hf st hg;subst hP hw hK;obtain⟨xs,ys,x,y,a0,m,hx,hy⟩:=hg;obtain⟨ab,rv,p1⟩:=I.seqB a0;obtain⟨ae,r,p2⟩:=I.seqB m;obtain⟨u,hu,ru⟩:=rv.get hx;obtain⟨v,hv,ad⟩:=r.get hy;obtain⟨h1,h2,⟨a,c,h3⟩,h4,h5⟩:=st;refine qIM D h1 h2 h3 h4 h5 p1 p2 (x:=u) (y:=v) (by simpa using hu) (by simpa using hv) λh' a1 a2 a3 a4 a5 a6 a7=>?_
  refine xR rfl (wpAny_letOwnedTupleGo_zip a1 fun aa b1 t=>?_);have a8:z<s.heap.objs.size:=B9 h1;have nz:s.heap.objs.size ≠ z:=V4 a8;have I1:Inv X Ab σ H { s with heap:=aa,toks:=s.toks }:=I.turnedL (ch:=[z,TI,TO,g,f]) (fun d o hd q=>by
   have e1:d≠z:=λq=>hd (by simp[q])
   exact(t.2 d e1).trans (a7 d o e1 (λq=>hd (by simp[q])) (λq=>hd (by simp[q])) (λq=>hd (by simp[q])) q)) hf
  have hT:H s.heap.objs.size=none:=I.hok.fresh (B4 _);have fT:=I.fpOk (H':=H) (b:=s.heap.objs.size) (B4 _) hT;have gT:aa.get? s.heap.objs.size=some {cls:=.type "tuple",data:=.seq #[u,v]}:=(t.2 _ nz).trans a5;refine⟨.ref s.heap.objs.size,Ag H s.heap.objs.size (.tup [x,y]),I1.track hT I.sz fT.2.1 fT.2.2.2.2.1 fT.2.2.2.2.2 ⟨by simp only[J7,W0];rw[B80];decide,[u,v],.cons ru (.cons ad .nil),⟨_,gT,rfl,_,rfl⟩⟩,rfl,
   ⟨_,x,y,hT,rfl,rfl,λag af e1 e2=>by rw[I.seqB_inj e1 a0,I.seqB_inj e2 m];exact⟨hx,hy⟩⟩,⟨b1,(t.2 _ D.TIz).trans (a7 _ _ D.TIz D.TITO D.TIi1 D.TIi2 h2),⟨u,v,(t.2 _ D.TOz).trans a2⟩,a3.at λo q=>(t.2 _ D.i1z).trans q,a4.at λo q=>(t.2 _ D.i2z).trans q⟩,λd hd=>?_⟩
  have ac:d<s.heap.objs.size:=by
   have it:∀{b:Bool} {j l:Addr} {n:Nat},SIt b s.heap j l n->j<s.heap.objs.size:=λ{b j l n} q=>by
    cases b
    ·obtain⟨o,e,_,q⟩:=q;exact B9 e
    ·obtain⟨o,e,_,q⟩:=q;exact B9 e
   have e':d=z\/d=TI\/d=TO\/d=g\/d=f:=by simpa using hd
   rcases e' with rfl|rfl|rfl|rfl|rfl
   ·exact a8
   ·exact B9 h2
   ·exact B9 h3
   ·exact it h4
   ·exact it h5
  rw[qAB (E7 ac)];exact(hf d hd).1
 done:=by
  intro X hP hw hK hc i Ab s σ H E I hf st hg;subst hP hw hK;obtain⟨xs,hq,hx⟩:=hg;obtain⟨ab,rv,p⟩:=I.seqB hq;have hl:=rv.length;obtain⟨h1,h2,⟨a,c,h3⟩,h4,h5⟩:=st;rcases hx with hx|⟨ys,x,m,hxx,hy⟩
  rotate_left
  ·obtain⟨ae,r,p2⟩:=I.seqB m;have ah:=r.length;obtain⟨u,hu,ru⟩:=rv.get hxx;exact qIN (I.ok.hd hc) D h1 h2 h3 h4 h5 p p2 (x:=u) (by simpa using hu) (by simp;lia) λh' eb=>⟨rfl,I.turnedL (t':=s.toks) (ch:=[z,TI,TO,g,f]) (λd o hd q=>eb d o (λz=>hd (by simp[z])) (λz=>hd (by simp[z])) (λz=>hd (by simp[z])) (λz=>hd (by simp[z])) q) hf⟩
  exact qJK (I.ok.hd hc) D h1 h2 h4 p (by simp;lia) λh' eb=>⟨rfl,I.turnedL (t':=s.toks) (ch:=[z,TI,TO,g,f]) (λd o hd q=>eb d o (λz=>hd (by simp[z])) (λz=>hd (by simp[z])) q) hf⟩
 self:=λ_ _ _ _ _ ⟨h1,_⟩ h=>wpAny_pyIter_zip h1 h
theorem qaD {e:List Expr} {k:Nat} {a:Pos} {Ab:Aa2} {σ:St} {R:It->Hp->Prop} {H1:Hp} {b r:Bool} {l m:Addr} {xs ys:List V} (I1:Inv X Ab σ H1 f)(hq:SqB b X.K H1 l xs)(j:SqB r X.K H1 m ys)(q:R (Itz2 X.K b r l m) H1):
  wpAny (model X.prog X.w) X.A (call (.type "zip") [.ref l,.ref m]) (λv s=>wpAny (model X.prog X.w) X.A (pyIter v) (PIE X Ab σ (.Tuple e k a) R) X.xe s) X.xe f:=by
 obtain⟨u,rv,pl⟩:=I1.seqB hq;obtain⟨a0,t,pm⟩:=I1.seqB j;refine qVO pl pm λh' z TI TO y x D p h n i g d hk=>?_;refine wpAny_pyIter_zip p ?_;have I2:Inv X Ab σ H1 {f with heap:=h'}:=I1.kept (t':=f.toks) hk;exact⟨z,[z,TI,TO,y,x],_,_,H1,rfl,I2,qWA D,⟨p,h,⟨_,_,n⟩,i,g⟩,λc o=>I1.fpOk (d c o) (I1.hok.fresh (d c o)),q⟩
def iZip (K:Ab1)(ta:TA):TI:=λσ H R=>ta σ H λvs H1=>∃b l m,vs=[.ref l,.ref m]/\(∃xs,SqB b K H1 l xs)/\(∃xs,SqB b K H1 m xs)/\R (Itz K b l m) H1
theorem qXT {d:List Expr} {k:Nat} {c:Pos} {a b:Expr} {i:TA} {p pos:Pos} (n:Gl X "zip") (t:X.mg "zip" = none) (o:B81 "zip" = some (.type "zip")) (z:PA X [a,b] i) (x:B85 [a,b] X.env=[(false,eval a X.env),(false,eval b X.env)]:=by rfl) (f:B85 [b] X.env=[(false,eval b X.env)]:=by rfl):
  PI X (.Tuple d k c) (.Call (.Name "zip" p) [a,b] [] pos) (iZip X.K i):=by
 intro w s σ H R I h;refine Call_ (qIG I n t o (V9 (thn (z pos w s σ H _ I h) λus s1 ⟨vs,H1,I1,r1,q1⟩=>?_) (by rw[x,f]) (by rw[f];rfl)))
 obtain⟨bb,l,m,e,⟨xs,y⟩,⟨ys,g⟩,q⟩:=q1;subst e;obtain⟨u,v,rfl,r,j⟩:=qRU r1;cases r;cases j;exact qaD I1 y g q
theorem qbM {K:Ab1} {b:Bool} {l m:Addr} {xs ys:List V} {g:TG} {d:TT} {j:TE} {Kf:Hp->Prop} {σ0:St} {H0:Hp} {p:Addr} (f:xs.length=ys.length)(Pv:Nat->St->Hp->Prop)(h0:Pv 0 σ0 H0)(z:∀i σ H,i<=xs.length->Pv i σ H->SqB b K H l xs/\SqB b K H m ys)
  (s:∀i x y σ H T,xs[i]?=some x->ys[i]?=some y->Pv i σ H->H T=none->g (.ref T) σ (Ag H T (.tup [x,y])) λσ2 H2=>d σ2 H2 λb H3=>if b=true then j σ2 H3 λy H4=>∃ys,H4 p=some (.lst ys)/\ys.length<B75/\Pv (i+1) σ2 (Ag H4 p (.lst (ys++[y]))) else Pv (i+1) σ2 H3)
  (r:∀σ H,Pv xs.length σ H->Kf H):
  LcG (Itz K b l m) g d j Kf σ0 H0 p:=by
 refine⟨λi n σ H=>n=xs.length-i/\i<=xs.length/\Pv i σ H,⟨xs.length,by simp,J5 _,h0⟩,?_⟩
 rintro i n σ H ⟨rfl,hi,q⟩;have a:=z i σ H hi q;by_cases c:i<xs.length
 ·refine .inr ⟨⟨xs,ys,xs[i],ys[i]'(by lia),a.1,a.2,by simp[c],B0 _⟩,Pv (i+1),λσ' t o=>⟨xs.length-(i+1),by lia,rfl,c,o⟩,λv t y=>?_⟩
  obtain⟨T,x,y,k,u,w,h⟩:=y;subst u w;exact s i x y σ H T (h xs ys a.1 a.2).1 (h xs ys a.1 a.2).2 q k
 ·have e:i=xs.length:=by lia
  subst e;exact .inl ⟨⟨xs,a.1,.inl (B4 _)⟩,r σ H q⟩
open PySem
@[irreducible] def cst (i:Int)(p:Pos):Expr:=.Constant (.int i) 0 p
theorem qbF {P:(St->Hp->Prop)->Prop} {B:St->Hp->Prop} (h:∀N:St->Hp->Prop,(∀σ H,B σ H->N σ H)->P N):∃N:St->Hp->Prop,(∀σ' H',N σ' H'->B σ' H')/\P N:=⟨B,λ_ _ z=>z,h B λ_ _ z=>z⟩
theorem qOS {K:Ab1} {a:Addr} {xs:List V} {g:TG} {b:TS} {D:Ends} {σ:St} {H:Hp} (Pv:Nat->St->Hp->Prop)(j:Pv 0 σ H)(h:∀i σ H,i<=xs.length->Pv i σ H->SqL K H a xs)
  (d:∀i x σ H,xs[i]?=some x->Pv i σ H->∀N:St->Hp->Prop,(∀σ H,Pv (i+1) σ H->N σ H)->g x σ H λσ2 H2=>b {D with nx:=N,ct:=N,bk:=D.nx} σ2 H2) (c:∀σ H,Pv xs.length σ H->D.nx σ H):
  ForG (Itl K a) g b D σ H:=
 qFZ Pv j h (λi x σ H f e=>d i x σ H f e _ λ_ _ z=>z) c
@[elab_as_elim] theorem us0 {α:Type}{P:List α->Prop}(a:List α)(b:a.length=0)(h:P []):P a:=by
 match a,b with
 |[],_=>exact h
@[elab_as_elim] theorem us1 {α:Type}{P:List α->Prop}(b:List α)(c:b.length=1)(h:∀a,P [a]):P b:=by
 match b,c with
 |[a],_=>exact h a
@[elab_as_elim] theorem us2 {α:Type}{P:List α->Prop}(c:List α)(d:c.length=2)(h:∀a b,P [a,b]):P c:=by
 match c,d with
 |[a,b],_=>exact h a b
@[elab_as_elim] theorem us3 {α:Type}{P:List α->Prop}(d:List α)(e:d.length=3)(h:∀a b c,P [a,b,c]):P d:=by
 match d,e with
 |[a,b,c],_=>exact h a b c
@[elab_as_elim] theorem us4 {α:Type}{P:List α->Prop}(e:List α)(f:e.length=4)(h:∀a b c d,P [a,b,c,d]):P e:=by
 match e,f with
 |[a,b,c,d],_=>exact h a b c d
end _L
namespace _L.G
open PySem PyProof.Rows
abbrev gSM:=StateT SortSt Sem
class NM where
 nm:Value->Int
 good:Value->Prop
variable[NM]
def gkv (p:Keyed):Int:=NM.nm p.1
def gIK (p:Keyed):Prop:=NM.good p.1
class LtOk (prog:B76)(w:World)(A:Around)(s:Shared)(κ0:C34):Prop where
 lt:∀{x y:Value} {Q:Bool->Shared->Prop} {E:Aa1},NM.good x->NM.good y->Q (decide (NM.nm x<NM.nm y)) s->wpAny (model prog w) A (keyLt' κ0 x y) Q E s
noncomputable def gK (xs:Array Keyed)(i:Nat):Int:=match xs[i]? with
 |some p=>NM.nm p.1
 |none=>0
def qH8 (xs:Array Keyed)(k:Nat):Prop:=∀i j,i<=j->j<k->gK xs i<=gK xs j
def qC7 (xs:Array Keyed):Prop:=∀p,p∈xs.toList->NM.good p.1
theorem qZO {xs:Array Keyed} {i:Nat} (hi:i<xs.size):gK xs i=NM.nm xs[i].1:=by unfold gK;rw[getElem?_pos xs i hi]
theorem qFY {xs ys:Array Keyed} {i j:Nat} (h:xs[i]?=ys[j]?):gK xs i=gK ys j:=by unfold gK;rw[h]
theorem qK5 {xs:Array Keyed} {a d:Nat} (g:a<xs.size)(f:d<=a)(k:Nat):
  gK (bubble xs a d) k=if k=a-d then gK xs a else if a-d<k/\k<=a then gK xs (k-1) else gK xs k:=by
 have e:=getElem?_bubble g d f k;by_cases b:k=a-d
 ·rw[if_pos b] at e ⊢;exact qFY e
 ·rw[if_neg b] at e ⊢;by_cases c:a-d<k/\k<=a
  ·rw[if_pos c] at e ⊢;exact qFY e
  ·rw[if_neg c] at e ⊢;exact qFY e
theorem qH9 {xs:Array Keyed} {i j:Nat} (b:j<=xs.size)(k:Nat):
  gK (mirror xs i j ((j-i)/2)) k=if i<=k/\k<j then gK xs (i+j-1-k) else gK xs k:=by
 have e:=getElem?_mirror_all (i:=i) b k;by_cases a:i<=k/\k<j
 ·rw[if_pos a] at e ⊢;exact qFY e
 ·rw[if_neg a] at e ⊢;exact qFY e
theorem qBA {xs:Array Keyed} {i j:Nat} (c:j<=xs.size)(a:∀k,i<=k->k<j->gK xs k=gK xs (j-1))(k:Nat):
  gK (mirror xs i j ((j-i)/2)) k=gK xs k:=by
 rw[qH9 c]
 split
 ·rw[a _ (by omega) (by omega),a k (by omega) (by omega)]
 ·rfl
noncomputable def qX9:Bool->Keyed->Array Keyed->Nat->Nat->Nat->gSM (Option Nat):=sortPriv% PySem.Builtin.gallop
noncomputable def gbey (left:Bool)(key:Keyed)(arr:Array Keyed)(base i:Nat):gSM (Option Bool):=do
 let x <- elem' arr (base+i)
 if left=true then lt' x key else do
  let r <- lt' key x
  pure (r.map λb=>!b)
section
variable{prog:B76}{w:World}{A:Around}{E:Aa1}{s:Shared}{κ0:C34}[LtOk prog w A s κ0]
theorem qH5 {st:SortSt} {x y:Keyed} {Q:Option Bool->SortSt->Prop} (a:kindOf st=κ0)(b:gIK x)(c:gIK y)(h:Q (some (decide (gkv x<gkv y))) st):wpS (model prog w) A E s (lt' x y) Q st:=by
 rw[lt'_eq];refine B77 (C23 ?_);rw[a];refine B77 (wpS_lift (C10 (LtOk.lt b c ⟨rfl,?_⟩)));exact B78 h
theorem qBI {st:SortSt} {a:Array Keyed} {i:Nat} {x:Keyed} {Q:Keyed->SortSt->Prop} (h:a[i]?=some x)(b:Q x st):wpS (model prog w) A E s (elem' a i) Q st:=by
 rw[elem'_eq,h];exact B78 b
noncomputable def qAW (left:Bool)(key:Keyed)(a:Array Keyed)(base i:Nat):Bool:=match a[base+i]? with
 |some x=>if left=true then decide (gkv x<gkv key) else decide (gkv x<=gkv key)
 |none=>false
theorem qH6 {st:SortSt} {left:Bool} {b:Keyed} {a:Array Keyed} {base i:Nat} {Q:Option Bool->SortSt->Prop} (d:kindOf st=κ0)(c:gIK b)(g:∀x∈a.toList,gIK x)(hi:base+i<a.size)(h:Q (some (qAW left b a base i)) st):
  wpS (model prog w) A E s (gbey left b a base i) Q st:=by
 unfold gbey;have e:a[base+i]?=some (a[base+i]'hi):=C8 hi;have f:gIK (a[base+i]'hi):=g _ (by simp)
 unfold qAW at h;rw[e] at h;refine B77 (qBI e ?_);cases left with
 |true=>exact qH5 d f c h
 |false=>
  refine B77 (qH5 d c f ?_);refine B78 ?_;have:(!decide (gkv b<gkv a[base+i]))=decide (gkv a[base+i]<=gkv b):=by
   by_cases q:gkv b<gkv a[base+i]
   ·rw[decide_eq_true q,decide_eq_false (by omega)];rfl
   ·rw[decide_eq_false q,decide_eq_true (by omega)];rfl
  show Q (some (!decide (gkv b<gkv a[base+i]))) st;rw[this];exact h
theorem qFW {st:SortSt} {left:Bool} {b:Keyed} {a:Array Keyed} {base n hint:Nat} {Q:Option Nat->SortSt->Prop} (hk:kindOf st=κ0)(t:gIK b)(ha:∀x∈a.toList,gIK x)(hn:base+n<=a.size)(hh:hint<n)
  (p:∀i j,i<=j->j<n->qAW left b a base j=true->qAW left b a base i=true)
  (h:∀k,k<=n->(∀i,i<k->qAW left b a base i=true)->(∀i,k<=i->i<n->qAW left b a base i=false)->Q (some k) st):
  wpS (model prog w) A E s (qX9 left b a base n hint) Q st:=by
 have m:∀i j,i<=j->j<n->qAW left b a base i=false->qAW left b a base j=false:=λi j a0 hj e=>by
  cases q:qAW left b a base j with
  |false=>rfl
  |true=>rw[p i j a0 hj q] at e;cases e
 unfold qX9;show wpS _ _ _ _ (gbey left b a base hint >>= _) _ _;refine B77 (qH6 hk t ha (by omega) ?_)
 dsimp only;cases e:qAW left b a base hint with
 |true=>
  rw [if_pos rfl];refine B77 (C05 (B90 (I:=fun x c f=>f=st/\∃ l o,c=(none,l,o)/\l<o/\x+1<=o/\hint+l<n/\qAW left b a base (hint+l)=true)
   (Q:=λc f=>f=st/\∃l o,c=(none,l,o)/\l<o/\hint+l<n/\qAW left b a base (hint+l)=true/\(o>=n-hint\/qAW left b a base (hint+o)=false)) ?step ?fin ⟨rfl,0,1,rfl,by omega,by omega,by omega,e⟩) ?post)
  case fin=>
   rintro c f ⟨rfl,l,o,rfl,h1,h2,h3,h4⟩;exact⟨rfl,l,o,rfl,h1,h3,h4,.inl (by omega)⟩
  case step=>
   rintro x c f _ hx ⟨rfl,l,o,rfl,h1,h2,h3,h4⟩;dsimp only;by_cases g:o>=n-hint
   ·rw[if_pos g];exact B78 ⟨rfl,l,o,rfl,h1,h3,h4,.inl g⟩
   ·rw[if_neg g];show wpS _ _ _ _ (gbey left b a base (hint+o) >>= _) _ _;refine B77 (qH6 hk t ha (by omega) ?_)
    dsimp only;cases e2:qAW left b a base (hint+o) with
    |false=>
     rw[if_pos (by rfl)]
     exact B78 ⟨rfl,l,o,rfl,h1,h3,h4,.inr e2⟩
    |true=>
     rw[if_neg (by simp)]
     exact B78 ⟨rfl,o,2*o+1,rfl,by omega,by omega,by omega,e2⟩
  case post=>
   rintro c f ⟨rfl,l,o,rfl,h1,h3,h4,h5⟩;dsimp only;have z:∀i,i<hint+l+1->qAW left b a base i=true:=λi v=>p i (hint+l) (by omega) h3 h4
   have y:∀i,hint+min o (n-hint)<=i->i<n->qAW left b a base i=false:=λi v u=>by
    rcases h5 with h5|h5
    ·omega
    ·exact m (hint+o) i (by omega) u h5
   refine B77 (C05 (B90 (I:=fun x c d=>d=f/\∃ l r,c=(none,l,r)/\l<=r/\r<=n/\r - l<=n - x/\(∀ i,i<l->qAW left b a base i=true)/\∀ i,r<=i->i<n->qAW left b a base i=false)
    (Q:=λc d=>d=f/\∃l,c=(none,l,l)/\l<=n/\(∀i,i<l->qAW left b a base i=true)/\∀i,l<=i->i<n->qAW left b a base i=false) ?bstep ?bfin ⟨rfl,hint+l+1,hint+min o (n-hint),rfl,by omega,by omega,by omega,z,y⟩) ?bpost)
   case bfin=>
    rintro c d ⟨rfl,l,r,rfl,h1,h2,h3,h4,h5⟩;have:l=r:=by omega
    subst this;exact⟨rfl,l,rfl,h2,h4,h5⟩
   case bpost=>
    rintro c d ⟨rfl,l,rfl,h1,h2,h3⟩;exact B78 (h l h1 h2 h3)
   case bstep=>
    rintro x c d _ hx ⟨rfl,l,r,rfl,h1,h2,h3,h4,h5⟩;dsimp only;by_cases g:l>=r
    ·rw[if_pos g];have:l=r:=by omega
     subst this;exact B78 ⟨rfl,l,rfl,h2,h4,h5⟩
    ·rw[if_neg g];show wpS _ _ _ _ (gbey left b a base (l+(r-l)/2) >>= _) _ _;refine B77 (qH6 hk t ha (by omega) ?_)
     dsimp only;cases e9:qAW left b a base (l+(r-l)/2) with
     |true=>
      rw[if_pos rfl];exact B78 ⟨rfl,_,xR rfl ⟨by omega,h2,by omega,λi v=>p i _ (by omega) (by omega) e9,h5⟩⟩
     |false=>
      rw[if_neg B6];exact B78 ⟨rfl,_,xR rfl ⟨by omega,by omega,by omega,h4,λi v u=>m _ i v u e9⟩⟩
 |false=>
  rw [if_neg B6];refine B77 (C05 (B90 (I:=fun x c f=>f=st/\∃ l o,c=(none,l,o)/\l<o/\x+1<=o/\l<=hint/\qAW left b a base (hint - l)=false)
   (Q:=λc f=>f=st/\∃l o,c=(none,l,o)/\l<o/\l<=hint/\qAW left b a base (hint-l)=false/\(o>=hint+1\/qAW left b a base (hint-o)=true)) ?step ?fin ⟨rfl,0,1,rfl,by omega,by omega,by omega,e⟩) ?post)
  case fin=>
   rintro c f ⟨rfl,l,o,rfl,h1,h2,h3,h4⟩;exact⟨rfl,l,o,rfl,h1,h3,h4,.inl (by omega)⟩
  case step=>
   rintro x c f _ hx ⟨rfl,l,o,rfl,h1,h2,h3,h4⟩;dsimp only;by_cases g:o>=hint+1
   ·rw[if_pos g];exact B78 ⟨rfl,l,o,rfl,h1,h3,h4,.inl g⟩
   ·rw[if_neg g];show wpS _ _ _ _ (gbey left b a base (hint-o) >>= _) _ _;refine B77 (qH6 hk t ha (by omega) ?_)
    dsimp only;cases e2:qAW left b a base (hint-o) with
    |true=>
     rw[if_pos rfl];exact B78 ⟨rfl,l,o,rfl,h1,h3,h4,.inr e2⟩
    |false=>
     rw[if_neg B6];exact B78 ⟨rfl,o,2*o+1,rfl,by omega,by omega,by omega,e2⟩
  case post=>
   rintro c f ⟨rfl,l,o,rfl,h1,h3,h4,h5⟩;dsimp only;have z:∀i,i<hint+1-min o (hint+1)->qAW left b a base i=true:=λi v=>by
    rcases h5 with h5|h5
    ·omega
    ·exact p i (hint-o) (by omega) (by omega) h5
   have y:∀ i,hint - l<=i->i<n->qAW left b a base i=false:=fun i v u=>m (hint - l) i v u h4;refine B77 (C05 (B90 (I:=fun x c d=>d=f/\∃ l r,c=(none,l,r)/\l<=r/\r<=n/\r - l<=n - x/\(∀ i,i<l->qAW left b a base i=true)/\∀ i,r<=i->i<n->qAW left b a base i=false)
    (Q:=λc d=>d=f/\∃l,c=(none,l,l)/\l<=n/\(∀i,i<l->qAW left b a base i=true)/\∀i,l<=i->i<n->qAW left b a base i=false) ?bstep ?bfin ⟨rfl,hint+1-min o (hint+1),hint-l,rfl,by omega,by omega,by omega,z,y⟩) ?bpost)
   case bfin=>
    rintro c d ⟨rfl,l,r,rfl,h1,h2,h3,h4,h5⟩;have:l=r:=by omega
    subst this;exact⟨rfl,l,rfl,h2,h4,h5⟩
   case bpost=>
    rintro c d ⟨rfl,l,rfl,h1,h2,h3⟩;exact B78 (h l h1 h2 h3)
   case bstep=>
    rintro x c d _ hx ⟨rfl,l,r,rfl,h1,h2,h3,h4,h5⟩;dsimp only;by_cases g:l>=r
    ·rw[if_pos g];have:l=r:=by omega
     subst this;exact B78 ⟨rfl,l,rfl,h2,h4,h5⟩
    ·rw[if_neg g];show wpS _ _ _ _ (gbey left b a base (l+(r-l)/2) >>= _) _ _;refine B77 (qH6 hk t ha (by omega) ?_)
     dsimp only;cases e9:qAW left b a base (l+(r-l)/2) with
     |true=>
      rw[if_pos rfl];exact B78 ⟨rfl,_,xR rfl ⟨by omega,h2,by omega,λi v=>p i _ (by omega) (by omega) e9,h5⟩⟩
     |false=>
      rw[if_neg B6];exact B78 ⟨rfl,_,xR rfl ⟨by omega,by omega,by omega,h4,λi v u=>m _ i v u e9⟩⟩
end
end _L.G
namespace _L.G
open PySem PyProof.Rows
variable[NM]
structure gMR (R:Keyed->Keyed->Prop)(all out ra rb:List Keyed):Prop where
 perm:(out++(ra++rb)).Perm all
 up:out.Pairwise R
 ua:ra.Pairwise R
 ub:rb.Pairwise R
 la:∀x∈out,∀y∈ra,R x y
 lb:∀x∈out,∀y∈rb,R x y
section
variable{R:Keyed->Keyed->Prop}{all out ra rb xs:List Keyed}
theorem gMR.symm (h:gMR R all out ra rb):gMR R all out rb ra:=⟨((B44 out).append (List.perm_append_comm)).trans h.perm,h.up,h.ub,h.ua,h.lb,h.la⟩
theorem gMR.takeA (h:gMR R all out (xs++ra) rb)(c:∀x∈xs,∀y∈rb,R x y):gMR R all (out++xs) ra rb:=by
 have ua:=U9.mp h.ua;refine⟨?_,U9.mpr ⟨h.up,ua.1,λx hx y a=>h.la x hx y (B7.mpr (.inl a))⟩,ua.2.1,h.ub,λx hx y a=>?_,λx hx y a=>?_⟩
 ·have e:out++xs++(ra++rb)=out++((xs++ra)++rb):=by simp[O3]
  rw[e];exact h.perm
 ·rcases B7.mp hx with hx|hx
  ·exact h.la x hx y (B7.mpr (.inr a))
  ·exact ua.2.2 x hx y a
 ·rcases B7.mp hx with hx|hx
  ·exact h.lb x hx y a
  ·exact c x hx y a
theorem gMR.takeB (h:gMR R all out ra (xs++rb))(c:∀x∈xs,∀y∈ra,R x y):gMR R all (out++xs) ra rb:=(gMR.takeA h.symm c).symm
theorem gMR.allA (h:gMR R all out ra []):(out++ra).Perm all/\(out++ra).Pairwise R:=by
 have a:gMR R all out (ra++[]) []:=by rw[M4];exact h
 have q:=a.takeA λ_ _ _ z=>nomatch z;exact⟨by have:=q.perm;simpa using this,q.up⟩
theorem gMR.allB (h:gMR R all out [] rb):(out++rb).Perm all/\(out++rb).Pairwise R:=h.symm.allA
theorem gMR.lastA {z:Keyed} (h:gMR R all out [z] rb)(c:∀y∈rb,R y z):(out++rb++[z]).Perm all/\(out++rb++[z]).Pairwise R:=by
 have a:gMR R all out [z] (rb++[]):=by rw[M4];exact h
 exact(a.takeB λx b y d=>by rw[B3.mp d];exact c x b).allA
end
abbrev grUp (x y:Keyed):Prop:=gkv x<=gkv y
abbrev grDn (x y:Keyed):Prop:=gkv y<=gkv x
def gRes (all r:List Keyed):Prop:=r.Perm all/\r.Pairwise grUp
def gSE (st st':SortSt):Prop:=kindOf st'=kindOf st/\arrOf st'=arrOf st/\B79 st'=B79 st/\C49 st'=C49 st
theorem gSE.refl (st:SortSt):gSE st st:=⟨rfl,rfl,rfl,rfl⟩
def gmLo:Array Keyed->Array Keyed->gSM (Array Keyed):=sortPriv% PySem.Builtin.mergeLo
def gmHi:Array Keyed->Array Keyed->gSM (Array Keyed):=sortPriv% PySem.Builtin.mergeHi
theorem qDI {l:List Keyed} {i:Nat} {x:Keyed} (h:l[i]?=some x):l.drop i=[x]++l.drop (i+1):=by
 obtain⟨a,e⟩:=B5.mp h;rw[Q0 a,e]
 rfl
theorem qC4 {a:Array Keyed} {i:Nat} (h:i<a.size):∃x,a[i]?=some x/\a.toList[i]?=some x/\x∈a.toList:=⟨a[i],C8 h,by simp[h],by simp⟩
theorem qB0 (a:Array Keyed)(i j:Nat):(a.extract i j).toList=(a.toList.drop i).take (j-i):=by simp
theorem qGJ {l:List Keyed} {i k:Nat} :l.drop i=(l.drop i).take k++l.drop (i+k):=by
 rw[<- i8,X1]
theorem qER {left:Bool} {b:Keyed} {a:Array Keyed} {base n:Nat} (m:base+n<=a.size)(u:(a.toList.drop base).Pairwise grUp):∀i j,i<=j->j<n->qAW left b a base j=true->qAW left b a base i=true:=by
 intro i j h k e;by_cases c:i=j
 ·subst c;exact e
 have d:base+j<a.size:=by omega
 have f:base+i<a.size:=by omega
 have l:gkv a[base+i]<=gkv a[base+j]:=by
  have:=R3.mp u i j (by simp;omega) (by simp;omega) (by omega)
  simpa using this
 unfold qAW at e ⊢;rw[C8 d] at e;rw[C8 f];cases left with
 |true=>
  have g:decide (gkv a[base+j]<gkv b)=true:=e;show decide (gkv a[base+i]<gkv b)=true;have:=of_decide_eq_true g;exact decide_eq_true (by omega)
 |false=>
  have g:decide (gkv a[base+j]<=gkv b)=true:=e;show decide (gkv a[base+i]<=gkv b)=true;have:=of_decide_eq_true g;exact decide_eq_true (by omega)
theorem qOP {b:Keyed} {a:Array Keyed} {base n k:Nat} (j:k<=n)(g:base+n<=a.size)(h:∀i,i<k->qAW true b a base i=true):∀x∈(a.toList.drop base).take k,gkv x<gkv b:=by
 intro x d;obtain⟨i,c,rfl⟩:=Q2 d;simp only[C9,J2,D6] at c;have e:=h i (by omega)
 unfold qAW at e;rw[C8 (show base+i<a.size by omega)] at e
 have f:decide (gkv a[base+i]<gkv b)=true:=e;simpa using of_decide_eq_true f
theorem qOQ {b:Keyed} {a:Array Keyed} {base n k:Nat} (j:k<=n)(g:base+n<=a.size)(h:∀i,i<k->qAW false b a base i=true):∀x∈(a.toList.drop base).take k,gkv x<=gkv b:=by
 intro x d;obtain⟨i,c,rfl⟩:=Q2 d;simp only[C9,J2,D6] at c;have e:=h i (by omega)
 unfold qAW at e;rw[C8 (show base+i<a.size by omega)] at e
 have f:decide (gkv a[base+i]<=gkv b)=true:=e;simpa using of_decide_eq_true f
theorem qLW {b:Keyed} {a:Array Keyed} {base n k:Nat} (g:base+n<=a.size)(h:∀i,k<=i->i<n->qAW true b a base i=false):∀x∈((a.toList.drop base).take n).drop k,gkv b<=gkv x:=by
 intro x d;obtain⟨i,c,rfl⟩:=Q2 d;simp only[C9,J2,D6] at c;have e:=h (k+i) (by omega) (by omega)
 unfold qAW at e;rw[C8 (show base+(k+i)<a.size by omega)] at e
 have f:decide (gkv a[base+(k+i)]<gkv b)=false:=e;have:=of_decide_eq_false f;simp only[A29,A28,d9];omega
theorem qLV {b:Keyed} {a:Array Keyed} {base n k:Nat} (g:base+n<=a.size)(h:∀i,k<=i->i<n->qAW false b a base i=false):∀x∈((a.toList.drop base).take n).drop k,gkv b<gkv x:=by
 intro x d;obtain⟨i,c,rfl⟩:=Q2 d;simp only[C9,J2,D6] at c;have e:=h (k+i) (by omega) (by omega)
 unfold qAW at e;rw[C8 (show base+(k+i)<a.size by omega)] at e
 have f:decide (gkv a[base+(k+i)]<=gkv b)=false:=e;have:=of_decide_eq_false f;simp only[A29,A28,d9];omega
end _L.G
namespace _L.G
open PySem PyProof.Rows
variable[NM]
theorem gifT {α:Type} {c:Prop} [Decidable c]{x y:gSM α}{Q:α->SortSt->Prop}{st:SortSt}(h:c)(k:wpS (model prog w) A E s x Q st):wpS (model prog w) A E s (if c then x else y) Q st:=by rw[if_pos h];exact k
theorem gifF {α:Type} {c:Prop} [Decidable c]{x y:gSM α}{Q:α->SortSt->Prop}{st:SortSt}(h:¬c)(k:wpS (model prog w) A E s y Q st):wpS (model prog w) A E s (if c then x else y) Q st:=by rw[if_neg h];exact k
theorem gtwo {α:Type} {A:Prop} {M G:α->Prop} (b:(∀o,M o->G o)->A)(a:∀o,M o->G o):A:=b a
section
variable{prog:B76}{w:World}{A:Around}{E:Aa1}{s:Shared}{κ0:C34}[LtOk prog w A s κ0]
theorem gopq {A:Prop} (h:∀G:Prop,(A->G)->G):A:=h A id
theorem gnm {α:Type} {x:gSM α} {Q:α->SortSt->Prop} {st:SortSt} (h:∀R:α->SortSt->Prop,(∀a st,Q a st->R a st)->wpS (model prog w) A E s x R st):wpS (model prog w) A E s x Q st:=h Q λ_ _ z=>z
theorem qX2 {st:SortSt} {a b:Array Keyed} {Q:Array Keyed->SortSt->Prop} (hk:kindOf st=κ0)(ka:∀x∈a.toList,gIK x)(kb:∀x∈b.toList,gIK x)(ua:a.toList.Pairwise grUp)(ub:b.toList.Pairwise grUp)(na:0<a.size)(nb:0<b.size)
  (first:∀y,b.toList[0]?=some y->∀x∈a.toList,gkv y<=gkv x) (ax:∀z,a.toList[a.size-1]?=some z->∀y∈b.toList,gkv y<=gkv z)
  (h:∀r st',gSE st st'->gRes (a.toList++b.toList) r.toList->Q r st'):wpS (model prog w) A E s (gmLo a b) Q st:=by
 have tl:(a.toList++b.toList).length=a.size+b.size:=by simp
 -- ways out
 have v:∀(out:Array Keyed) (ia:Nat),gMR grUp (a.toList++b.toList) out.toList (a.toList.drop ia) (b.toList.drop b.size)->gRes (a.toList++b.toList) (out++a.extract ia a.size++b.extract b.size b.size).toList:=by
  intro out ia m;have e:b.toList.drop b.size=[]:=m7 (by simp)
  rw[e] at m;have q:=m.allA;have e2:(out++a.extract ia a.size++b.extract b.size b.size).toList=out.toList++a.toList.drop ia:=by
   rw[F0,F0,qB0,qB0,e,A93,M4,D3 (by simp)]
  rw[e2];exact q
 have ay:∀(out:Array Keyed) (ib:Nat),gMR grUp (a.toList++b.toList) out.toList (a.toList.drop a.size) (b.toList.drop ib)->gRes (a.toList++b.toList) (out++a.extract a.size a.size++b.extract ib b.size).toList:=by
  intro out ib m;have e:a.toList.drop a.size=[]:=m7 (by simp)
  rw[e] at m;have q:=m.allB;have e2:(out++a.extract a.size a.size++b.extract ib b.size).toList=out.toList++b.toList.drop ib:=by
   rw[F0,F0,qB0,qB0,e,A93,M4,D3 (by simp)]
  rw[e2];exact q
 have a0:∀(out:Array Keyed) (ia ib:Nat),ia+1=a.size->gMR grUp (a.toList++b.toList) out.toList (a.toList.drop ia) (b.toList.drop ib)->gRes (a.toList++b.toList) (out++b.extract ib b.size++a.extract ia a.size).toList:=by
  intro out ia ib bm m;refine gopq λb2 a8=>?_;obtain⟨z,_,hz,_⟩:=qC4 (a:=a) (i:=ia) (by lia)
  refine a8 ?_;have e:a.toList.drop ia=[z]:=by rw[qDI hz,m7 (by simp;lia)];rfl
  rw[e] at m;have q:=m.lastA λy hy=>ax z (by rw[show a.size-1=ia by lia];exact hz) y (Q7 hy)
  have e2:(out++b.extract ib b.size++a.extract ia a.size).toList=out.toList++b.toList.drop ib++[z]:=by
   rw[F0,F0,qB0,qB0,e,D3 (by simp),D3 (by simp;lia)]
  rw[e2];exact q
 -- the first of b
 refine gopq λbj ag=>?_;obtain⟨y0,b4,aq,_⟩:=qC4 (a:=b) (i:=0) nb;refine ag ?_;have m0:gMR grUp (a.toList++b.toList) #[y0].toList (a.toList.drop 0) (b.toList.drop 1):=by
  have m:gMR grUp (a.toList++b.toList) [] a.toList ([y0]++b.toList.drop 1):=by
   rw[<- qDI aq];exact⟨.refl _,.nil,ua,ub,(λ_ z=>nomatch z),(λ_ z=>nomatch z)⟩
  exact m.takeB λx g y hy=>by rw[B3.mp g];exact first y0 aq y hy
 -- a step of b,a step of a
 have a3:∀{out:Array Keyed} {ia ib:Nat} {y:Keyed},gMR grUp (a.toList++b.toList) out.toList (a.toList.drop ia) (b.toList.drop ib)->b.toList[ib]?=some y->(∀x∈a.toList.drop ia,gkv y<=gkv x)->gMR grUp (a.toList++b.toList) (out.push y).toList (a.toList.drop ia) (b.toList.drop (ib+1)):=by
  intro out ia ib y m hy c;rw[qDI hy] at m;rw[Y6];exact m.takeB λx g z hz=>by rw[B3.mp g];exact c z hz
 have a4:∀{out:Array Keyed} {ia ib:Nat} {x:Keyed},gMR grUp (a.toList++b.toList) out.toList (a.toList.drop ia) (b.toList.drop ib)->a.toList[ia]?=some x->(∀y∈b.toList.drop ib,gkv x<=gkv y)->gMR grUp (a.toList++b.toList) (out.push x).toList (a.toList.drop (ia+1)) (b.toList.drop ib):=by
  intro out ia ib x m g c;rw[qDI g] at m;rw[Y6];exact m.takeA λz hz y hy=>by rw[B3.mp hz];exact c y hy
 have f:∀{l:List Keyed} {i:Nat} {x:Keyed},l.Pairwise grUp->l[i]?=some x->∀y∈l.drop i,gkv x<=gkv y:=by
  intro l i x u g y hy;have u':=u.sublist (c9 i l);rw[qDI g] at u' hy;rcases B7.mp hy with hy|hy
  ·rw[B3.mp hy];exact T8 _
  ·exact(U9.mp u').2.2 x (by simp) y hy
 have bk:∀{out:Array Keyed} {ia ib:Nat},gMR grUp (a.toList++b.toList) out.toList (a.toList.drop ia) (b.toList.drop ib)->ia<a.size->ib<b.size->ia+ib<a.size+b.size:=λ_ _ _=>by lia
 unfold gmLo;show wpS _ _ _ _ (liftM (rule "list.sort.merge-lo") >>= _) _ _;refine B77 (wpS_lift (B98 ⟨rfl,?_⟩));refine B77 (qBI b4 ?_);dsimp only;by_cases ar:b.size=1
 ·refine gifT (by simp[ar]) ?_
  refine B78 (h _ _ (.refl st) ?_);have:=v #[y0] 0 (by rw[ar];exact m0)
  rw[ar] at this ⊢;exact this
 refine gifF (by simp;lia) ?_
 by_cases b3:a.size=1
 ·refine gifT (by simp[b3]) ?_
  exact B78 (h _ _ (.refl st) (a0 #[y0] 0 1 (by lia) m0))
 refine gifF (by simp;lia) ?_
 refine B77 (C23 ?_);refine B77 (C05 (B90
  (I:=λx c st'=>gSE st st'/\∃(out:Array Keyed) (ia ib mg:Nat),c=(none,out,ia,ib,mg)/\gMR grUp (a.toList++b.toList) out.toList (a.toList.drop ia) (b.toList.drop ib)/\ia+1<a.size/\ib<b.size/\x+1<=ia+ib)
  (Q:=λc st'=>gSE st st'/\∃r rest,c=(some r,rest)/\gRes (a.toList++b.toList) r.toList) ?ostep ?ofin ⟨.refl st,_,0,1,_,rfl,m0,by lia,by lia,by lia⟩) ?opost)
 case opost=>
  refineλc st' an=>gopq λbd ab=>?_;obtain⟨d,r,rest,rfl,hr⟩:=an;refine ab ?_;exact B78 (h r st' d hr)
 case ofin=>
  refineλc st' a6=>gopq λbi ap=>?_;obtain⟨d,out,ia,ib,mg,rfl,m,h1,h2,h3⟩:=a6;refine ap ?_
  lia
 case ostep=>
  refine fun x c bl _ g am=>gopq fun bh a9=>?_;obtain ⟨d,out,ia,ib,mg,rfl,m,h1,h2,h3⟩:=am;refine a9 ?_;dsimp only;refine B77 (C05 (B90
   (I:=λy c st'=>gSE st st'/\∃(out:Array Keyed) (ia' ib' ac bc:Nat),c=(none,out,ia',ib',ac,bc)/\gMR grUp (a.toList++b.toList) out.toList (a.toList.drop ia') (b.toList.drop ib')/\ia'+1<a.size/\ib'<b.size/\ia+ib+y<=ia'+ib')
   (Q:=λc st'=>gSE st st'/\((∃r rest,c=(some r,rest)/\gRes (a.toList++b.toList) r.toList)\/∃(out:Array Keyed) (ia' ib' ac bc:Nat),c=(none,out,ia',ib',ac,bc)/\gMR grUp (a.toList++b.toList) out.toList (a.toList.drop ia') (b.toList.drop ib')/\ia'+1<a.size/\ib'<b.size/\ia+ib+1<=ia'+ib')) ?istep ?ifin ⟨d,out,ia,ib,0,0,rfl,m,h1,h2,by lia⟩) ?ipost)
  case ifin=>
   refineλc st' af=>gopq λaz ak=>?_;obtain⟨d,out,ia',ib',ac,bc,rfl,m,g1,g2,g3⟩:=af;refine ak ?_
   lia
  case istep=>
   refineλy c st' _ hy ai=>gopq λbg ad=>?_;obtain⟨d,out,ia',ib',ac,bc,rfl,m,g1,g2,g3⟩:=ai;refine ad ?_;dsimp only;refine gnm λR hR=>?_;refine gopq λbf ao=>?_;obtain⟨yb,e1,a1,mb⟩:=qC4 (a:=b) (i:=ib') g2;refine ao ?_;refine gopq λb9 ae=>?_;obtain⟨xa,e2,a2,ma⟩:=qC4 (a:=a) (i:=ia') (by lia)
   refine ae ?_;have b1:kindOf st'=κ0:=d.1.trans hk;refine B77 (qBI e1 (B77 (qBI e2 (B77 (qH5 b1 (kb _ mb) (ka _ ma) ?_)))));dsimp only;by_cases hw:gkv yb<gkv xa
   ·rw[decide_eq_true hw,if_pos rfl];refine B77 (qBI e1 ?_);have m':=a3 m a1 λx g=>by have:=f ua a2 x g;lia
    by_cases p:ib'+1=b.size
    ·refine gifT (by simp[p]) ?_
     refine B78 (hR _ _ ⟨d,.inl ⟨_,xR rfl ?_⟩⟩);rw[p] at m' ⊢;exact v _ _ m'
    ·refine gifF (by simp;exact p) ?_
     split
     ·exact B78 (hR _ _ ⟨d,.inr ⟨_,_,_,_,xR rfl ⟨m',g1,by lia,by lia⟩⟩⟩)
     ·exact B78 (hR _ _ ⟨d,_,_,_,_,xR rfl ⟨m',g1,by lia,by lia⟩⟩)
   ·rw[decide_eq_false hw,if_neg B6];refine B77 (qBI e2 ?_);have m':=a4 m a2 λy hy=>by have:=f ub a1 y hy;lia
    by_cases t:ia'+1+1=a.size
    ·refine gifT (by simp[t]) ?_
     exact B78 (hR _ _ ⟨d,.inl ⟨_,xR rfl (a0 _ _ _ t m')⟩⟩)
    ·refine gifF (by simp;exact t) ?_
     split
     ·exact B78 (hR _ _ ⟨d,.inr ⟨_,_,_,_,xR rfl ⟨m',by lia,g2,by lia⟩⟩⟩)
     ·exact B78 (hR _ _ ⟨d,_,_,_,_,xR rfl ⟨m',by lia,g2,by lia⟩⟩)
  case ipost=>
   rintro c st2 ⟨d,⟨r,rest,rfl,hr⟩|⟨out,ia1,ib1,ac,bc,rfl,m,g1,g2,g3⟩⟩
   ·exact B78 ⟨d,r,xR rfl hr⟩
   dsimp only;refine B77 (wpS_lift (B98 ⟨rfl,?_⟩));refine B77 (C05 (B90
    (I:=λy c st'=>gSE st st'/\∃(out:Array Keyed) (ia' ib' mg ac bc:Nat),c=(none,out,ia',ib',mg,ac,bc)/\gMR grUp (a.toList++b.toList) out.toList (a.toList.drop ia') (b.toList.drop ib')/\ia'+1<a.size/\ib'<b.size/\ia1+ib1+y<=ia'+ib')
    (Q:=λc st'=>gSE st st'/\((∃r rest,c=(some r,rest)/\gRes (a.toList++b.toList) r.toList)\/∃(out:Array Keyed) (ia' ib' mg ac bc:Nat),c=(none,out,ia',ib',mg,ac,bc)/\gMR grUp (a.toList++b.toList) out.toList (a.toList.drop ia') (b.toList.drop ib')/\ia'+1<a.size/\ib'<b.size/\ia1+ib1<=ia'+ib')) ?gstep ?gfin ⟨d,out,ia1,ib1,_,ac,bc,rfl,m,g1,g2,by lia⟩) ?gpost)
   case gfin=>
    refineλc st' ah=>gopq λb5 a7=>?_;obtain⟨d,out,ia',ib',mg,ac,bc,rfl,m,q1,q2,q3⟩:=ah;refine a7 ?_
    lia
   case gpost=>
    rintro c st3 ⟨d,⟨r,rest,rfl,hr⟩|⟨out,ia',ib',mg,ac,bc,rfl,m,q1,q2,q3⟩⟩
    ·exact B78 ⟨d,r,xR rfl hr⟩
    dsimp only;refine B77 (B93 (B78 ?_));exact⟨⟨d.1,d.2.1,d.2.2.1,d.2.2.2⟩,out,ia',ib',xR rfl ⟨m,q1,q2,by lia⟩⟩
   case gstep=>
    refineλy c b8 _ hy al=>gopq λb0 aa=>?_;obtain⟨d,out,ia',ib',mg,ac,bc,rfl,m,q1,q2,q3⟩:=al;refine aa ?_;dsimp only;refine gnm λR hR=>?_;refine gopq λbe a5=>?_;obtain⟨yb,e1,a1,mb⟩:=qC4 (a:=b) (i:=ib') q2;refine a5 ?_;have hm:b.toList.drop ib'=[yb]++b.toList.drop (ib'+1):=qDI a1;apply gtwo (α:=Nat) (M:=λ_=>True)
    ·intro J;by_cases au:mg>1
     ·refine gifT au ?_;refine B77 (B93 ?_);generalize mg-1=n;exact J n trivial
     ·refine gifF au ?_;refine B77 (B93 ?_);generalize mg=n;exact J n trivial
    ·intro n _;have j:gSE st b8:=d;refine B77 (qBI e1 ?_);refine B77 (qFW (left:=false) (n:=a.size-ia') (hint:=0) (d.1.trans hk) (kb _ mb) ka (by lia) (by lia) (qER (by lia) (ua.sublist (c9 _ _))) λk k1 k2 k3=>?_)
     dsimp only;have ba:∀x∈a.toList.drop (ia'+k),gkv yb<=gkv x:=λx g=>by
      have q:=qLV (base:=ia') (n:=a.size-ia') (by lia) k3 x
      rw[D3 (by simp),i8] at q
      exact A55 (q g)
     apply gtwo (α:=Array Keyed) (M:=λo=>gMR grUp (a.toList++b.toList) o.toList (a.toList.drop (ia'+k)) (b.toList.drop ib')/\ia'+k+1<a.size)
     ·intro J;by_cases k0:k>0
      ·refine gifT k0 ?_;have mk:gMR grUp (a.toList++b.toList) (out++a.extract ia' (ia'+k)).toList (a.toList.drop (ia'+k)) (b.toList.drop ib'):=by
        rw[F0,qB0,show ia'+k-ia'=k by lia]
        rw[qGJ (l:=a.toList) (i:=ia') (k:=k)] at m;exact m.takeA λx g z hz=>by
         have q1:=qOQ k1 (by lia) k2 x g
         have q2:=f ub a1 z hz;show gkv x<=gkv z
         lia
       by_cases c1:ia'+k+1=a.size
       ·refine gifT (by simp[c1]) ?_
        exact B78 (hR _ _ ⟨j,.inl ⟨_,xR rfl (a0 _ _ _ c1 mk)⟩⟩)
       refine gifF (by simp;exact c1) ?_
       by_cases c2:ia'+k=a.size
       ·refine gifT (by simp[c2]) ?_
        refine B78 (hR _ _ ⟨j,.inl ⟨_,xR rfl ?_⟩⟩);rw[c2] at mk ⊢;exact ay _ _ mk
       refine gifF (by simp;exact c2) ?_
       generalize out++a.extract ia' (ia'+k)=o at mk ⊢;exact J o ⟨mk,by lia⟩
      ·refine gifF k0 ?_;have bb:k=0:=by lia
       subst bb;exact J out ⟨m,by lia⟩
     ·rintro o ⟨mk,kp⟩;refine B77 (qBI e1 ?_);have m1:=a3 mk a1 ba;by_cases p:ib'+1=b.size
      ·refine gifT (by simp[p]) ?_
       refine B78 (hR _ _ ⟨j,.inl ⟨_,xR rfl ?_⟩⟩);rw[p] at m1 ⊢;exact v _ _ m1
      refine gifF (by simp;exact p) ?_
      refine gopq λb7 aj=>?_;obtain⟨xa,e2,a2,ma⟩:=qC4 (a:=a) (i:=ia'+k) (by lia)
      refine aj ?_;refine B77 (qBI e2 ?_);refine B77 (qFW (left:=true) (n:=b.size-(ib'+1)) (hint:=0) (d.1.trans hk) (ka _ ma) kb (by lia) (by lia) (qER (by lia) (ub.sublist (c9 _ _))) λk' j1 j2 j3=>?_)
      dsimp only;have b6:∀y∈b.toList.drop (ib'+1+k'),gkv xa<=gkv y:=λy hy=>by
       have q:=qLW (base:=ib'+1) (n:=b.size-(ib'+1)) (by lia) j3 y
       rw[D3 (by simp),i8] at q
       exact q hy
      generalize o.push yb=o1 at m1 ⊢;apply gtwo (α:=Array Keyed) (M:=λo=>gMR grUp (a.toList++b.toList) o.toList (a.toList.drop (ia'+k)) (b.toList.drop (ib'+1+k'))/\ib'+1+k'<b.size)
      ·intro J;by_cases av:k'>0
       ·rw[if_pos av];have m2:gMR grUp (a.toList++b.toList) (o1++b.extract (ib'+1) (ib'+1+k')).toList (a.toList.drop (ia'+k)) (b.toList.drop (ib'+1+k')):=by
         rw[F0,qB0,show ib'+1+k'-(ib'+1)=k' by lia]
         rw[qGJ (l:=b.toList) (i:=ib'+1) (k:=k')] at m1;exact m1.takeB λx g z hz=>by
          have q1:=qOP j1 (by lia) j2 x g
          have q2:=f ua a2 z hz;show gkv x<=gkv z
          lia
        by_cases as:ib'+1+k'=b.size
        ·refine gifT (by simp[as]) ?_
         refine B78 (hR _ _ ⟨j,.inl ⟨_,xR rfl ?_⟩⟩);rw[as] at m2 ⊢;exact v _ _ m2
        refine gifF (by simp;exact as) ?_
        generalize o1++b.extract (ib'+1) (ib'+1+k')=o2 at m2 ⊢;exact J o2 ⟨m2,by lia⟩
       ·rw[if_neg av];have aw:k'=0:=by lia
        subst aw;exact J o1 ⟨m1,by lia⟩
      ·rintro o2 ⟨m2,kp'⟩;refine B77 (qBI e2 ?_);have m3:=a4 m2 a2 b6;by_cases t:ia'+k+1+1=a.size
       ·refine gifT (by simp[t]) ?_
        exact B78 (hR _ _ ⟨j,.inl ⟨_,xR rfl (a0 _ _ _ t m3)⟩⟩)
       refine gifF (by simp;exact t) ?_
       split
       ·exact B78 (hR _ _ ⟨j,.inr ⟨_,_,_,_,_,xR rfl ⟨m3,by lia,by lia,by lia⟩⟩⟩)
       ·exact B78 (hR _ _ ⟨j,_,_,_,_,_,xR rfl ⟨m3,by lia,by lia,by lia⟩⟩)
end
end _L.G
namespace _L.G
open PySem PyProof.Rows
variable[NM]
theorem qDR {l:List Keyed} {i:Nat} {x:Keyed} (b:0<i)(h:l[i-1]?=some x):(l.take i).reverse=[x]++(l.take (i-1)).reverse:=by
 obtain⟨j,rfl⟩:∃j,i=j+1:=⟨i-1,by lia⟩
 have a:l[j]?=some x:=h;rw[E8,a,E9,Z3]
 rfl
theorem qK1 {l:List Keyed} {i j:Nat} (h:i<=j):(l.take j).reverse=((l.drop i).take (j-i)).reverse++(l.take i).reverse:=by
 rw[<- Z3];congr 1;have e:=B62 (l:=l) (i:=i) (j:=j-i);rw[show i+(j-i)=j by lia] at e
 exact e
section
variable{prog:B76}{w:World}{A:Around}{E:Aa1}{s:Shared}{κ0:C34}[LtOk prog w A s κ0]
theorem qX3 {st:SortSt} {a b:Array Keyed} {Q:Array Keyed->SortSt->Prop} (hk:kindOf st=κ0)(ka:∀x∈a.toList,gIK x)(kb:∀x∈b.toList,gIK x)(ua:a.toList.Pairwise grUp)(ub:b.toList.Pairwise grUp)(na:0<a.size)(nb:0<b.size)
  (first:∀y,b.toList[0]?=some y->∀x∈a.toList,gkv y<=gkv x) (b5:∀z,a.toList[a.size-1]?=some z->∀y∈b.toList,gkv y<=gkv z)
  (h:∀r st',gSE st st'->gRes (a.toList++b.toList) r.toList->Q r st'):wpS (model prog w) A E s (gmHi a b) Q st:=by
 have a8:∀{l:List Keyed},l.Perm (a.toList++b.toList)/\l.Pairwise grDn->gRes (a.toList++b.toList) l.reverse:=λ{l} q=>⟨(A31 l).trans q.1,b9.mpr q.2⟩;have v:∀(out:Array Keyed) (nb':Nat),gMR grDn (a.toList++b.toList) out.toList (a.toList.take 0).reverse (b.toList.take nb').reverse->gRes (a.toList++b.toList) (a.extract 0 0++b.extract 0 nb'++out.reverse).toList:=by
  intro out nb' m;have q:=a8 (gMR.allB m);have e2:(a.extract 0 0++b.extract 0 nb'++out.reverse).toList=(out.toList++(b.toList.take nb').reverse).reverse:=by
   rw[F0,F0,qB0,qB0,X9,Z3,A60];simp
  rw[e2];exact q
 have b4:∀(out:Array Keyed) (na':Nat),gMR grDn (a.toList++b.toList) out.toList (a.toList.take na').reverse (b.toList.take 0).reverse->gRes (a.toList++b.toList) (a.extract 0 na'++b.extract 0 0++out.reverse).toList:=by
  intro out na' m;have q:=a8 (gMR.allA m);have e2:(a.extract 0 na'++b.extract 0 0++out.reverse).toList=(out.toList++(a.toList.take na').reverse).reverse:=by
   rw[F0,F0,qB0,qB0,X9,Z3,A60];simp
  rw[e2];exact q
 refine gopq λba ad=>?_;obtain⟨y0,br,av,_⟩:=qC4 (a:=b) (i:=0) nb;refine ad ?_;have t:∀(out:Array Keyed) (na':Nat),gMR grDn (a.toList++b.toList) out.toList (a.toList.take na').reverse (b.toList.take 1).reverse->gRes (a.toList++b.toList) (b.extract 0 1++a.extract 0 na'++out.reverse).toList:=by
  intro out na' m;have e:(b.toList.take 1).reverse=[y0]:=by rw[qDR (by decide) av];simp
  rw[e] at m;have q:=a8 (m.symm.lastA λy hy=>first y0 av y (Q8 (j4.mp hy)));have e1:b.toList.take 1=[y0]:=by have:=congrArg List.reverse e;simpa using this
  have e2:(b.extract 0 1++a.extract 0 na'++out.reverse).toList=(out.toList++(a.toList.take na').reverse++[y0]).reverse:=by
   rw[F0,F0,qB0,qB0,X9];simp only[Z6,A19,e1];simp
  rw[e2];exact q
 refine gopq λbp ak=>?_;obtain⟨z0,bb,aw,_⟩:=qC4 (a:=a) (i:=a.size-1) (by lia)
 refine ak ?_;have m0:gMR grDn (a.toList++b.toList) #[z0].toList (a.toList.take (a.size-1)).reverse (b.toList.take b.size).reverse:=by
  have m:gMR grDn (a.toList++b.toList) [] ([z0]++(a.toList.take (a.size-1)).reverse) (b.toList.take b.size).reverse:=by
   rw[<- qDR na aw,D3 (by simp),D3 (by simp)]
   refine⟨?_,.nil,b9.mpr ua,b9.mpr ub,(λ_ z=>nomatch z),(λ_ z=>nomatch z)⟩;exact(A31 _).append (A31 _)
  exact m.takeA λx hx y hy=>by rw[B3.mp hx];exact b5 z0 aw y (Q8 (j4.mp hy))
 have a4:∀{out:Array Keyed} {na' nb':Nat} {y:Keyed},gMR grDn (a.toList++b.toList) out.toList (a.toList.take na').reverse (b.toList.take nb').reverse->0<nb'->b.toList[nb'-1]?=some y->(∀x∈(a.toList.take na').reverse,gkv x<=gkv y)->gMR grDn (a.toList++b.toList) (out.push y).toList (a.toList.take na').reverse (b.toList.take (nb'-1)).reverse:=by
  intro out na' nb' y m h0 hy c;rw[qDR h0 hy] at m;rw[Y6];exact m.takeB λx hx z hz=>by rw[B3.mp hx];exact c z hz
 have a5:∀{out:Array Keyed} {na' nb':Nat} {x:Keyed},gMR grDn (a.toList++b.toList) out.toList (a.toList.take na').reverse (b.toList.take nb').reverse->0<na'->a.toList[na'-1]?=some x->(∀y∈(b.toList.take nb').reverse,gkv y<=gkv x)->gMR grDn (a.toList++b.toList) (out.push x).toList (a.toList.take (na'-1)).reverse (b.toList.take nb').reverse:=by
  intro out na' nb' x m h0 hx c;rw[qDR h0 hx] at m;rw[Y6];exact m.takeA λz hz y hy=>by rw[B3.mp hz];exact c y hy
 have g:∀{l:List Keyed} {i:Nat} {x:Keyed},l.Pairwise grUp->0<i->l[i-1]?=some x->∀y∈(l.take i).reverse,gkv y<=gkv x:=by
  intro l i x u h0 hx y hy;have u':((l.take i).reverse).Pairwise grDn:=b9.mpr (u.sublist (n9 i l));rw[qDR h0 hx] at u' hy;rcases B7.mp hy with hy|hy
  ·rw[B3.mp hy];exact T8 _
  ·exact(U9.mp u').2.2 x (by simp) y hy
 unfold gmHi;show wpS _ _ _ _ (liftM (rule "list.sort.merge-hi") >>= _) _ _;refine B77 (wpS_lift (B98 ⟨rfl,?_⟩));refine B77 (qBI bb ?_);dsimp only;by_cases b3:a.size-1=0
 ·refine gifT (by simp[b3]) ?_
  refine B78 (h _ _ (.refl st) ?_);rw[b3] at m0 ⊢;exact v _ _ m0
 refine gifF (by simp;lia) ?_
 by_cases b1:b.size=1
 ·refine gifT (by simp[b1]) ?_
  refine B78 (h _ _ (.refl st) ?_);rw[b1] at m0 ⊢;exact t _ _ m0
 refine gifF (by simp;lia) ?_
 refine B77 (C23 ?_);refine B77 (C05 (B90
  (I:=λx c st'=>gSE st st'/\∃(na' nb':Nat) (out:Array Keyed) (mg:Nat),c=(none,na',nb',out,mg)/\gMR grDn (a.toList++b.toList) out.toList (a.toList.take na').reverse (b.toList.take nb').reverse/\(0<na'/\na'<=a.size)/\(1<nb'/\nb'<=b.size)/\na'+nb'+x+1<=a.size+b.size)
  (Q:=λc st'=>gSE st st'/\∃r rest,c=(some r,rest)/\gRes (a.toList++b.toList) r.toList) ?ostep ?ofin ⟨.refl st,_,_,_,_,rfl,m0,by lia,by lia,by lia⟩) ?opost)
 case opost=>
  refineλc st' ar=>gopq λbi ag=>?_;obtain⟨d,r,rest,rfl,hr⟩:=ar;refine ag ?_;exact B78 (h r st' d hr)
 case ofin=>
  refineλc st' aa=>gopq λbo au=>?_;obtain⟨d,na',nb',out,mg,rfl,m,h1,h2,h3⟩:=aa;refine au ?_
  lia
 case ostep=>
  refine fun x c bs _ hx aq=>gopq fun bn ae=>?_;obtain ⟨d,ay,ax,out,mg,rfl,m,h1,h2,h3⟩:=aq;refine ae ?_;dsimp only;refine B77 (C05 (B90
   (I:=λy c st'=>gSE st st'/\∃(na' nb':Nat) (out:Array Keyed) (ac bc:Nat),c=(none,na',nb',out,ac,bc)/\gMR grDn (a.toList++b.toList) out.toList (a.toList.take na').reverse (b.toList.take nb').reverse/\(0<na'/\na'<=a.size)/\(1<nb'/\nb'<=b.size)/\na'+nb'+y<=ay+ax)
   (Q:=λc st'=>gSE st st'/\((∃r rest,c=(some r,rest)/\gRes (a.toList++b.toList) r.toList)\/∃(na' nb':Nat) (out:Array Keyed) (ac bc:Nat),c=(none,na',nb',out,ac,bc)/\gMR grDn (a.toList++b.toList) out.toList (a.toList.take na').reverse (b.toList.take nb').reverse/\(0<na'/\na'<=a.size)/\(1<nb'/\nb'<=b.size)/\na'+nb'+1<=ay+ax)) ?istep ?ifin ⟨d,ay,ax,out,0,0,rfl,m,h1,h2,by lia⟩) ?ipost)
  case ifin=>
   refineλc st' aj=>gopq λb6 ao=>?_;obtain⟨d,na',nb',out,ac,bc,rfl,m,g1,g2,g3⟩:=aj;refine ao ?_
   lia
  case istep=>
   refineλy c st' _ hy am=>gopq λbl ah=>?_;obtain⟨d,na',nb',out,ac,bc,rfl,m,g1,g2,g3⟩:=am;refine ah ?_;dsimp only;refine gnm λR p=>?_;refine gopq λbk as=>?_;obtain⟨yb,e1,a0,mb⟩:=qC4 (a:=b) (i:=nb'-1) (by lia)
   refine as ?_;refine gopq λbg ai=>?_;obtain⟨xa,e2,a3,ma⟩:=qC4 (a:=a) (i:=na'-1) (by lia)
   refine ai ?_;have b8:kindOf st'=κ0:=d.1.trans hk;refine B77 (qBI e1 (B77 (qBI e2 (B77 (qH5 b8 (kb _ mb) (ka _ ma) ?_)))));dsimp only;by_cases hw:gkv yb<gkv xa
   ·rw[decide_eq_true hw,if_pos rfl];refine B77 (qBI e2 ?_);have m':=a5 m (by lia) a3 λz hz=>by have:=g ub (by lia) a0 z hz;lia
    by_cases a7:na'-1=0
    ·refine gifT (by simp[a7]) ?_
     refine B78 (p _ _ ⟨d,.inl ⟨_,xR rfl ?_⟩⟩);rw[a7] at m' ⊢;exact v _ _ m'
    ·refine gifF (by simp;lia) ?_
     split
     ·exact B78 (p _ _ ⟨d,.inr ⟨_,_,_,_,xR rfl ⟨m',by lia,by lia,by lia⟩⟩⟩)
     ·exact B78 (p _ _ ⟨d,_,_,_,_,xR rfl ⟨m',by lia,by lia,by lia⟩⟩)
   ·rw[decide_eq_false hw,if_neg B6];refine B77 (qBI e1 ?_);have m':=a4 m (by lia) a0 λz hz=>by have:=g ua (by lia) a3 z hz;lia
    by_cases a2:nb'-1=1
    ·refine gifT (by simp[a2]) ?_
     refine B78 (p _ _ ⟨d,.inl ⟨_,xR rfl ?_⟩⟩);rw[a2] at m' ⊢;exact t _ _ m'
    ·refine gifF (by simp;lia) ?_
     split
     ·exact B78 (p _ _ ⟨d,.inr ⟨_,_,_,_,xR rfl ⟨m',by lia,by lia,by lia⟩⟩⟩)
     ·exact B78 (p _ _ ⟨d,_,_,_,_,xR rfl ⟨m',by lia,by lia,by lia⟩⟩)
  case ipost=>
   rintro c st2 ⟨d,⟨r,rest,rfl,hr⟩|⟨na2,nb2,out,ac,bc,rfl,m,g1,g2,g3⟩⟩
   ·exact B78 ⟨d,r,xR rfl hr⟩
   dsimp only;refine B77 (wpS_lift (B98 ⟨rfl,?_⟩));refine B77 (C05 (B90
    (I:=λy c st'=>gSE st st'/\∃(na' nb':Nat) (out:Array Keyed) (mg ac bc:Nat),c=(none,na',nb',out,mg,ac,bc)/\gMR grDn (a.toList++b.toList) out.toList (a.toList.take na').reverse (b.toList.take nb').reverse/\(0<na'/\na'<=a.size)/\(1<nb'/\nb'<=b.size)/\na'+nb'+y<=na2+nb2)
    (Q:=λc st'=>gSE st st'/\((∃r rest,c=(some r,rest)/\gRes (a.toList++b.toList) r.toList)\/∃(na' nb':Nat) (out:Array Keyed) (mg ac bc:Nat),c=(none,na',nb',out,mg,ac,bc)/\gMR grDn (a.toList++b.toList) out.toList (a.toList.take na').reverse (b.toList.take nb').reverse/\(0<na'/\na'<=a.size)/\(1<nb'/\nb'<=b.size)/\na'+nb'<=na2+nb2)) ?gstep ?gfin ⟨d,na2,nb2,out,_,ac,bc,rfl,m,g1,g2,by lia⟩) ?gpost)
   case gfin=>
    refineλc st' al=>gopq λbd ab=>?_;obtain⟨d,na',nb',out,mg,ac,bc,rfl,m,q1,q2,q3⟩:=al;refine ab ?_
    lia
   case gpost=>
    rintro c st3 ⟨d,⟨r,rest,rfl,hr⟩|⟨na',nb',out,mg,ac,bc,rfl,m,q1,q2,q3⟩⟩
    ·exact B78 ⟨d,r,xR rfl hr⟩
    dsimp only;refine B77 (B93 (B78 ?_));exact⟨⟨d.1,d.2.1,d.2.2.1,d.2.2.2⟩,na',nb',out,xR rfl ⟨m,q1,q2,by lia⟩⟩
   case gstep=>
    refineλy c bf _ hy ap=>gopq λb7 af=>?_;obtain⟨d,na',nb',out,mg,ac,bc,rfl,m,q1,q2,q3⟩:=ap;refine af ?_;dsimp only;refine gnm λR p=>?_;refine gopq λbj a9=>?_;obtain⟨yb,e1,a0,mb⟩:=qC4 (a:=b) (i:=nb'-1) (by lia)
    refine a9 ?_;apply gtwo (α:=Nat) (M:=λ_=>True)
    ·intro J;by_cases az:mg>1
     ·refine gifT az ?_;refine B77 (B93 ?_);generalize mg-1=n;exact J n trivial
     ·refine gifF az ?_;refine B77 (B93 ?_);generalize mg=n;exact J n trivial
    ·intro n _;have f:gSE st bf:=d;refine B77 (qBI e1 ?_);refine B77 (qFW (left:=false) (base:=0) (n:=na') (hint:=na'-1) (d.1.trans hk) (kb _ mb) ka (by lia) (by lia) (qER (by lia) ua) λk k1 k2 k3=>?_)
     dsimp only;have bq:∀x∈(a.toList.take k).reverse,gkv x<=gkv yb:=λx hx=>qOQ (base:=0) k1 (by lia) k2 x (by simpa using hx)
     apply gtwo (α:=Array Keyed) (M:=λo=>gMR grDn (a.toList++b.toList) o.toList (a.toList.take k).reverse (b.toList.take nb').reverse/\0<k)
     ·intro J;by_cases k0:na'-k>0
      ·refine gifT k0 ?_;have mk:gMR grDn (a.toList++b.toList) (out++(a.extract k na').reverse).toList (a.toList.take k).reverse (b.toList.take nb').reverse:=by
        rw[F0,X9,qB0];rw[qK1 (l:=a.toList) (i:=k) (j:=na') (by lia)] at m
        exact m.takeA λx hx z hz=>by
         have q1:=qLV (base:=0) (n:=na') (by lia) k3 x (by rw[Z6,B45];exact j4.mp hx)
         have q2:=g ub (by lia) a0 z hz
         show gkv z<=gkv x
         lia
       by_cases c1:k=0
       ·refine gifT (by simp[c1]) ?_
        refine B78 (p _ _ ⟨f,.inl ⟨_,xR rfl ?_⟩⟩);subst c1;exact v _ _ mk
       refine gifF (by simp;exact c1) ?_
       generalize out++(a.extract k na').reverse=o at mk ⊢;exact J o ⟨mk,by lia⟩
      ·refine gifF k0 ?_;have bh:k=na':=by lia
       subst bh;exact J out ⟨m,by lia⟩
     ·rintro o ⟨mk,kp⟩;refine B77 (qBI e1 ?_);have m1:=a4 mk (by lia) a0 bq
      by_cases a2:nb'-1=1
      ·refine gifT (by simp[a2]) ?_
       refine B78 (p _ _ ⟨f,.inl ⟨_,xR rfl ?_⟩⟩);rw[a2] at m1 ⊢;exact t _ _ m1
      refine gifF (by simp;lia) ?_
      refine gopq λbe an=>?_;obtain⟨xa,e2,a3,ma⟩:=qC4 (a:=a) (i:=k-1) (by lia)
      refine an ?_;refine B77 (qBI e2 ?_);refine B77 (qFW (left:=true) (base:=0) (n:=nb'-1) (hint:=nb'-1-1) (d.1.trans hk) (ka _ ma) kb (by lia) (by lia) (qER (by lia) ub) λk' j1 j2 j3=>?_)
      dsimp only;have bm:∀y∈(b.toList.take k').reverse,gkv y<=gkv xa:=λy hy=>by
       have q:=qOP (base:=0) j1 (by lia) j2 y (by simpa using hy)
       lia
      generalize o.push yb=o1 at m1 ⊢;apply gtwo (α:=Array Keyed) (M:=λo=>gMR grDn (a.toList++b.toList) o.toList (a.toList.take k).reverse (b.toList.take k').reverse/\1<k')
      ·intro J;by_cases b0:nb'-1-k'>0
       ·rw[if_pos b0];have m2:gMR grDn (a.toList++b.toList) (o1++(b.extract k' (nb'-1)).reverse).toList (a.toList.take (k)).reverse (b.toList.take k').reverse:=by
         rw[F0,X9,qB0];rw[qK1 (l:=b.toList) (i:=k') (j:=nb'-1) (by lia)] at m1
         exact m1.takeB λx hx z hz=>by
          have q1:=qLW (base:=0) (n:=nb'-1) (by lia) j3 x (by rw[Z6,B45];exact j4.mp hx)
          have q2:=g ua (by lia) a3 z hz
          show gkv z<=gkv x
          lia
        by_cases a6:k'=1
        ·refine gifT (by simp[a6]) ?_
         refine B78 (p _ _ ⟨f,.inl ⟨_,xR rfl ?_⟩⟩);subst a6;exact t _ _ m2
        refine gifF (by simp;exact a6) ?_
        by_cases a1:k'=0
        ·refine gifT (by simp[a1]) ?_
         refine B78 (p _ _ ⟨f,.inl ⟨_,xR rfl ?_⟩⟩);subst a1;exact b4 _ _ m2
        refine gifF (by simp;exact a1) ?_
        generalize o1++(b.extract k' (nb'-1)).reverse=o2 at m2 ⊢;exact J o2 ⟨m2,by lia⟩
       ·rw[if_neg b0];have b2:k'=nb'-1:=by lia
        subst b2;exact J o1 ⟨m1,by lia⟩
      ·rintro o2 ⟨m2,kp'⟩;refine B77 (qBI e2 ?_);have m3:=a5 m2 (by lia) a3 bm
       by_cases a7:k-1=0
       ·refine gifT (by simp[a7]) ?_
        refine B78 (p _ _ ⟨f,.inl ⟨_,xR rfl ?_⟩⟩);rw[a7] at m3 ⊢;exact v _ _ m3
       refine gifF (by simp;lia) ?_
       split
       ·exact B78 (p _ _ ⟨f,.inr ⟨_,_,_,_,_,xR rfl ⟨m3,by lia,by lia,by lia⟩⟩⟩)
       ·exact B78 (p _ _ ⟨f,_,_,_,_,_,xR rfl ⟨m3,by lia,by lia,by lia⟩⟩)
end
end _L.G
namespace _L.G
open PySem PyProof.Rows
variable[NM]
theorem qOO (b:Nat):∀(r:List Keyed) (k:Nat) (xs:Array Keyed),b+k+r.length<=xs.size->((r.zipIdx k).foldl (λa (p:Keyed×Nat)=>a.setIfInBounds (b+p.2) p.1) xs).toList=xs.toList.take (b+k)++r++xs.toList.drop (b+k+r.length)
 |[],k,xs,_=>by simp
 |p::r,k,xs,h=>by
  have hl:b+k<xs.toList.length:=by simp at h ⊢;lia
  rw[List.zipIdx_cons,W3,qOO b r (k+1) _ (by simp at h ⊢;lia)]
  simp only[A13,J7];have e1:(xs.toList.set (b+k) p).take (b+(k+1))=xs.toList.take (b+k)++[p]:=by
   rw[<- j9,E8,List.take_set_of_le (B4 _),P6 hl]
   rfl
  have e2:(xs.toList.set (b+k) p).drop (b+(k+1)+r.length)=xs.toList.drop (b+k+(r.length+1)):=by
   rw[List.drop_set_of_lt (by lia)]
   congr 1
   lia
  rw[e1,e2];simp
def gSeg (xs:Array Keyed)(lo hi:Nat):Prop:=∀i j,lo<=i->i<=j->j<hi->gK xs i<=gK xs j
theorem qV1 {xs:Array Keyed} {i:Nat} (h:i<xs.size):gK xs i=gkv (xs[i]'h):=qZO h
theorem qK4 {xs:Array Keyed} {i:Nat} {x:Keyed} (h:xs[i]?=some x):gK xs i=gkv x:=by
 unfold gK;rw[h]
 rfl
theorem qH7 {left:Bool} {b:Keyed} {a:Array Keyed} {base i:Nat} (h:base+i<a.size):qAW left b a base i=if left=true then decide (gK a (base+i)<gkv b) else decide (gK a (base+i)<=gkv b):=by
 unfold qAW;rw[C8 h,qV1 h]
theorem qIH {left:Bool} {b:Keyed} {a:Array Keyed} {base n:Nat} (g:base+n<=a.size)(u:gSeg a base (base+n)):∀i j,i<=j->j<n->qAW left b a base j=true->qAW left b a base i=true:=by
 intro i j c d e;have f:=u (base+i) (base+j) (by lia) (by lia) (by lia)
 rw[qH7 (by lia)] at e ⊢
 cases left with
 |true=>
  have:=of_decide_eq_true e;exact decide_eq_true (by lia)
 |false=>
  have:=of_decide_eq_true e;exact decide_eq_true (by lia)
theorem qOL {xs:Array Keyed} {lo hi:Nat} (h:hi<=xs.size)(u:gSeg xs lo hi):(xs.extract lo hi).toList.Pairwise grUp:=by
 rw[R3];intro i j a b d;have e:(xs.extract lo hi).size=hi-lo:=by simp;lia
 have c:i<hi-lo:=by simp at a;lia
 have f:j<hi-lo:=by simp at b;lia
 have:=u (lo+i) (lo+j) (by lia) (by lia) (by lia)
 rw[qV1 (by lia),qV1 (by lia)] at this
 simpa using this
theorem qFX {xs:Array Keyed} {lo hi:Nat} {x:Keyed} (m:x∈(xs.extract lo hi).toList):∃j,lo<=j/\j<hi/\j<xs.size/\gK xs j=gkv x:=by
 obtain⟨i,a,e⟩:=Q2 m;have b:i<hi-lo/\i<xs.size-lo:=by simp at a;lia
 refine⟨lo+i,by lia,by lia,by lia,?_⟩
 rw[qV1 (by lia),<- e]
 simp
theorem qUZ {xs:Array Keyed} {lo hi i:Nat} {x:Keyed} (m:(xs.extract lo hi).toList[i]?=some x):gK xs (lo+i)=gkv x:=by
 obtain⟨a,e⟩:=B5.mp m;have b:i<hi-lo/\i<xs.size-lo:=by simp at a;lia
 rw[qV1 (by lia),<- e]
 simp
theorem qc4 {xs ys:Array Keyed} {b:Nat} {r:List Keyed} (e:ys.toList=xs.toList.take b++r++xs.toList.drop (b+r.length))(f:b+r.length<=xs.size)(j:Nat):
  (j<b\/b+r.length<=j->gK ys j=gK xs j)/\(b<=j->j<b+r.length->∃x,r[j-b]?=some x/\gK ys j=gkv x):=by
 have a:(xs.toList.take b).length=b:=by simp;lia
 constructor
 ·intro hj;apply qFY;rw[<- F9,<- F9,e,O3];rcases hj with hj|hj
  ·rw[O2 (by lia),A27 hj]
  ·rw[L4 (by lia),a,L4 (by lia),List.getElem?_drop]
   congr 1
   lia
 ·intro d c;refine⟨r[j-b]'(by lia),B0 _,qK4 ?_⟩
  rw[<- F9,e,O3,L4 (by lia),a,O2 (by lia)]
  exact B0 _
section
variable{prog:B76}{w:World}{A:Around}{E:Aa1}{s:Shared}{κ0:C34}[LtOk prog w A s κ0]
theorem qX1 {st a:SortSt} {Q:PUnit->SortSt->Prop} (h:Q ⟨⟩ a):wpS (model prog w) A E s (set a:StateT SortSt Sem PUnit) Q st:=by
 unfold wpS;rw[StateT.run_set];exact B74 ⟨rfl,h⟩
structure gSG (κ0:C34)(a₀:Array Keyed)(st:SortSt):Prop where
 perm:(arrOf st).Perm a₀
 kind:kindOf st=κ0
 failed:C49 st=none
theorem gSG.size {a₀:Array Keyed} {st:SortSt} (h:gSG κ0 a₀ st):(arrOf st).size=a₀.size:=h.perm.size_eq
theorem gSG.ik {a₀:Array Keyed} {st:SortSt} (h:gSG κ0 a₀ st)(b:qC7 a₀):∀x∈(arrOf st).toList,gIK x:=λx a=>b x ((d6.mp h.perm).mem_iff.mp a)
theorem qX4 {a₀:Array Keyed} {st:SortSt} {i b d p t q:Nat} {o u:List (Nat×Nat×Nat)} {Q:Bool->SortSt->Prop} (h0:qC7 a₀)(g:gSG κ0 a₀ st)
  (hp:(B79 st).toList=o++(b,d,p)::(b+d,t,q)::u) (hi:i=o.length) (ab:0<d) (af:0<t) (hsz:b+d+t<=a₀.size)
  (ua:gSeg (arrOf st) b (b+d)) (v:gSeg (arrOf st) (b+d) (b+d+t))
  (h:∀st',gSG κ0 a₀ st'->(B79 st').toList=o++(b,d+t,p)::u->gSeg (arrOf st') b (b+d+t)->(∀k,k<b\/b+d+t<=k->gK (arrOf st') k=gK (arrOf st) k)->Q true st'):
  wpS (model prog w) A E s (mergeAt' i) Q st:=by
 have p1:(B79 st)[i]?=some (b,d,p):=by
  rw[<- F9,hp,hi,L4 (B4 _),A54]
  rfl
 have p2:(B79 st)[i+1]?=some (b+d,t,q):=by
  rw[<- F9,hp,hi,L4 (by lia),show o.length+1-o.length=1 by lia]
  rfl
 have p3:(((B79 st).setIfInBounds i (b,d+t,p)).eraseIdxIfInBounds (i+1)).toList=o++(b,d+t,p)::u:=by
  rw[Array.toList_eraseIdxIfInBounds,A13,hp,hi];rw[List.set_append_right _ _ (B4 _),A54,List.eraseIdx_append_of_length_le (by lia),show o.length+1-o.length=1 by lia]
  rfl
 have size:=g.size;have ik:=g.ik h0;unfold mergeAt';refine B77 (C23 ?_);dsimp only;rw[p1,p2];dsimp only;obtain⟨kb,a9,_,ae⟩:=qC4 (a:=arrOf st) (i:=b+d) (by lia)
 have ag:gK (arrOf st) (b+d)=gkv kb:=qK4 a9;refine B77 (qX1 (B77 (qBI a9 ?_)));have g1:gSG κ0 a₀ (setPending st (((B79 st).setIfInBounds i (b,d+t,p)).eraseIdxIfInBounds (i+1))):=⟨g.perm,g.kind,g.failed⟩;show wpS _ _ _ _ (qX9 false kb (arrOf st) b d 0 >>= _) _ _;refine B77 (qFW g1.kind (ik kb ae) ik (by lia) ab (qIH (by lia) ua) λk hk h1 h2=>?_)
 have a1:∀j,b<=j->j<b+k->gK (arrOf st) j<=gkv kb:=λj n l=>by
  have e:=h1 (j-b) (by lia)
  rw[qH7 (by lia),show b+(j-b)=j by lia] at e
  exact of_decide_eq_true e
 have a2:∀j,b+k<=j->j<b+d->gkv kb<gK (arrOf st) j:=λj n l=>by
  have e:=h2 (j-b) (by lia) (by lia)
  rw[qH7 (by lia),show b+(j-b)=j by lia] at e
  have:=of_decide_eq_false e
  lia
 dsimp only;by_cases ek:d-k=0
 ·refine gifT (by simpa using ek) ?_
  refine B78 (h _ g1 p3 (λi j n f l=>?_) λ_ _=>rfl);show gK (arrOf st) i<=gK (arrOf st) j;by_cases c1:j<b+d
  ·exact ua i j n f c1
  ·by_cases c2:i<b+d
   ·have q1:=a1 i n (by lia)
    have q2:=v (b+d) j (by lia) (by lia) l
    lia
   ·exact v i j (by lia) f l
 refine gifF (by simpa using ek) ?_
 rw[show b+k+(d-k)-1=b+d-1 by lia]
 obtain⟨kz,a6,_,ac⟩:=qC4 (a:=arrOf st) (i:=b+d-1) (by lia)
 have ah:gK (arrOf st) (b+d-1)=gkv kz:=qK4 a6;refine B77 (qBI a6 ?_);show wpS _ _ _ _ (qX9 true kz (arrOf st) (b+d) t (t-1) >>= _) _ _;refine B77 (qFW g1.kind (ik kz ac) ik (by lia) (by lia) (qIH (by lia) v) λm hm h3 h4=>?_)
 have b1:∀j,b+d<=j->j<b+d+m->gK (arrOf st) j<gkv kz:=λj n l=>by
  have e:=h3 (j-(b+d)) (by lia)
  rw[qH7 (by lia),show b+d+(j-(b+d))=j by lia] at e
  exact of_decide_eq_true e
 have b2:∀j,b+d+m<=j->j<b+d+t->gkv kz<=gK (arrOf st) j:=λj n l=>by
  have e:=h4 (j-(b+d)) (by lia) (by lia)
  rw[qH7 (by lia),show b+d+(j-(b+d))=j by lia] at e
  have:=of_decide_eq_false e
  lia
 dsimp only;by_cases em:m=0
 ·refine gifT (by simpa using em) ?_
  refine B78 (h _ g1 p3 (λi j n f l=>?_) λ_ _=>rfl);show gK (arrOf st) i<=gK (arrOf st) j;by_cases c1:j<b+d
  ·exact ua i j n f c1
  ·by_cases c2:i<b+d
   ·have q1:=ua i (b+d-1) n (by lia) (by lia)
    have q2:=b2 j (by lia) l
    lia
   ·exact v i j (by lia) f l
 refine gifF (by simpa using em) ?_
 have sx:((arrOf st).extract (b+k) (b+d)).size=d-k:=by simp;lia
 have sy:((arrOf st).extract (b+d) (b+d+m)).size=m:=by simp;lia
 have ux:=qOL (xs:=arrOf st) (lo:=b+k) (hi:=b+d) (by lia) λi j n f l=>ua i j (by lia) f l
 have uy:=qOL (xs:=arrOf st) (lo:=b+d) (hi:=b+d+m) (by lia) λi j n f l=>v i j n f (by lia)
 have kx:∀x∈((arrOf st).extract (b+k) (b+d)).toList,gIK x:=λx hx=>ik x (by rw[qB0] at hx;exact Q7 (Q8 hx))
 have ky:∀x∈((arrOf st).extract (b+d) (b+d+m)).toList,gIK x:=λx hx=>ik x (by rw[qB0] at hx;exact Q7 (Q8 hx))
 have a5:∀y,((arrOf st).extract (b+d) (b+d+m)).toList[0]?=some y->∀x∈((arrOf st).extract (b+k) (b+d)).toList,gkv y<=gkv x:=by
  intro y hy x hx;have e:=qUZ hy;obtain⟨j,j1,j2,_,ej⟩:=qFX hx;have:=a2 j j1 j2;rw[Nat.add_zero] at e
  lia
 have aa:∀z,((arrOf st).extract (b+k) (b+d)).toList[((arrOf st).extract (b+k) (b+d)).size-1]?=some z->∀y∈((arrOf st).extract (b+d) (b+d+m)).toList,gkv y<=gkv z:=by
  intro z hz y hy;have e:=qUZ hz;obtain⟨j,j1,j2,_,ej⟩:=qFX hy;have:=b1 j j1 j2;rw[sx,show b+k+(d-k-1)=b+d-1 by lia] at e
  lia
 have a8:∀(r:Array Keyed) (st2:SortSt),gSE (setPending st (((B79 st).setIfInBounds i (b,d+t,p)).eraseIdxIfInBounds (i+1))) st2->gRes (((arrOf st).extract (b+k) (b+d)).toList++((arrOf st).extract (b+d) (b+d+m)).toList) r.toList->
   Q true (setArr st2 (r.toList.zipIdx.foldl (λa (p:Keyed×Nat)=>a.setIfInBounds (b+k+p.2) p.1) (arrOf st2))):=by
  rintro r st2 ⟨q1,q2,q3,q4⟩ ⟨rp,ru⟩;have a3:arrOf st2=arrOf st:=q2;have rl:r.toList.length=d-k+m:=by
   rw[rp.length_eq,A6,D6,D6,sx,sy]
  have e:=qOO (b+k) r.toList 0 (arrOf st2) (by rw[a3,rl];lia)
  rw[Nat.add_zero,a3] at e;have LK:=qc4 e (by rw[rl];lia)
  have e0:(arrOf st).toList=(arrOf st).toList.take (b+k)++(((arrOf st).extract (b+k) (b+d)).toList++((arrOf st).extract (b+d) (b+d+m)).toList)++(arrOf st).toList.drop (b+k+r.toList.length):=by
   rw[qB0,qB0,rl,show b+d-(b+k)=d-k by lia,show b+d+m-(b+d)=m by lia]
   have t1:(arrOf st).toList.drop (b+d)=((arrOf st).toList.drop (b+k)).drop (d-k):=by rw[i8];congr 1;lia
   have t2:(arrOf st).toList.drop (b+k)=((arrOf st).toList.drop (b+k)).take (d-k+m)++(arrOf st).toList.drop (b+k+(d-k+m)):=qGJ;rw[t1,<- B62,O3,<- t2,X1]
  have gp:(r.toList.zipIdx.foldl (λa (p:Keyed×Nat)=>a.setIfInBounds (b+k+p.2) p.1) (arrOf st)).Perm (arrOf st):=by
   rw[d6,e]
   conv=>rhs;rw[e0]
   exact(t0 _ rp).append_right _
  have a7:∀x∈r.toList,∀i,b<=i->i<b+k->gK (arrOf st) i<=gkv x:=by
   intro x hx i n hi;rcases B7.mp (rp.mem_iff.mp hx) with hx|hx
   ·obtain⟨j,j1,j2,_,ej⟩:=qFX hx;rw[<- ej];exact ua i j n (by lia) j2
   ·obtain⟨j,j1,j2,_,ej⟩:=qFX hx;have z1:=a1 i n hi;have z2:=v (b+d) j (by lia) j1 (by lia)
    lia
  have a4:∀x∈r.toList,∀j,b+d+m<=j->j<b+d+t->gkv x<=gK (arrOf st) j:=by
   intro x hx j n l;rcases B7.mp (rp.mem_iff.mp hx) with hx|hx
   ·obtain⟨i,j1,j2,_,ej⟩:=qFX hx;have z1:=ua i (b+d-1) (by lia) (by lia) (by lia)
    have z2:=b2 j n l
    lia
   ·obtain⟨i,j1,j2,_,ej⟩:=qFX hx;rw[<- ej];exact v i j j1 (by lia) l
  rw[a3];refine h _ ⟨gp.trans g.perm,q1.trans g.kind,q4.trans g.failed⟩ ((congrArg B13 q3).trans p3) ?_ λj l=>(LK j).1 (by rw[rl];lia)
  intro i j n f l;show gK (r.toList.zipIdx.foldl (λa (p:Keyed×Nat)=>a.setIfInBounds (b+k+p.2) p.1) (arrOf st)) i<=gK (r.toList.zipIdx.foldl (λa (p:Keyed×Nat)=>a.setIfInBounds (b+k+p.2) p.1) (arrOf st)) j;have K1:∀j,j<b+k\/b+k+(d-k+m)<=j->gK (r.toList.zipIdx.foldl (λa (p:Keyed×Nat)=>a.setIfInBounds (b+k+p.2) p.1) (arrOf st)) j=gK (arrOf st) j:=λj l=>(LK j).1 (by rw[rl];exact l)
  have K2:∀j,b+k<=j->j<b+k+(d-k+m)->∃x,r.toList[j-(b+k)]?=some x/\gK (r.toList.zipIdx.foldl (λa (p:Keyed×Nat)=>a.setIfInBounds (b+k+p.2) p.1) (arrOf st)) j=gkv x:=λj h1 h2=>(LK j).2 h1 (by rw[rl];exact h2)
  by_cases c1:i<b+k
  ·rw[K1 i (.inl c1)];by_cases c2:j<b+k
   ·rw[K1 j (.inl c2)];exact ua i j n f (by lia)
   ·by_cases c3:j<b+k+(d-k+m)
    ·obtain⟨x,ex,a0⟩:=K2 j (by lia) c3
     rw[a0];exact a7 x (D4 ex) i n c1
    ·rw[K1 j (.inr (by lia))]
     have z1:=a1 i n c1;have z2:=v (b+d) j (by lia) (by lia) l
     lia
  ·by_cases c2:i<b+k+(d-k+m)
   ·obtain⟨x,ex,a0⟩:=K2 i (by lia) c2
    rw[a0];by_cases c3:j<b+k+(d-k+m)
    ·obtain⟨y,ey,ad⟩:=K2 j (by lia) c3
     rw[ad];by_cases c4:i=j
     ·rw[c4] at ex;rw[ex] at ey;cases ey;exact T8 _
     ·obtain⟨x1,x2⟩:=B5.mp ex;obtain⟨y1,y2⟩:=B5.mp ey;have:=R3.mp ru (i-(b+k)) (j-(b+k)) x1 y1 (by lia)
      rw[x2,y2] at this;exact this
    ·rw[K1 j (.inr (by lia))]
     exact a4 x (D4 ex) j (by lia) l
   ·rw[K1 i (.inr (by lia)),K1 j (.inr (by lia))]
    exact v i j (by lia) f l
 by_cases c:d-k<=m
 ·refine gifT c ?_;show wpS _ _ _ _ (gmLo ((arrOf st).extract (b+k) (b+d)) ((arrOf st).extract (b+d) (b+d+m)) >>= _) _ _;refine B77 (qX2 g1.kind kx ky ux uy (by rw[sx];lia) (by rw[sy];lia) a5 aa λr st2 se rs=>?_)
  refine B77 (B93 (B77 (C23 (B78 ?_))));have e:(C49 st2).isNone=true:=by rw[se.2.2.2,g1.failed];rfl
  show Q (C49 st2).isNone _;rw[e];exact a8 r st2 se rs
 ·refine gifF c ?_;show wpS _ _ _ _ (gmHi ((arrOf st).extract (b+k) (b+d)) ((arrOf st).extract (b+d) (b+d+m)) >>= _) _ _;refine B77 (qX3 g1.kind kx ky ux uy (by rw[sx];lia) (by rw[sy];lia) a5 aa λr st2 se rs=>?_)
  refine B77 (B93 (B77 (C23 (B78 ?_))));have e:(C49 st2).isNone=true:=by rw[se.2.2.2,g1.failed];rfl
  show Q (C49 st2).isNone _;rw[e];exact a8 r st2 se rs
end
end _L.G
namespace _L.G
open PySem PyProof.Rows
variable[NM]
def gOut (xs ys:Array Keyed)(lo hi:Nat):Prop:=∀k,k<lo\/hi<=k->gK ys k=gK xs k
theorem gOut.refl (xs:Array Keyed)(lo hi:Nat):gOut xs xs lo hi:=λ_ _=>rfl
theorem gOut.trans {xs ys zs:Array Keyed} {lo hi:Nat} (c:gOut xs ys lo hi)(b:gOut ys zs lo hi):gOut xs zs lo hi:=λk a=>(b k a).trans (c k a)
theorem gOut.wide {xs ys:Array Keyed} {lo hi d c:Nat} (h:gOut xs ys lo hi)(a:d<=lo)(b:hi<=c):gOut xs ys d c:=λk e=>h k (by lia)
theorem gSG.lay {κ0:C34} {a₀:Array Keyed} {st:SortSt} (g:gSG κ0 a₀ st){ys:Array Keyed}(p:ys.Perm (arrOf st)):gSG κ0 a₀ (setArr st ys):=⟨p.trans g.perm,g.kind,g.failed⟩
theorem qPW {xs:Array Keyed} {i j:Nat} (a:j<=xs.size):gOut xs (mirror xs i j ((j-i)/2)) i j:=λk b=>by rw[qH9 a,if_neg (by lia)]
section
variable{prog:B76}{w:World}{A:Around}{E:Aa1}{s:Shared}{κ0:C34}[LtOk prog w A s κ0]{a₀:Array Keyed}
theorem qH4 {st:SortSt} {i j:Nat} {Q:Option Bool->SortSt->Prop} (d:qC7 a₀)(g:gSG κ0 a₀ st)(hi:i<a₀.size)(f:j<a₀.size)(h:Q (some (decide (gK (arrOf st) i<gK (arrOf st) j))) st):wpS (model prog w) A E s (ltAt' i j) Q st:=by
 have a:i<(arrOf st).size:=by rw[g.size];exact hi
 have b:j<(arrOf st).size:=by rw[g.size];exact f
 obtain⟨x,e,_,k⟩:=qC4 a;obtain⟨y,c,_,l⟩:=qC4 b;rw[qK4 e,qK4 c] at h;rw[ltAt'_eq];refine B77 (C23 ?_);exact B77 (qBI e (B77 (qBI c (qH5 g.kind (g.ik d x k) (g.ik d y l) h))))
theorem qX7 {st:SortSt} {lo n f:Nat} {Q:Bool->SortSt->Prop} (h0:qC7 a₀)(g:gSG κ0 a₀ st)(hn:lo+n<=a₀.size)(a0:f<=n)(u:gSeg (arrOf st) lo (lo+f))
  (h:∀st2,gSG κ0 a₀ st2->B79 st2=B79 st->gSeg (arrOf st2) lo (lo+n)->gOut (arrOf st) (arrOf st2) lo (lo+n)->Q true st2):wpS (model prog w) A E s (binarySort' lo n f) Q st:=by
 rw [binarySort'_eq];refine B77 (C05 (B90 (I:=fun k c st2=>c=(none,())/\gSG κ0 a₀ st2/\B79 st2=B79 st/\gSeg (arrOf st2) lo (lo+min k n)/\gOut (arrOf st) (arrOf st2) lo (lo+n))
  (Q:=λc st2=>c=(none,())/\gSG κ0 a₀ st2/\B79 st2=B79 st/\gSeg (arrOf st2) lo (lo+n)/\gOut (arrOf st) (arrOf st2) lo (lo+n)) ?step ?fin ?init) ?post)
 case post=>
  rintro c st2 ⟨rfl,g2,pe,u2,o2⟩;exact B78 (h st2 g2 pe u2 o2)
 case init=>
  refine⟨rfl,g,rfl,λi j v m y=>?_,.refl _ _ _⟩;by_cases p:f=0
  ·rw[show i=j by lia]
   exact T8 _
  ·exact u i j v m (by lia)
 case fin=>
  rintro c st2 ⟨hc,g2,pe,u2,o2⟩;rw[show min (max (max f 1) n) n=n by lia] at u2
  exact⟨hc,g2,pe,u2,o2⟩
 case step=>
  rintro k c st2 hak hkn ⟨rfl,g2,pe,u2,o2⟩;rw[show min k n=k by lia] at u2
  have t:lo+k<a₀.size:=by lia
  refine B77 (C05 (B90 (I:=fun x c a=>a=st2/\∃ l r,c=(none,l,r)/\l<=r/\r<=k/\r - l<=k - x/\
    (∀i,lo<=i->i<lo+l->gK (arrOf st2) i<=gK (arrOf st2) (lo+k))/\(∀i,lo+r<=i->i<lo+k->gK (arrOf st2) (lo+k)<gK (arrOf st2) i))
   (Q:=fun c a=>a=st2/\∃ l r,c=(none,l,r)/\l<=k/\
    (∀i,lo<=i->i<lo+l->gK (arrOf st2) i<=gK (arrOf st2) (lo+k))/\(∀i,lo+l<=i->i<lo+k->gK (arrOf st2) (lo+k)<gK (arrOf st2) i)) ?istep ?ifin ?iinit) ?ipost)
  case iinit=>exact⟨rfl,0,k,rfl,by lia,by lia,by lia,λi _ z=>by lia,λi p q=>by lia⟩
  case ifin=>
   rintro c a ⟨rfl,l,r,rfl,hlr,hrk,hm,ha,hb⟩;have e:l=r:=by lia
   rw[<- e] at hb hrk;exact⟨rfl,l,r,rfl,hrk,ha,hb⟩
  case istep=>
   rintro x c a _ hxk ⟨rfl,l,r,rfl,hlr,hrk,hm,ha,hb⟩;dsimp only;by_cases o:l>=r
   ·refine gifT o ?_;have e:l=r:=by lia
    rw[<- e] at hb hrk;exact B78 ⟨rfl,l,r,rfl,hrk,ha,hb⟩
   ·refine gifF o ?_;refine B77 (qH4 h0 g2 t (by lia) ?_)
    by_cases b:gK (arrOf a) (lo+k)<gK (arrOf a) (lo+(l+r)/2)
    ·rw[decide_eq_true b];dsimp only;refine gifT rfl ?_;refine B78 ⟨rfl,l,(l+r)/2,rfl,by lia,by lia,by lia,ha,λi p q=>?_⟩
     have:=u2 (lo+(l+r)/2) i (by lia) p q
     lia
    ·rw[decide_eq_false b];dsimp only;rw[if_neg B6];refine B78 ⟨rfl,(l+r)/2+1,r,rfl,by lia,by lia,by lia,λi h3 p=>?_,hb⟩
     have:=u2 i (lo+(l+r)/2) h3 (by lia) (by lia)
     lia
  case ipost=>
   rintro c a ⟨rfl,l,r,rfl,hlk,ha,hb⟩;have d:lo+k<(arrOf a).size:=by rw[g2.size];exact t
   show wpS _ _ _ _ (moveDown' (lo+k) (lo+l) >>= λ_=>pure (P9 (none,()))) _ _;rw[moveDown'_eq];refine B77 (B93 (B78 ⟨rfl,g2.lay (bubble_perm _ _ _),pe,?_,o2.trans ?_⟩))
   ·rw[show min (k+1) n=k+1 by lia]
    intro i j v m y;show gK (bubble (arrOf a) (lo+k) (lo+k-(lo+l))) i<=gK (bubble (arrOf a) (lo+k) (lo+k-(lo+l))) j;rw[qK5 d (by lia),qK5 d (by lia),show lo+k-(lo+k-(lo+l))=lo+l by lia]
    repeat' split
    all_goals first
     |(exfalso;lia)
     |exact T8 _
     |exact ha _ (by lia) (by lia)
     |exact A55 (hb _ (by lia) (by lia))
     |exact u2 _ _ (by lia) (by lia) (by lia)
   ·intro i z;show gK (bubble (arrOf a) (lo+k) (lo+k-(lo+l))) i=gK (arrOf a) i;rw[qK5 d (by lia),if_neg (by lia),if_neg (by lia)]
abbrev gCUp:=Option (Option Nat)×Nat
abbrev gCDn:=Option (Option Nat)×Nat×Nat
noncomputable def gupL (lo a m:Nat):gSM gCUp:=
 forIn [a:m] ((none,a):gCUp) λ_ c=>do
  let t <- ltAt' (lo+c.snd) (lo+c.snd-1)
  match t with
  |some less=>if less=true then pure (p9 (none,c.snd)) else pure (P9 (none,c.snd+1))
  |_=>pure (p9 (some none,c.snd))
noncomputable def qUX (lo n m:Nat):gSM (Option Nat):=do
 reverseSlice' lo (lo+n)
 let c <- gupL lo n m
 match c.fst with
 |some r=>pure r
 |none=>pure (some c.snd)
noncomputable def gdnL (lo n m:Nat):gSM gCDn:=
 forIn [n:m] ((none,n,0):gCDn) λ_ c=>do
  let t <- ltAt' (lo+c.snd.fst) (lo+c.snd.fst-1)
  match t with
  |some less=>
   if less=true then
    if c.snd.snd>0 then do
     reverseSlice' (lo+c.snd.fst-(c.snd.snd+1)) (lo+c.snd.fst)
     pure (P9 (none,c.snd.fst+1,0))
    else pure (P9 (none,c.snd.fst+1,0))
   else do
    let t <- ltAt' (lo+c.snd.fst-1) (lo+c.snd.fst)
    match t with
    |some more=>
     if more=true then pure (p9 (none,c.snd.fst,c.snd.snd))
     else pure (P9 (none,c.snd.fst+1,c.snd.snd+1))
    |_=>pure (p9 (some none,c.snd.fst,c.snd.snd))
  |_=>pure (p9 (some none,c.snd.fst,c.snd.snd))
noncomputable def gdnP (lo n m:Nat):gSM (Option Nat):=do
 liftM (rule "list.sort.descending-run")
 let c <- gdnL lo (n+1) m
 match c.fst with
 |some r=>pure r
 |none=>
  if c.snd.snd>0 then do
   reverseSlice' (lo+c.snd.fst-(c.snd.snd+1)) (lo+c.snd.fst)
   qUX lo c.snd.fst m
  else qUX lo c.snd.fst m
theorem qBL {α β:Type} {x y:gSM α} {f g:α->gSM β} (h:x=y)(k:∀a,f a=g a):(x >>= f)=(y >>= g):=by rw[h,show f=g from funext k]
theorem qUY (lo m:Nat):countRun' lo m=(do
  let c <- gupL lo 1 m
  match c.fst with
  |some r=>pure r
  |none=>
   if(c.snd==m)=true then pure (some c.snd)
   else if c.snd>1 then do
    let t <- ltAt' lo (lo+c.snd-1)
    match t with
    |some rose=>if rose=true then pure (some c.snd) else do
      reverseSlice' lo (lo+c.snd)
      gdnP lo c.snd m
    |_=>pure none
   else gdnP lo c.snd m):=by
 rw[countRun'_eq];unfold gdnP qUX gdnL gupL;refine qBL rfl λc=>?_;obtain⟨r,n⟩:=c;cases r with
 |some r=>rfl
 |none=>
  have f:∀c3:gCUp,(match c3.fst with|some r=>pure r|none=>pure (some c3.snd):gSM (Option Nat))=(match c3.fst with|some r=>pure r|none=>pure (some c3.snd)):=λ_=>rfl
  dsimp only
  split
  ·rfl
  ·split
   ·refine qBL rfl λx=>?_;cases x with
    |none=>rfl
    |some rose=>
     dsimp only
     split
     ·rfl
     ·refine qBL rfl λ_=>qBL rfl λ_=>qBL rfl λe=>?_;obtain⟨b,g,h⟩:=e;cases b with
      |some b=>rfl
      |none=>
       dsimp only
       split
       ·refine qBL rfl λ_=>qBL rfl λ_=>qBL rfl λc3=>?_;obtain⟨a,d⟩:=c3;cases a<;>rfl
       ·refine qBL rfl λ_=>qBL rfl λc3=>?_;obtain⟨a,d⟩:=c3;cases a<;>rfl
   ·refine qBL rfl λ_=>qBL rfl λe=>?_;obtain⟨b,g,h⟩:=e;cases b with
    |some b=>rfl
    |none=>
     dsimp only
     split
     ·refine qBL rfl λ_=>qBL rfl λ_=>qBL rfl λc3=>?_;obtain⟨a,d⟩:=c3;cases a<;>rfl
     ·refine qBL rfl λ_=>qBL rfl λc3=>?_;obtain⟨a,d⟩:=c3;cases a<;>rfl
def gFal (xs:Array Keyed)(lo hi:Nat):Prop:=∀i j,lo<=i->i<=j->j<hi->gK xs j<=gK xs i
theorem qR9 {st:SortSt} {lo a m:Nat} {Q:gCUp->SortSt->Prop} (p:qC7 a₀)(g:gSG κ0 a₀ st)(t:lo+m<=a₀.size)(v:1<=a)(e:a<=m)(u:gSeg (arrOf st) lo (lo+a))
  (h:∀n,a<=n->n<=m->gSeg (arrOf st) lo (lo+n)->(n=m\/gK (arrOf st) (lo+n)<gK (arrOf st) (lo+n-1))->Q (none,n) st):wpS (model prog w) A E s (gupL lo a m) Q st:=by
 unfold gupL;refine B90 (I:=λx c d=>d=st/\c=(none,x)/\gSeg (arrOf st) lo (lo+x)) ?step ?fin ⟨rfl,rfl,u⟩
 case fin=>
  rintro c d ⟨rfl,rfl,u2⟩;rw[show max a m=m by lia] at u2 ⊢
  exact h m e (B4 _) u2 (.inl rfl)
 case step=>
  rintro x c d hax hxn ⟨rfl,rfl,u2⟩;dsimp only;refine B77 (qH4 p g (by lia) (by lia) ?_)
  by_cases b:gK (arrOf d) (lo+x)<gK (arrOf d) (lo+x-1)
  ·rw[decide_eq_true b];dsimp only;refine gifT rfl ?_;exact B78 (h x hax (by lia) u2 (.inr b))
  ·rw[decide_eq_false b];dsimp only;rw[if_neg B6];refine B78 ⟨rfl,rfl,λi j l k r=>?_⟩;by_cases f:j<lo+x
   ·exact u2 i j l k f
   ·have q:j=lo+x:=by lia
    rw[q];by_cases o:i=lo+x
    ·rw[o];exact T8 _
    ·have:=u2 i (lo+x-1) l (by lia) (by lia)
     lia
theorem qOK {st:SortSt} {lo n m:Nat} {Q:Option Nat->SortSt->Prop} (p:qC7 a₀)(g:gSG κ0 a₀ st)(f:lo+m<=a₀.size)(e:1<=n)(c:n<=m)(u:gFal (arrOf st) lo (lo+n))
  (h:∀k st2,gSG κ0 a₀ st2->B79 st2=B79 st->1<=k->k<=m->gSeg (arrOf st2) lo (lo+k)->gOut (arrOf st) (arrOf st2) lo (lo+m)->Q (some k) st2):wpS (model prog w) A E s (qUX lo n m) Q st:=by
 unfold qUX;have a:lo+n<=(arrOf st).size:=by rw[g.size];lia
 rw[C50];refine B77 (B93 ?_);have d:gSG κ0 a₀ (setArr st (mirror (arrOf st) lo (lo+n) ((lo+n-lo)/2))):=g.lay (mirror_perm _ _ _ _);refine B77 (qR9 p d f e c ?_ λk l b q _=>B78 (h k _ d rfl (by lia) b q ((qPW a).wide (B4 _) (by lia))))
 intro i j t o r;show gK (mirror (arrOf st) lo (lo+n) ((lo+n-lo)/2)) i<=gK (mirror (arrOf st) lo (lo+n) ((lo+n-lo)/2)) j;rw[qH9 a,qH9 a,if_pos (by lia),if_pos (by lia)]
 exact u _ _ (by lia) (by lia) (by lia)
theorem qX5 {st:SortSt} {lo n m:Nat} {Q:gCDn->SortSt->Prop} (h0:qC7 a₀)(g:gSG κ0 a₀ st)(hm:lo+m<=a₀.size)(t:1<=n)(y:n<=m)(u:gFal (arrOf st) lo (lo+n))
  (h:∀k e st2,gSG κ0 a₀ st2->B79 st2=B79 st->n<=k->k<=m->gFal (arrOf st2) lo (lo+k)->e+1<=k->(∀i,lo+k-(e+1)<=i->i<lo+k->gK (arrOf st2) i=gK (arrOf st2) (lo+k-1))->gOut (arrOf st) (arrOf st2) lo (lo+m)->Q (none,k,e) st2):
  wpS (model prog w) A E s (gdnL lo n m) Q st:=by
 unfold gdnL;refine B90 (I:=fun x c st2=>∃ e,c=(none,x,e)/\gSG κ0 a₀ st2/\B79 st2=B79 st/\gFal (arrOf st2) lo (lo+x)/\e+1<=x/\
   (∀i,lo+x-(e+1)<=i->i<lo+x->gK (arrOf st2) i=gK (arrOf st2) (lo+x-1))/\gOut (arrOf st) (arrOf st2) lo (lo+m)) ?step ?fin ⟨0,rfl,g,rfl,u,by lia,λi t v=>by congr 1;lia,.refl _ _ _⟩
 case fin=>
  rintro c st2 ⟨e,rfl,g2,pe,u2,hq,he,o2⟩;rw[show max n m=m by lia] at u2 hq he ⊢
  exact h m e st2 g2 pe y (B4 _) u2 hq he o2
 case step=>
  rintro x c st2 hax hxn ⟨e,rfl,g2,pe,u2,hq,he,o2⟩;dsimp only;have o:lo+x<=(arrOf st2).size:=by rw[g2.size];lia
  refine B77 (qH4 h0 g2 (by lia) (by lia) ?_)
  by_cases b:gK (arrOf st2) (lo+x)<gK (arrOf st2) (lo+x-1)
  ·rw[decide_eq_true b];dsimp only;refine gifT rfl ?_;have a:∀ys:Array Keyed,(∀k,gK ys k=gK (arrOf st2) k)->gFal ys lo (lo+(x+1)):=by
    intro ys hk i j r f hj;rw[hk,hk];by_cases l:j<lo+x
    ·exact u2 i j r f l
    ·have z:j=lo+x:=by lia
     rw[z];by_cases p:i=lo+x
     ·rw[p];exact T8 _
     ·have:=u2 i (lo+x-1) r (by lia) (by lia)
      lia
   by_cases d:e>0
   ·rw[if_pos d,C50];refine B77 (B93 (B78 ⟨0,rfl,g2.lay (mirror_perm _ _ _ _),pe,a _ (qBA o he),by lia,λi t v=>by congr 1;lia,o2.trans ?_⟩))
    exactλk _=>qBA o he k
   ·refine gifF d ?_;exact B78 ⟨0,rfl,g2,pe,a _ (λ_=>rfl),by lia,λi t v=>by congr 1;lia,o2⟩
  ·rw[decide_eq_false b];dsimp only;rw[if_neg B6];refine B77 (qH4 h0 g2 (by lia) (by lia) ?_)
   by_cases q:gK (arrOf st2) (lo+x-1)<gK (arrOf st2) (lo+x)
   ·rw[decide_eq_true q];dsimp only;refine gifT rfl ?_;exact B78 (h x e st2 g2 pe hax (by lia) u2 hq he o2)
   ·rw[decide_eq_false q];dsimp only;rw[if_neg B6];have ex:gK (arrOf st2) (lo+x)=gK (arrOf st2) (lo+x-1):=by lia
    refine B78 ⟨e+1,rfl,g2,pe,λi j r f hj=>?_,by lia,λi t v=>?_,o2⟩
    ·by_cases l:j<lo+x
     ·exact u2 i j r f l
     ·have z:j=lo+x:=by lia
      rw[z];by_cases p:i=lo+x
      ·rw[p];exact T8 _
      ·rw[ex];exact u2 i (lo+x-1) r (by lia) (by lia)
    ·rw[show lo+(x+1)-1=lo+x by lia]
     by_cases p:i=lo+x
     ·rw[p]
     ·rw[ex];exact he i (by lia) (by lia)
theorem qRA {st:SortSt} {lo n m:Nat} {Q:Option Nat->SortSt->Prop} (p:qC7 a₀)(g:gSG κ0 a₀ st)(x:lo+m<=a₀.size)(o:n+1<=m)(u:gFal (arrOf st) lo (lo+(n+1)))
  (h:∀k st2,gSG κ0 a₀ st2->B79 st2=B79 st->1<=k->k<=m->gSeg (arrOf st2) lo (lo+k)->gOut (arrOf st) (arrOf st2) lo (lo+m)->Q (some k) st2):wpS (model prog w) A E s (gdnP lo n m) Q st:=by
 unfold gdnP;refine B77 (wpS_lift (B98 ⟨rfl,?_⟩));refine B77 (qX5 p g x (by lia) o u λk e st2 q pe a0 f u2 hq y o2=>?_)
 dsimp only;have b:lo+k<=(arrOf st2).size:=by rw[q.size];lia
 by_cases a:e>0
 ·rw[if_pos a,C50];refine B77 (B93 (qOK p (q.lay (mirror_perm _ _ _ _)) x (by lia) f ?_ λk2 c r d t a2 v l=>h k2 c r (d.trans pe) t a2 v ?_))
  ·intro i j hl z hj;show gK (mirror (arrOf st2) _ _ _) j<=gK (mirror (arrOf st2) _ _ _) i;rw[qBA b y,qBA b y];exact u2 i j hl z hj
  ·exact o2.trans (gOut.trans (λk _=>qBA b y k) l)
 ·refine gifF a ?_;exact qOK p q x (by lia) f u2 λk2 c r d t a2 v l=>h k2 c r (d.trans pe) t a2 v (o2.trans l)
theorem qX6 {st:SortSt} {lo m:Nat} {Q:Option Nat->SortSt->Prop} (t:qC7 a₀)(g:gSG κ0 a₀ st)(x:lo+m<=a₀.size)(h1:1<=m)
  (h:∀k st2,gSG κ0 a₀ st2->B79 st2=B79 st->1<=k->k<=m->gSeg (arrOf st2) lo (lo+k)->gOut (arrOf st) (arrOf st2) lo (lo+m)->Q (some k) st2):wpS (model prog w) A E s (countRun' lo m) Q st:=by
 rw[qUY];refine B77 (qR9 t g x (B4 1) h1 (λi j c o hj=>by rw[show i=j by lia];exact T8 _) λn q p u or=>?_)
 dsimp only;by_cases e:n=m
 ·refine gifT (by simpa using e) ?_
  exact B78 (h n st g rfl q p u (.refl _ _ _))
 ·refine gifF (by simpa using e) ?_
  have f:gK (arrOf st) (lo+n)<gK (arrOf st) (lo+n-1):=or.resolve_left e;by_cases l:n>1
  ·refine gifT l ?_;refine B77 (qH4 t g (by lia) (by lia) ?_)
   by_cases b:gK (arrOf st) lo<gK (arrOf st) (lo+n-1)
   ·rw[decide_eq_true b];dsimp only;refine gifT rfl ?_;exact B78 (h n st g rfl q p u (.refl _ _ _))
   ·rw[decide_eq_false b];dsimp only;rw[if_neg B6,C50];have d:lo+n<=(arrOf st).size:=by rw[g.size];lia
    have a:∀k,lo<=k->k<lo+n->gK (arrOf st) k=gK (arrOf st) (lo+n-1):=by
     intro k c hk;have z:=u lo k (by lia) c hk
     have a2:=u k (lo+n-1) c (by lia) (by lia)
     lia
    refine B77 (B93 (qRA t (g.lay (mirror_perm _ _ _ _)) x (by lia) ?_ λk st2 g2 pe z a2 u2 o2=>h k st2 g2 pe z a2 u2 (gOut.trans (λk _=>qBA d a k) o2)))
    intro i j c o hj;show gK (mirror (arrOf st) _ _ _) j<=gK (mirror (arrOf st) _ _ _) i;rw[qBA d a,qBA d a];by_cases y:j<lo+n
    ·rw[a i c (by lia),a j (by lia) y]
     exact T8 _
    ·have v:j=lo+n:=by lia
     rw[v];by_cases r:i=lo+n
     ·rw[r];exact T8 _
     ·rw[a i c (by lia)]
      exact A55 f
  ·refine gifF l ?_;have e1:n=1:=by lia
   rw[e1] at f;rw[e1];refine qRA t g x (by lia) ?_ h
   intro i j c o hj;by_cases r:i=j
   ·rw[r];exact T8 _
   ·have r:i=lo:=by lia
    have v:j=lo+1:=by lia
    rw[r,v];exact A55 f
end
end _L.G
namespace _L.G
open PySem PyProof.Rows
variable[NM]
def qD8 (xs:Array Keyed):List (Nat×Nat×Nat)->Nat->Nat->Prop
 |[],a,b=>a=b
 |r::rs,a,b=>r.1=a/\0<r.2.1/\gSeg xs a (a+r.2.1)/\qD8 xs rs (a+r.2.1) b
theorem qJ1 {xs:Array Keyed} :∀{l:List (Nat×Nat×Nat)} {a b:Nat},qD8 xs l a b->a+l.length<=b
 |[],a,b,h=>by
  have:a=b:=h;simp
  lia
 |r::rs,a,b,h=>by
  have:=qJ1 h.2.2.2;have:=h.2.1;simp
  lia
theorem gruns_app {xs:Array Keyed} :∀{l m:List (Nat×Nat×Nat)} {a b:Nat},qD8 xs (l++m) a b↔∃c,qD8 xs l a c/\qD8 xs m c b
 |[],m,a,b=>⟨λh=>⟨a,rfl,h⟩,λ⟨c,e,h⟩=>by cases(show a=c from e);exact h⟩
 |r::rs,m,a,b=>by
  constructor
  ·rintro⟨h1,h2,h3,h4⟩;obtain⟨c,q1,q2⟩:=gruns_app.mp h4;exact⟨c,⟨h1,h2,h3,q1⟩,q2⟩
  ·rintro⟨c,⟨h1,h2,h3,q1⟩,q2⟩;exact⟨h1,h2,h3,gruns_app.mpr ⟨c,q1,q2⟩⟩
theorem qK2 {xs ys:Array Keyed} :∀{l:List (Nat×Nat×Nat)} {a b:Nat},(∀k,a<=k->k<b->gK ys k=gK xs k)->qD8 xs l a b->qD8 ys l a b
 |[],a,b,_,h=>h
 |r::rs,a,b,e,h=>by
  have le:=qJ1 h.2.2.2;refine⟨h.1,h.2.1,λi j hl hij hj=>?_,qK2 (λk h1 h2=>e k (by lia) h2) h.2.2.2⟩
  rw[e i hl (by lia),e j (by lia) (by lia)]
  exact h.2.2.1 i j hl hij hj
theorem qUW {α:Type} :∀{l:List α} {i:Nat},i+1<l.length->∃pre x y post,l=pre++x::y::post/\pre.length=i
 |[],_,h=>by simp at h
 |[x],_,h=>by simp at h
 |x::y::r,0,_=>⟨[],x,y,r,rfl,rfl⟩
 |x::y::r,i+1,h=>by
  obtain⟨pre,a,b,post,e,el⟩:=qUW (l:=y::r) (i:=i) (by simp at h ⊢;lia)
  exact⟨x::pre,a,b,post,by rw[e];rfl,by simp[el]⟩
section
variable{prog:B76}{w:World}{A:Around}{E:Aa1}{s:Shared}{κ0:C34}[LtOk prog w A s κ0]{a₀:Array Keyed}
theorem qI1 {st:SortSt} {i b:Nat} {Q:Bool->SortSt->Prop} (h0:qC7 a₀)(g:gSG κ0 a₀ st)(r:qD8 (arrOf st) (B79 st).toList 0 b)(hb:b<=a₀.size)(hi:i+1<(B79 st).size)
  (h:∀st2,gSG κ0 a₀ st2->qD8 (arrOf st2) (B79 st2).toList 0 b->(B79 st2).size+1=(B79 st).size->(∀k,b<=k->gK (arrOf st2) k=gK (arrOf st) k)->Q true st2):wpS (model prog w) A E s (mergeAt' i) Q st:=by
 obtain⟨a0,⟨d,n,p⟩,⟨sb,j,q⟩,a,e,el⟩:=qUW (l:=(B79 st).toList) (i:=i) (by simpa using hi)
 rw[e] at r;obtain⟨c,r1,r2⟩:=gruns_app.mp r;obtain⟨y,z,x3,v,y2,x,m⟩:=r2;dsimp only at y z x3 v y2 x m;subst y;subst v;have le:=qJ1 m;refine qX4 h0 g e el.symm z y2 (by lia) x3 x λst2 g2 t u o=>h st2 g2 ?_ ?_ λk f=>o k (.inr (by lia))
 ·rw[t];refine gruns_app.mpr ⟨d,qK2 (λk _ f=>o k (.inl f)) r1,rfl,by show 0<n+j;lia,?_,?_⟩
  ·show gSeg _ d (d+(n+j));rw[<- j9];exact u
  ·show qD8 _ a (d+(n+j)) b;rw[<- j9];exact qK2 (λk f _=>o k (.inr f)) m
 ·have l1:=congrArg Z1 t;have l2:=congrArg Z1 e;simp at l1 l2
  lia
theorem qON (f:Nat×Nat×Nat->Nat×Nat×Nat)(y:Nat×Nat×Nat):∀l:List (Nat×Nat×Nat),(l++[y]).modify l.length f=l++[f y]
 |[]=>rfl
 |z::l=>by
  show z::(l++[y]).modify l.length f=z::(l++[f y]);rw[qON f y l]
theorem qOM {xs:Array Keyed} {p:Array (Nat×Nat×Nat)} {b pw:Nat} {f:Nat×Nat×Nat->Nat×Nat×Nat} (d:∀y,(f y).1=y.1/\(f y).2.1=y.2.1)(r:qD8 xs p.toList 0 b):qD8 xs (p.modify (p.size-1) f).toList 0 b:=by
 rw[Array.toList_modify,<- D6];generalize p.toList=l at r;rcases List.eq_nil_or_concat l with e|⟨l',y,e⟩
 ·rw[e] at r ⊢;exact r
 ·rw[e] at r ⊢;rw[List.concat_eq_append] at r ⊢;obtain⟨c,m,n⟩:=gruns_app.mp r;rw[A6,C1,A92,qON];refine gruns_app.mpr ⟨c,m,?_⟩;obtain⟨h,i,k,j⟩:=n;have g:=(d y).1;have a:=(d y).2;refine⟨g.trans h,by rw[a];exact i,by rw[a];exact k,by rw[a];exact j⟩
theorem qUV {st:SortSt} {Q:Unit->SortSt->Prop} (z:qC7 a₀)(g:gSG κ0 a₀ st)(hp:B79 st=#[])(h:∀st2,gSG κ0 a₀ st2->qH8 (arrOf st2) a₀.size->Q () st2):wpS (model prog w) A E s sortRuns' Q st:=by
 rw [sortRuns'_eq];refine B77 (C23 ?_);dsimp only;rw [g.size];refine B77 (C05 (B90
  (I:=λx c st2=>∃lo,c=(none,lo)/\x<=lo/\lo<=a₀.size/\gSG κ0 a₀ st2/\qD8 (arrOf st2) (B79 st2).toList 0 lo)
  (Q:=λc st2=>c.1=none/\gSG κ0 a₀ st2/\qD8 (arrOf st2) (B79 st2).toList 0 a₀.size) ?step ?fin ⟨0,rfl,B4 _,J5 _,g,by rw[hp];rfl⟩) ?post)
 case fin=>
  rintro c st2 ⟨lo,rfl,h1,h2,g2,r2⟩;have e:lo=a₀.size:=by lia
  rw[e] at r2;exact⟨rfl,g2,r2⟩
 case post=>
  rintro ⟨c,lo⟩ st2 ⟨e,g2,r2⟩;cases (show c=none from e);dsimp only;have le:=qJ1 r2;refine B77 (C05 (B90 (I:=fun x c b=>c=(none,())/\gSG κ0 a₀ b/\qD8 (arrOf b) (B79 b).toList 0 a₀.size/\(B79 b).size+x<=a₀.size)
   (Q:=λc b=>c=(none,())/\gSG κ0 a₀ b/\qD8 (arrOf b) (B79 b).toList 0 a₀.size/\(B79 b).size<=1) ?_ ?_ ⟨rfl,g2,r2,by simpa using le⟩) ?_)
  ·rintro x c b _ _ ⟨rfl,g3,r3,le3⟩;refine B77 (C23 ?_);by_cases y:(B79 b).size<=1
   ·rw[if_pos y];exact B78 ⟨rfl,g3,r3,y⟩
   ·rw[if_neg y];refine B77 (qI1 z g3 r3 (B4 _) ?_ λm g4 r4 l4 _=>?_)
    ·repeat' split
     all_goals lia
    ·rw[if_neg (by simp)]
     exact B78 ⟨rfl,g4,r4,by lia⟩
  ·rintro c b ⟨e,g3,r3,le3⟩;exact⟨e,g3,r3,by lia⟩
  ·rintro c b ⟨rfl,g3,r3,le3⟩;refine B78 (h b g3 ?_);have l3:(B79 b).toList.length<=1:=by simpa using le3
   generalize (B79 b).toList=l at r3 l3
   match l,r3,l3 with
   |[],r3,_=>
    have e:0=a₀.size:=r3;intro i j _ o
    lia
   |[r],r3,_=>
    have e:0+r.2.1=a₀.size:=r3.2.2.2;intro i j f o;exact r3.2.2.1 i j (J5 _) f (by lia)
   |_::_::_,_,l3=>simp at l3
 case step=>
  rintro x c st2 _ hx ⟨lo,rfl,hxl,hlo,g2,r2⟩;dsimp only;by_cases y:lo>=a₀.size
  ·rw[if_pos y];have e:lo=a₀.size:=by lia
   rw[e] at r2;exact B78 ⟨rfl,g2,r2⟩
  rw[if_neg y];refine B77 (qX6 z g2 (by lia) (by lia) λk b g3 a3 k1 k2 u3 o3=>?_)
  have r3:qD8 (arrOf b) (B79 b).toList 0 lo:=by
   rw[a3];exact qK2 (λj _ o=>o3 j (.inl o)) r2
  dsimp only;have d:∀(st5:SortSt) (n:Nat),gSG κ0 a₀ st5->1<=n->lo+n<=a₀.size->gSeg (arrOf st5) lo (lo+n)->qD8 (arrOf st5) (B79 st5).toList 0 lo->
    gSG κ0 a₀ (setPending st5 ((B79 st5).push (lo,n,0)))/\qD8 (arrOf st5) ((B79 st5).push (lo,n,0)).toList 0 (lo+n):=by
   intro st5 n g5 h1 h2 u5 r5;refine⟨⟨g5.perm,g5.kind,g5.failed⟩,?_⟩;rw[Y6];exact gruns_app.mpr ⟨lo,r5,rfl,h1,u5,rfl⟩
  by_cases c2:k<minRun' a₀.size a₀.size 0
  ·rw[if_pos c2];refine B77 (wpS_lift (B98 ⟨rfl,?_⟩));refine B77 (qX7 z g3 (by lia) (by lia) u3 λm g4 a0 u4 o4=>?_)
   have r4:qD8 (arrOf m) (B79 m).toList 0 lo:=by
    rw[a0];exact qK2 (λj _ o=>o4 j (.inl o)) r3
   rw[if_neg (by simp)]
   refine B77 (C23 ?_);cases eb:(B79 m).back? with
   |none=>
    dsimp only;refine B77 (B93 (B78 ?_));obtain⟨u,v⟩:=d m (min (a₀.size-lo) (minRun' a₀.size a₀.size 0)) g4 (by lia) (by lia) u4 r4
    exact xR rfl ⟨by lia,by lia,u,v⟩
   |some t=>
    obtain ⟨s1,p,q1⟩:=t;dsimp only;refine B77 (C05 (B90 (I:=fun _ c a=>c=(none,())/\gSG κ0 a₀ a/\qD8 (arrOf a) (B79 a).toList 0 lo/\gSeg (arrOf a) lo (lo+(min (a₀.size - lo) (minRun' a₀.size a₀.size 0))))
     (Q:=λc a=>c=(none,())/\gSG κ0 a₀ a/\qD8 (arrOf a) (B79 a).toList 0 lo/\gSeg (arrOf a) lo (lo+(min (a₀.size-lo) (minRun' a₀.size a₀.size 0)))) ?_ (λ_ _ q=>q) ⟨rfl,g4,r4,u4⟩) ?_)
    ·rintro x c a _ _ ⟨rfl,g6,r6,u6⟩;refine B77 (C23 ?_);by_cases c7:(B79 a).size>1
     ·rw[if_pos c7];cases ep:(B79 a)[(B79 a).size-2]? with
      |none=>
       dsimp only;exact B78 ⟨rfl,g6,r6,u6⟩
      |some t=>
       obtain⟨s2,n2,a2⟩:=t;dsimp only
       split
       ·exact B78 ⟨rfl,g6,r6,u6⟩
       ·refine B77 (qI1 z g6 r6 (by lia) (by lia) λa1 g7 r7 _ o7=>?_)
        rw[if_neg (by simp)]
        refine B78 ⟨rfl,g7,r7,λi j hl f o=>?_⟩;rw[o7 i hl,o7 j (by lia)]
        exact u6 i j hl f o
     ·rw[if_neg c7];exact B78 ⟨rfl,g6,r6,u6⟩
    ·rintro c a ⟨rfl,g6,r6,u6⟩;dsimp only;refine B77 (B93 (B77 (B93 (B78 ?_))));obtain⟨u,v⟩:=d (setPending a ((B79 a).modify ((B79 a).size-1) λx=>(x.fst,x.2.fst,power' a₀.size (2*s1+p) (2*s1+p+p+(min (a₀.size-lo) (minRun' a₀.size a₀.size 0))) a₀.size))) (min (a₀.size-lo) (minRun' a₀.size a₀.size 0)) ⟨g6.perm,g6.kind,g6.failed⟩ (by lia) (by lia) u6 (qOM (pw:=0) (λ_=>⟨rfl,rfl⟩) r6)
     exact xR rfl ⟨by lia,by lia,u,v⟩
  ·rw[if_neg c2];refine B77 (C23 ?_);cases eb:(B79 b).back? with
   |none=>
    dsimp only;refine B77 (B93 (B78 ?_));obtain⟨u,v⟩:=d b k g3 (by lia) (by lia) u3 r3
    exact xR rfl ⟨by lia,by lia,u,v⟩
   |some t=>
    obtain ⟨s1,p,q1⟩:=t;dsimp only;refine B77 (C05 (B90 (I:=fun _ c a=>c=(none,())/\gSG κ0 a₀ a/\qD8 (arrOf a) (B79 a).toList 0 lo/\gSeg (arrOf a) lo (lo+k))
     (Q:=λc a=>c=(none,())/\gSG κ0 a₀ a/\qD8 (arrOf a) (B79 a).toList 0 lo/\gSeg (arrOf a) lo (lo+k)) ?_ (λ_ _ q=>q) ⟨rfl,g3,r3,u3⟩) ?_)
    ·rintro x c a _ _ ⟨rfl,g6,r6,u6⟩;refine B77 (C23 ?_);by_cases c7:(B79 a).size>1
     ·rw[if_pos c7];cases ep:(B79 a)[(B79 a).size-2]? with
      |none=>
       dsimp only;exact B78 ⟨rfl,g6,r6,u6⟩
      |some t=>
       obtain⟨s2,n2,a2⟩:=t;dsimp only
       split
       ·exact B78 ⟨rfl,g6,r6,u6⟩
       ·refine B77 (qI1 z g6 r6 (by lia) (by lia) λa1 g7 r7 _ o7=>?_)
        rw[if_neg (by simp)]
        refine B78 ⟨rfl,g7,r7,λi j hl f o=>?_⟩;rw[o7 i hl,o7 j (by lia)]
        exact u6 i j hl f o
     ·rw[if_neg c7];exact B78 ⟨rfl,g6,r6,u6⟩
    ·rintro c a ⟨rfl,g6,r6,u6⟩;dsimp only;refine B77 (B93 (B77 (B93 (B78 ?_))));obtain⟨u,v⟩:=d (setPending a ((B79 a).modify ((B79 a).size-1) λx=>(x.fst,x.2.fst,power' a₀.size (2*s1+p) (2*s1+p+p+k) a₀.size))) k ⟨g6.perm,g6.kind,g6.failed⟩ (by lia) (by lia) u6 (qOM (pw:=0) (λ_=>⟨rfl,rfl⟩) r6)
     exact xR rfl ⟨by lia,by lia,u,v⟩
end
end _L.G
namespace _L
open PySem PySem.Spec PyProof.Rows
variable{X:Cx}
theorem qFA (c:X.A.units<cLine):OpR X (B94 .NotEq) (λx y H Q=>∃p l xs,x=.ref p/\y=.ref l/\SqL X.K H p xs/\SqL X.K H l []/\Q (.bl (!xs.isEmpty)) H):=by
 intro Ab s σ H x y v u Q I m k h;obtain⟨p,l,xs,rfl,rfl,i,n,q⟩:=h;cases m;cases k;obtain⟨o,g,f,w⟩:=I.list i;obtain⟨b,t,d,z⟩:=I.list n;cases t;cases g with
 |nil=>exact B53 (e:=λ_=>true) f.isList d.isList rfl c (λj h _=>absurd h (by simp)) _ _ _ _ ⟨.bl false,H,I,rfl,q⟩
 |cons a r=>exact A98 f.isList d.isList (by simp) c _ _ _ _ ⟨.bl true,H,I,rfl,q⟩
open PySem.AutoSeq1 in
section
variable{prog:B76}{w:World}{A:Around}{E:Aa1}{s:Shared}
theorem qOZ {id:String} {b:Builtin} {a:List Value} {c:List (Str×Value)} {Q:Aa1} (j:builtinKind id=none)(l:plainId id=true)(i:entryFor table id=some b)(m:argsOk id ⟨a,c⟩)
  (h:wpAny (model prog w) A.in1 (b ⟨a,c⟩) (λfin s'=>∃c',fin=.again c'/\c'.quiet=true/\C14 (model prog w) A c' (λr s'=>∃v,r=.ok (.ret v)/\Q v s') s') E s):wpAny (model prog w) A (call (.builtin id) a c) Q E s:=by
 refine C19 (C33 l i ?_);have d:=B83 h (Q':=fun fin s'=>match fin with
   |.done f=>(match(Except.ok f:Result) with|.ok (.ret v)=>Q v s'|.ok _=>False|.error e=>E e s')
   |.again c'=>c'.quiet=true/\C14 (model prog w) A c' (λr s'=>match r with|.ok (.ret v)=>Q v s'|.ok _=>False|.error e=>E e s') s')
  (λfin s' ⟨c',e,h1,d⟩=>by subst e;exact⟨h1,B99 d λr s' ⟨v,e,q⟩=>by subst e;exact q⟩) λ_ _ k=>k
 simp only[checkBuiltinCall,j];cases sg:Manifest.signature? id with
 |none=>exact B74 d
 |some sig=>
  have g:Bind.checkArgs id sig ⟨a,c⟩=pure ():=by simpa only[argsOk,sg] using m
  simp only[g];exact B74 d
end
theorem qQU {α β:Type} {F:α->β->Prop} :∀{l₁:List α} {l₂:List β} {i:Nat} {a:α},Paired F l₁ l₂->l₁[i]?=some a->∃b,l₂[i]?=some b/\F a b
 |_,_,_,_,.nil,e=>by simp at e
 |_,_,0,_,.cons r _,e=>by simp at e;subst e;exact⟨_,rfl,r⟩
 |_,_,i+1,a,.cons _ t,e=>by
  obtain⟨b,h1,h2⟩:=qQU (i:=i) (a:=a) t (by simpa using e)
  exact⟨b,by simpa using h1,h2⟩
def qd9 (K:Ab1):R2:=λx y H Q=>∃a b xs ys,x=.ref a/\y=.ref b/\SqT K H a xs/\SqT K H b ys/\ys≠[]/\xs.length+ys.length<=B75/\(xs=[]->Q (.ref b) H)/\(xs≠[]->∀p,H p=none->Q (.ref p) (Ag H p (.tup (xs++ys))))
theorem qZ9:OpR X (C13 .Add) (qd9 X.K):=by
 intro Ab s σ H x y v u Q I q w h;obtain⟨a,b,t,ys,rfl,rfl,ha,p,hy,hz,q1,q2⟩:=h;by_cases k:t=[]
 ·subst k;cases q;cases w;obtain⟨a0,r1,p1,_⟩:=I.tuple ha;obtain⟨c,r2,p2,_⟩:=I.tuple p;cases r1;obtain⟨⟨a1,dd,o,sl⟩,ho,l,n,m⟩:=id p1;obtain⟨⟨r,g,i,j⟩,e,f,n2,d⟩:=id p2;simp only at l m f d;subst l m f d;exact concat_meets ⟨_,ho,rfl⟩ ⟨_,e,rfl⟩ noFill_tuple_add seq_tuple_add m6 k8 (j7 _ _) (tuple_addW0 a b #[] c.toArray n n2 dd g sl j rfl) ⟨ho,e,.ref b,H,I,rfl,q1 rfl⟩
 ·exact qU3 Ab s σ H (.ref a) (.ref b) v u Q I q w ⟨a,b,t,ys,rfl,rfl,ha,p,k,hz,λz=>absurd z hy,λ_=>q2 k⟩
open PySem
noncomputable def g5:Nat->Nat
 |0=>0
 |n+1=>5*g5 n+1
structure TabG (byText:Bool×Bool)(t:C24)(n:Nat):Prop where
 pow:∃k,3<=k/\t.mask+1=2^k
 dum:t.dummies=#[]
 plain:t.plain=byText.2
 led:t.led=!byText.1
 size:t.place.size=n
 up:t.place.toList.Pairwise (·<·)
 le:∀j∈t.place.toList,j<=t.mask
structure Own (N:Nat)(L:List Nat)(owner:Array (Option Nat)):Prop where
 size:owner.size=N
 nd:L.Nodup
 lt:∀j∈L,j<N
 at_:∀(m j:Nat),L[m]?=some j->owner[j]?=some (some m)
 no:∀j,j<N->j∉L->owner[j]?=some none
def qd7 (K:Ab1):R2:=λx y H Q=>∃a b xs ys,x=.ref a/\y=.ref b/\SqT K H a xs/\SqT K H b ys/\((xs≠[]/\H a=some (.tup xs))\/(ys≠[]/\H b=some (.tup ys)))/\xs.length+ys.length<=B75/\∀p H',Same H H'->H' p=some (.tup (xs++ys))->Q (.ref p) H'
theorem qDP:OpR X (C13 .Add) (qd7 X.K):=by
 intro k s σ H x y v u Q I i f h;obtain⟨a,b,c,d,rfl,rfl,m,g,n,l,q⟩:=h;have j:∀p,H p=none->Q (.ref p) (Ag H p (.tup (c++d))):=λp t=>q p _ (λb u e=>by rw[qAB (qA7 e t)];exact e) qA1
 rcases n with⟨w,o⟩|⟨hy,r⟩
 ·exact qU3 k s σ H (.ref a) (.ref b) v u Q I i f ⟨a,b,c,d,rfl,rfl,m,g,w,l,λz=>q a H (λ_ _ e=>e) (by rw[z,M4];exact o),λ_=>j⟩
 ·exact qZ9 k s σ H (.ref a) (.ref b) v u Q I i f ⟨a,b,c,d,rfl,rfl,m,g,hy,l,λz=>q b H (λ_ _ e=>e) (by rw[z];exact r),λ_=>j⟩
structure Ex (B:Heap)(l:List Env)(e:Addr)(cls:Value)(dd:Option Addr)(nt:Bool)(h:Heap):Prop where
 stays:B.StaysIn h
 new:B.get? e=none
 frames:h.FunFrames B l
 rec_:∃(oe:Obj) (vs:Array Value) (x1:Value),h.get? e=some oe/\oe.cls=cls/\oe.dict=dd/\oe.data=.fields vs/\vs[1]?=some x1/\
  ((x1=.none/\nt=false)\/∃(T:Addr) (oT:Obj) (ts:Array Value) (x3:Value),x1=.ref T/\B.get? T=none/\T≠e/\h.get? T=some oT/\oT.data=.fields ts/\ts[3]?=some x3)
theorem Ex.tail {B:Heap} {env:Env} {l:List Env} {e:Addr} {a:Value} {c:Option Addr} {b:Bool} {h:Heap} (x:Ex B (env::l) e a c b h):Ex B l e a c b h:=⟨x.stays,x.new,x.frames.2.2,x.rec_⟩
section
variable{M:Model}{A:Around}{E:Aa1}{s:Shared}{B:Heap}{env:Env}{outer l:List Env}{L e:Addr}{cls:Value}{dd:Option Addr}{nt:Bool}{Q:Unit->Shared->Prop}
theorem qRE {t:Obj} {vs:Array Value} {p:Value} {m:Bool} (a4:A.frames=some (env::outer))(hl:s.heap.FunFrames B (env::outer))(hf:env.frame=some L)
  (he:s.heap.get? e=some t) (a1:B.StaysIn s.heap) (z:B.get? e=none) (hd:t.data=.fields vs) (hsz:1<vs.size)
  (h:∀h',Ex B (env::outer) e t.cls t.dict true h'->s.heap.UpToSlots h'->Q () {s with heap:=h'}):
  wpAny M A (do let a <- frameOf env;let pl <- entryPlaceOf L m;let b <- A77 p a .none (rawInt L) .none pl;setField (.ref e) 1 b) Q E s:=by
 have u:e∉(env::outer).filterMap (·.frame):=λhm=>by
  obtain⟨_,o,ho,g⟩:=hl.mem hm;rw[he] at ho
  injection ho with ho
  subst ho;exact g vs hd
 refine B73 (wpAny_frameOf_fun a4 hl hf λj n=>?_);refine B73 (wpAny_entryPlaceOf λpl a3=>?_);unfold A77 newFields;refine B73 (B82 ?_ (a3.sizeOk5 _ _ _ _ _));have w:j.get? e=some t:=(n.2.1 e u).trans he;have y:B.StaysIn j:=λb o i=>(n.2.1 b λhm=>by rw[(hl.mem hm).1] at i;cases i).trans (a1 b o i)
 generalize ht:({cls:=.type "traceback",dict:=none,data:=.fields ([p,.ref L,.none,rawInt L,.none]++(if pl.isEmpty then F1 6 M3 else pl)).toArray}:Obj)=r
 have a8:∃ts:Array Value,r.data=.fields ts/\∃x3,ts[3]?=some x3:=by
  subst ht;exact xR rfl ⟨rawInt L,by simp⟩
 have a5:r.isFreed=false:=by subst ht;rfl
 have a0:=A1 (h:=j) r w;refine C02 a0 hd hsz ?_;have v:j.objs.size≠e:=V4 (B9 w);have x:=P5 hd (·.setIfInBounds 1 (C7 j.objs.size));have a9:=L6 (V2 (·.setIfInBounds 1 (C7 j.objs.size))) a0 (X2 x);have a7:=(D5 (j.push r) (V2 (·.setIfInBounds 1 (C7 j.objs.size))) (J4 v)).trans (B8 j a5);have l:∀b o,b≠e->j.get? b=some o->((j.push r).update e (V2 (·.setIfInBounds 1 (C7 j.objs.size)))).get? b=some o:=λb o a2 k=>by
  rw[D5 _ _ (J4 a2)];exact A1 _ k
 have f:∀b o,s.heap.get? b=some o->(∀vs,o.data≠.fields vs)->b≠e:=λb o k g q=>by
  rw[q,he] at k
  injection k with k
  subst k;exact g vs hd
 obtain⟨ts,a6,x3,aa⟩:=a8;refine h _ ⟨λb o i=>l b o (λq=>by rw[q,z] at i;cases i) (y b o i),z,hl.of_keeps λb o k g=>?_,?_⟩ λb o k g=>?_
 ·obtain⟨sl,hs⟩:=n.2.2 b o k;exact⟨_,l b _ (f b o k g) hs,rfl⟩
 ·refine⟨_,_,_,a9,p7 _ _,?_,x,?_,.inr ⟨j.objs.size,r,ts,x3,rfl,y.fresh,v,a7,a6,aa⟩⟩
  ·obtain⟨c,d,dt,sl⟩:=t;cases dt<;>rfl
  ·simp[hsz]
 ·obtain⟨sl,hs⟩:=n.2.2 b o k;exact⟨sl,l b _ (f b o k g) hs⟩
theorem qPZ (m:A.frames=some (env::outer))(w:env.frame=some L)(x:Ex B (env::outer) e cls dd nt s.heap)(h:∀h',Ex B (env::outer) e cls dd true h'->s.heap.UpToSlots h'->Q () {s with heap:=h'}):
  wpAny M A (noteFrame (.ref e) env) Q E s:=by
 obtain⟨oe,r,z,t,rfl,rfl,p,u,hx⟩:=x.rec_;have l:1<r.size:=(W7.mp u).1;unfold noteFrame;simp only[w];refine B73 (B87 t p u ?_);rcases hx with⟨rfl,_⟩|⟨T,oT,y,x3,rfl,k,j,n,g,v⟩
 ·rw[if_neg (by decide)]
  exact qRE m x.frames w t x.stays x.new p l h
 ·rw[if_pos (show(C7 T != M3)=true from by simp)]
  refine B73 (B87 n g v ?_);refine wpAny_ite_split (λ_=>?_) (λ_=>?_)
  ·exact B74 (h _ ⟨x.stays,x.new,x.frames,oe,r,_,t,rfl,rfl,p,u,.inr ⟨T,oT,y,x3,rfl,k,j,n,g,v⟩⟩ (B71 _))
  ·refine B73 (C02 n g (W7.mp v).1 ?_);have c:∀b,b≠T->(s.heap.update T (V2 (·.setIfInBounds 3 M3))).get? b=s.heap.get? b:=λb f=>D5 _ _ (J4 f);have a:∀b o,s.heap.get? b=some o->(∀r,o.data≠.fields r)->b≠T:=λb o f d q=>by
    rw[q,n] at f
    injection f with f
    subst f;exact d y g
   refine qRE m (x.frames.of_keeps λb o f d=>⟨o,(c b (a b o f d)).trans f,rfl⟩) w ((c e (J4 j)).trans t)
    (λb o i=>(c b λq=>by rw[q,k] at i;cases i).trans (x.stays b o i)) x.new p l
    λh' z x2=>h h' z λb o f d=>x2 b o ((c b (a b o f d)).trans f) d
theorem qFI {f:Option Addr} (x:Ex B l e cls dd true s.heap)(h:∀h',Ex B l e cls dd true h'->s.heap.UpToSlots h'->Q () {s with heap:=h'}):wpAny M A (setFlight (.ref e) f) Q E s:=by
 obtain⟨oe,r,x1,w,rfl,rfl,u,t,hx⟩:=x.rec_;rcases hx with⟨_,z⟩|⟨T,oT,v,x3,rfl,n,m,p,i,y⟩
 ·cases z
 have j:3<v.size:=(W7.mp y).1;unfold setFlight;refine B73 (B87 w u t ?_);rw[if_pos (show(C7 T != M3)=true from by simp)]
 have c:∀b,b≠T->(s.heap.update T (V2 (·.setIfInBounds 3 (f.elim M3 λf=>rawInt f)))).get? b=s.heap.get? b:=λb d=>D5 _ _ (J4 d);have a:∀b o,s.heap.get? b=some o->(∀r,o.data≠.fields r)->b≠T:=λb o d g q=>by
  rw[q,p] at d
  injection d with d
  subst d;exact g v i
 refine C02 p i j (h _ ⟨fun b o k=>(c b fun q=>by rw [q,n] at k;cases k).trans (x.stays b o k),x.new,
  x.frames.of_keeps λb o d g=>⟨o,(c b (a b o d g)).trans d,rfl⟩,oe,r,_,(c e (J4 m)).trans w,rfl,rfl,u,t,.inr ⟨T,_,_,f.elim M3 (λf=>rawInt f),rfl,n,m,L6 _ p (X2 (P5 i _)),P5 i _,by simp[j]⟩⟩
  λb o d g=>⟨o.slots,(c b (a b o d g)).trans d⟩)
theorem qXB (a:A.frames=some (env::outer))(g:env.frame=some L)(x:Ex B (env::outer) e cls dd nt s.heap)(h:∀h',Ex B outer e cls dd true h'->s.heap.UpToSlots h'->Q () {s with heap:=h'}):
  wpAny M A (leaving env (.ref e)) Q E s:=by
 unfold leaving;refine B73 (qPZ a g x λb j d=>?_);exact qFI (s:={s with heap:=b}) j λc i f=>h c i.tail (d.trans f)
theorem qZV (x:Ex B l e cls dd true s.heap)(h:∀h',Ex B l e cls dd true h'->s.heap.UpToSlots h'->E (.ref e) {s with heap:=h'}):cameBackBy M A env E (.ref e) s:=by
 obtain⟨q,o,p,g,_,_,b,a,d⟩:=x.rec_;rcases d with⟨_,z⟩|⟨T,n,k,r,rfl,i,f,j,c,m⟩
 ·cases z
 unfold cameBackBy;refine B73 (B87 g b a ?_);rw[if_neg (show¬((C7 T==M3)=true) from by simp)]
 exact qFI x h
end
theorem ObjOk.has {H:Hp} {h:Heap} {a:Addr} {o:HO} (x:ObjOk P w H h a o):∃u,h.get? a=some u:=by
 cases o with
 |lst xs=>obtain⟨_,_,_,_,e⟩:=x;exact⟨_,e⟩
 |tup xs=>obtain⟨_,_,_,b,e,_⟩:=x;exact⟨_,e⟩
 |dK Af=>obtain⟨_,_,_,_,o,_,_,e,_⟩:=x;exact⟨_,e⟩
 |dT Af=>obtain⟨_,_,_,_,o,_,_,e,_⟩:=x;exact⟨_,e⟩
 |set S n=>obtain⟨o,_,_,_,e,_⟩:=x;exact⟨_,e⟩
 |ins C dx fs=>obtain⟨_,_,_,e,_⟩:=x;exact⟨_,e⟩
 |own y=>obtain⟨_,e⟩:=x;exact⟨_,e⟩
 |xd fs=>obtain⟨_,⟨_,_,_,e,_⟩,_⟩:=x;exact⟨_,e⟩
 |rng lo hi=>obtain⟨_,_,_,e⟩:=x;exact⟨_,e⟩
 |frz b u=>exact⟨_,x.1⟩
 |tbl t=>
  cases t with
  |tab q=>obtain⟨_,e,_⟩:=x;exact⟨_,e⟩
  |cod q=>obtain⟨c,o,_,_,e,g,_⟩:=x;cases e;exact⟨_,g⟩
 |met f y=>exact⟨_,show h.get? a=some (m9 (.ref f) (.ref y)) from x⟩
 |ext φ=>exact x.2.1
def Kp (outer:List Env)(H':Hp)(h0:Heap)(b:Addr):Prop:=(∃o,H' b=some o)\/((∃o,h0.get? b=some o)/\b∉frs outer)
structure XD (P:B76)(w:World)(outer l:List Env)(H:Hp)(h0:Heap)(e:Addr)(cls:Value)(dd:Option Addr)(H':Hp)(B:Heap)(nt:Bool)(h:Heap):Prop where
 un:Un (frs outer) [] H H' h0 h
 hok:HOk P w H' h
 ex:Ex B l e cls dd nt h
 kp:∀b o,h.get? b=some o->Kp outer H' h0 b->B.get? b=some o
 ne:H' e=none
 ge:h0.objs.size<=e
theorem XD.step {c l l':List Env} {H:Hp} {t:Heap} {e:Addr} {f:Value} {dd:Option Addr} {H':Hp} {B:Heap} {nt j:Bool} {h h':Heap} (x:XD P w c l H t e f dd H' B nt h)
  (ex:Ex B l' e f dd j h') (u:h.UpToSlots h') (hs:∀b∈frs c,b∈frs l):XD P w c l' H t e f dd H' B j h':=by
 have y:∀b o,h.get? b=some o->Kp c H' t b->h'.get? b=some o:=λb o q k=>ex.stays b o (x.kp b o q k);have p:∀b,Kp c H' t b->∃o,h.get? b=some o:=λb k=>by
  rcases k with⟨o,q⟩|⟨⟨o,q⟩,_⟩
  ·exact(x.hok b o q).has
  ·exact x.un.there b o q (by simp)
 have fr:∀b o,h.get? b=some o->b∈frs c->∃sl,h'.get? b=some {o with slots:=sl}:=λb o q m=>by
  obtain⟨_,o',g,hd⟩:=x.ex.frames.mem (hs b m);rw[q] at g;cases g;exact u b o q hd
 refine⟨⟨λb o q n nf i=>y b o (x.un.keep b o q n nf i) (.inr ⟨⟨o,q⟩,nf⟩),λb o q n m i=>?_,x.un.free,λb o q i=>?_,x.un.tups,x.un.frzs,x.un.tbls⟩,λa o q=>?_,ex,λb o q k=>?_,x.ne,x.ge⟩
 ·obtain⟨sl,d⟩:=x.un.slot b o q n m i;obtain⟨a0,q2⟩:=fr b _ d m;exact⟨a0,q2⟩
 ·obtain⟨s,d⟩:=x.un.there b o q i;by_cases m:b∈frs c
  ·obtain⟨sl,q2⟩:=fr b s d m;exact⟨_,q2⟩
  ·exact⟨s,y b s d (.inr ⟨⟨o,q⟩,m⟩)⟩
 ·refine(x.hok a o q).stay (λb v hb r=>y b v r ?_) (λ_ z=>z) λ_ _ z=>z;rcases hb with rfl|hb
  ·exact .inl ⟨o,q⟩
  ·exact .inl ⟨_,hb⟩
 ·obtain⟨s,d⟩:=p b k;have:=y b s d k;rw[q] at this;cases this;exact x.kp b o d k
def CX1 (P:B76)(w:World):CXT:=λouter H s E ev s'=>∃(e:Addr) (cls:Value) (dd:Option Addr) (H':Hp) (B:Heap) (nt:Bool),ev=.ref e/\s'.os=s.os/\C44 s'.gens/\XD P w outer outer H s.heap e cls dd H' B nt s'.heap/\E cls dd H'
def XP (X:Cx)(G:XK)(ev:Value)(s':Shared):Prop:=X.A.frames=some X.stack/\∃(e:Addr) (cls:Value) (dd:Option Addr) (H':Hp) (B:Heap) (nt:Bool),ev=.ref e/\s'.os=X.s₀.os/\C44 s'.gens/\XD X.prog X.w X.outer X.stack X.H₀ X.s₀.heap e cls dd H' B nt s'.heap/\G cls dd H'
section
variable{P:B76}{w:World}{K:Ab1}{mg:Ab0}{base:Heap}
theorem qcI {N:List Str} {d:Str} {a:Scope} {f:Addr} {cd:Value} {c:List Env} {H:Hp} {E:XK} {j:Value} 
  (q:XP (cxOf (CX1 P w) P w K mg base N d a f cd A c s H E) E j s'):(cxOf (CX1 P w) P w K mg base N d a f cd A c s H E).xe j s':=by
 obtain⟨h,e,i,p,n,B,u,rfl,r,k,x,g⟩:=q;refine qXB (L:=s.heap.objs.size) h rfl x.ex λt o m=>?_;exact⟨e,i,p,n,B,true,rfl,r,k,x.step o m λb l=>C2 _ l,g⟩
noncomputable abbrev cxX (P:B76)(w:World)(K:Ab1)(mg:Ab0)(base:Heap)(N:List Str)(d:Str)(a:Scope)(f:Addr)(cd:Value)(A:Around)(c:List Env)(s:Shared)(H:Hp)(E:XK):Cx:=
 (cxOf (CX1 P w) P w K mg base N d a f cd A c s H E).wish (XP (cxOf (CX1 P w) P w K mg base N d a f cd A c s H E) E)
theorem Fun.okX {x a:Str} {st:Stmt} {f:Addr} {g:B88} {N ps:List Str} {k:Nat} {sp:Sp} (F:Fun K x a st f g)(S:FnScope N ps (qAA st))(c:∀vs H Q E,sp vs H Q E->vs.length=ps.length)
  (b:∀ (cdv:Value) (A:Around) (outer:List Env) (s:Shared) (H:Hp) (vs:List V) (Q:VK) (E:XK),Room k (A.deeper (envOfC a (qAA st) s.heap.objs.size f cdv))->sp vs H Q E->
   ∃t,PSs (cxX P w K mg base N a (qAA st) f cdv A outer s H E) (qCJ st) t/\t {nx:=λ_ H'=>Q .non H',rt:=Q} (start N vs) H):FnOk P w K mg base (CX1 P w) (k+1) f g ps sp:=by
 obtain⟨u,v,kV,p,pm,y,cdv,ct,n,rfl,r,d⟩:=F.ex;refine qZQ r d S c λA outer s H vs Q E j e=>?_;obtain⟨t,h,q⟩:=b cdv A outer s H vs Q E j e;exact⟨t,λl o σ i D I m=>B83 (h l o σ i D (I.wish _) m) (λ_ _ q=>q.unwish) λev z q=>qcI q,q⟩
end
def ExcO (e:Addr)(cls:Value)(dd:Option Addr):HO:=.ext λh=>∃(oe:Obj) (vs:Array Value),h.get? e=some oe/\oe.cls=cls/\oe.dict=dd/\oe.data=.fields vs
theorem qZU {H:Hp} {h:Heap} {e:Addr} {g:Value} {j:Option Addr} {f:Obj} {vs:Array Value} (i:h.get? e=some f)(m:f.cls=g)(n:f.dict=j)(l:f.data=.fields vs):ObjOk P w H h e (ExcO e g j):=
 ⟨⟨f,vs,i,m,n,l⟩,⟨f,i⟩,λ_ _ ⟨o,ws,a,b,c,d⟩ k=>⟨o,ws,k _ a,b,c,d⟩⟩
noncomputable abbrev Cx.held (X:Cx)(ev:Value):Cx:={X with A:=X.A.mark (some ev),calm:=false}
section
variable{X:Cx}{Ab:Aa2}{σ:St}{H:Hp}{s:Shared}{ev:Value}
theorem Inv.held (I:Inv X Ab σ H s)(a:Value):Inv (X.held a) Ab σ H s:=
 ⟨⟨I.ok.mod,I.ok.kind,I.ok.glob,I.ok.blt,I.ok.above,I.ok.inj,I.ok.has,I.ok.cab,(λz=>nomatch z),I.ok.frames,I.ok.stk,I.ok.exf,I.ok.bs,I.ok.bsz,I.ok.noex,I.ok.exfs,I.ok.funs,I.ok.frf⟩,I.os,I.bare,I.base,I.loc,I.cell,I.free,I.freeC,I.pin,I.hok,I.len⟩
theorem Inv.unheld (a:X.Ok)(I:Inv (X.held ev) Ab σ H s):Inv X Ab σ H s:=⟨a,I.os,I.bare,I.base,I.loc,I.cell,I.free,I.freeC,I.pin,I.hok,I.len⟩
theorem Inv.goes {M:Model} {j:Nat} {n:Str} {pos:Pos} {Q:Unit->Shared->Prop} (I:Inv X Ab σ H s)(hN:X.N.Nodup)(hj:X.N[j]?=some n)(i:X.env.scope.names.lookup n=some .local)
  (h:∀s',Inv X Ab (σ.set j none) H s'->Q () s'):wpAny M A (do bindName X.env n .none;unbindBehindTheSuite X.env n pos) Q E s:=by
 refine B73 (wpAny_bindName (qGP (v:=.non) I hN hj (.inl i) rfl (λs1 a=>?_) (.inr i)));unfold unbindBehindTheSuite;refine C35 ?_;obtain⟨m,hn,g⟩:=id a.loc;have x:j<σ.length:=by rw[I.len];exact(B5.mp hj).1
 have hv:∃v,m n=some v:=by
  obtain⟨u,_,z|⟨z,_⟩⟩:=g j n .non hj (by rw[P6 x]) (.inl i)
  ·exact⟨u,z.2⟩
  ·have:X.env.scope.names.lookup n=some .cell\/X.env.scope.names.lookup n=some .free:=z;rw[i] at this;rcases this with z|z<;>cases z
 obtain⟨v,hv⟩:=hv;have t:(X.env.scope.kind == .class||(X.env.scope.kind == .module&&X.env.locals != X.env.globals))=false:=by rw[I.ok.kind];rfl
 refine wpAny_unbindName_local i hn hv t λh' u l f=>h _ ?_;obtain⟨oL,es,ep,a2,r⟩:=id hn;obtain⟨a3,_,_,a1,_⟩:=id l;have lo:∀b ob,X.s₀.heap.get? b=some ob->b≠X.env.locals:=λb ob e=>E7 (D9 (B9 e) I.ok.above);refine⟨a.ok,a.os,a.bare,⟨λb o e n' hb hx=>?_,λb o e n' hb hx=>?_,a.base.free,λb o e hx=>?_,a.base.tups,a.base.frzs,a.base.tbls⟩,⟨_,l,λk y v' d e2 e3=>?_⟩,λy c e=>?_,a.free,a.freeC,λp hp=>?_,λb ob e=>?_,by simpa using I.len⟩
 ·exact(f.2 b (lo b o e)).trans (a.base.keep b o e n' hb hx)
 ·obtain⟨sl,d⟩:=a.base.slot b o e n' hb hx;exact⟨sl,(f.2 b (lo b o e)).trans d⟩
 ·obtain⟨o',d⟩:=a.base.there b o e hx;exact⟨o',(f.2 b (lo b o e)).trans d⟩
 ·by_cases hk:k=j
  ·subst hk;rw[P6 x] at e2;cases e2
  ·rw[U7 (J4 hk)] at e2;obtain⟨u',r',q⟩:=g k y v' d (by rw[U7 (J4 hk)];exact e2) e3
   refine⟨u',r',?_⟩;have a0:y≠n:=λz=>hk ((List.getElem?_inj (B5.mp d).1 hN).mp (by rw[d,hj,z]))
   rcases q with⟨q1,q2⟩|⟨q1,c,q2,w⟩
   ·exact .inl ⟨q1,(if_neg a0).trans q2⟩
   ·obtain⟨oc,w,q4⟩:=w;exact .inr ⟨q1,c,q2,oc,(f.2 c (I.cne y c q2)).trans w,q4⟩
 ·obtain⟨v,oc,w,q4⟩:=a.cell y c e;exact⟨v,oc,(f.2 c (I.cne y c e)).trans w,q4⟩
 ·obtain⟨d,n1,n2,r⟩:=a.pin p hp;exact⟨(f.2 p.1 n2).trans d,n1,n2,r⟩
 ·refine(a.hok b ob e).stay (λc w' hc q=>(f.2 c ?_).trans q) (λ_ q=>q) λ_ _ q=>q;rintro rfl;rcases hc with rfl|hc
  ·rw[a.free] at e;cases e
  ·rw[a.free] at hc;cases hc
theorem Inv.lands {Q:Unit->Shared->Prop} {EE:Aa1} {E:XK} {G:XK} {H1:Hp} (I:Inv X Ab σ H1 i)(a:X.stack=X.env::X.outer)(o:X.env.frame=some X.env.locals)(q:CX1 X.prog X.w X.stack H1 i G ev d)
  (h:∀e cls dd H2 B s3,ev=.ref e->Inv X Ab σ H2 s3->XD X.prog X.w X.stack X.stack H1 i.heap e cls dd H2 B true s3.heap->G cls dd H2->Q () s3):
  wpAny (model X.prog X.w) X.A (noteFrame ev X.env) (λ_ s3=>wpAny (model X.prog X.w) X.A (setFlight ev none) Q EE s3) EE d:=by
 obtain⟨e,cls,dd,H2,B,u,rfl,p,l,x,g⟩:=q;have c:=x.ex;rw[a] at c;refine qPZ (I.ok.frames.trans (by rw[a])) o c λn t r=>?_
 refine qFI (s:={d with heap:=n}) t λk j m=>?_;rw[<- a] at j;have y:=x.step j (r.trans m) λb f=>f;exact h e cls dd H2 B _ rfl (I.call' (s':={d with heap:=k}) p y.un y.hok l λb f=>absurd f (by simp)) y g
theorem Inv.caught {H1 H2:Hp} {g:Heap} {e:Addr} {a:Value} {h:Option Addr} {B:Heap} {j:Bool} (I:Inv X Ab σ H2 s)(I0:∃s1,Inv X Ab σ H1 s1/\s1.heap=g)(x:XD X.prog X.w X.stack X.stack H1 g e a h H2 B j s.heap):Inv X Ab σ (Ag H2 e (ExcO e a h)) s:=by
 obtain⟨s1,d,rfl⟩:=I0;obtain⟨oe,vs,x1,l,t,i,u,_⟩:=x.ex.rec_;have f:∀b ob,s1.heap.get? b=some ob->b≠e:=λb ob q=>E7 (D9 (B9 q) x.ge);refine I.track x.ne (F4 d.sz x.ge) (λz=>?_) (λy c q z=>?_) (λp k z=>?_) (qZU l t i u)
 ·obtain⟨m,⟨o,_,_,n,_⟩,_⟩:=d.loc;exact f _ _ n z.symm
 ·obtain⟨v,oc,r,_⟩:=d.cell y c q;exact f _ _ r z
 ·exact f _ _ (d.pin p k).1 z
end
def Ends.off (D:Ends):Option Nat->Ends
 |none=>D
 |some j=>{nx:=λσ H=>D.nx (σ.set j none) H,rt:=D.rt,bk:=λσ H=>D.bk (σ.set j none) H,ct:=λσ H=>D.ct (σ.set j none) H}
noncomputable def onE (σ:St)(e:Addr):Option Nat->St
 |none=>σ
 |some j=>σ.set j (some (.ref e))
theorem SP.back {Ab:Aa2} {D:Ends} {f:Flow} {c:Value} (b:X.Ok)(h:SP (X.held c).nox Ab D f s'):SP X Ab D f s':=by
 cases f with
 |next=>obtain⟨σ',a,I,q⟩:=h;exact⟨σ',a,I.unwish.unheld b,q⟩
 |brk=>obtain⟨σ',a,I,q⟩:=h;exact⟨σ',a,I.unwish.unheld b,q⟩
 |cont=>obtain⟨σ',a,I,q⟩:=h;exact⟨σ',a,I.unwish.unheld b,q⟩
 |ret u=>obtain⟨v,σ',a,I,r,q⟩:=h;exact⟨v,σ',a,I.unwish.unheld b,r,q⟩
noncomputable def bmV:List Value:=[.type "ValueError",.type "Exception",.type "BaseException",.type "object"]
noncomputable def xcIn (K:Ab1)(C:Addr)(init:Option Value):Bool:=match K.lookup C with
 | some ⟨.type "type",_,.cls cd,sl⟩=>(match cd.mro,sl.toList with
  |.ref C'::bm,[_,_,_,_,some (.builtin n),_]=>C'==C&&n == "ValueError.__new__" && !cd.hasDel&&cd.hasDict&&PySem.W.tailIn K bmV bm&&PySem.W.nsOkIn K cd.ns&&c5 K cd.ns "__init__" == some init
  |_,_=>false)
 |_=>false
structure XCls (K:Ab1)(C:Addr)(init:Option Value):Prop where
 cls:xcIn K C init=true
 set:L8 K (.ref C) "__setattr__" = some (some (.builtin "object.__setattr__"))
 kp:M8 K (.ref C)=true
theorem qS8 {K:Ab1} {h:Heap} {N:Addr} {mg:Ab0} {n:Str} {v:Value} (X:K.In h)(G:h.Ns N mg)(e:c5 K N n=some (some v)):mg n=some v:=by
 obtain⟨o,g,i,f,a,_,b⟩:=G;unfold c5 at e
 split at e
 ·rename_i c d es' n' sl q
  have:=X _ _ q;rw[f] at this;cases this;cases a
  split at e
  ·rename_i en he
   cases e;rw[<- b];unfold nsFind findBy;rw[<- A85,he]
   rfl
  ·split at e
   ·cases e
   ·cases e
 ·cases e
theorem qPM {h:Heap} {b:List Value} (a:Value) (T:OwnTail h bmV b):refuseLoop a "__setattr__" b=pure ():=by
 induction T with
 |base=>exact A32.passes a
 |own _ _ _ _ ih=>rw[refuseLoop_ref];exact ih
theorem qW7 {K:Ab1} {h:Heap} {C:Addr} {a:Option Value} (X:K.In h)(q:xcIn K C a=true):∃(bm:List Value) (N:Addr) (nm qn:Str) (bs:List Value) (sn:List Str) (sub:List Value) (ab:Bool) (col:Option Bool) (dd:Option Addr) (k0 k1 k2 k3 k5:Option Value) (mN:Ab0),
  h.get? C=some (excClassObj nm qn C N bs bm true sn sub ab col dd k0 k1 k2 k3 k5 "ValueError.__new__")/\h.Ns N mN/\mN "__init__" = a/\OwnTail h bmV bm:=by
 unfold xcIn at q
 split at q
 ·rename_i dd cd sl ho
  split at q
  ·rename_i C' bm k0 k1 k2 k3 n k5 hm hs
   simp only[L3,beq_iff_eq,B08] at q;obtain⟨⟨⟨⟨⟨⟨rfl,rfl⟩,c⟩,e⟩,j⟩,b⟩,d⟩:=q;obtain⟨nm,bs,k,i,qn,m,sn,sub,ab,col,g⟩:=cd;dsimp only at hm c b d e;subst hm c e;have f:sl=#[k0,k1,k2,k3,some (.builtin "ValueError.__new__"),k5]:=by
    obtain⟨l⟩:=sl;simp only at hs;rw[hs]
   subst f;refine⟨bm,i,nm,qn,bs,sn,sub,ab,col,dd,k0,k1,k2,k3,k5,_,X _ _ ho,.of_isNs (A94 X b),?_,PySem.W.tail_of_in X j⟩;cases a with
   |none=>exact PySem.W.nsMap_none_of_in X b d
   |some v=>exact qS8 X (.of_isNs (A94 X b)) d
  ·cases q
 ·cases q
section
variable{prog:B76}{w:World}{A:Around}{E:Aa1}{h:Heap}{g:Array C41}{d:Drawn}{t:Nat}{os:OsState}{K:Ab1}{C x:Addr}{init:Option Value}{mA:Ab0}{name:Str}{v:Value}{ns:List Str}
theorem qaE {b:Bool} {tk:Tok} {Q:PySem.Fin->Shared->Prop} (X:K.In h)(q:xcIn K C init=true)(I:h.Inst x C mA)(hw:Within mA ns)(hsz:ns.length<=1000)
  (hq:∀ h' tk',h'.Inst x C (fun y=>if y=name then some v else mA y)->
   (∀b o,b≠x->(∀o₀ dx,h.get? x=some o₀->o₀.dict=some dx->b≠dx)->h.get? b=some o->h'.get? b=some o)->
   (∀o₀,h.get? x=some o₀->∃o₁,h'.get? x=some o₁/\o₁.cls=o₀.cls/\o₁.data=o₀.data/\o₁.slots=o₀.slots/\(∀dx,o₀.dict=some dx->o₁.dict=some dx)/\(o₀.dict=none->o₁.dict=some h.objs.size))->Q (.done (.ret .none)) ⟨h',g,d,tk',os⟩):
  wpAny (model prog w) A (l8 (.ref x) (.ref C) (.str name tk) name v b) Q E ⟨h,g,d,t,os⟩:=by
 obtain⟨bm,N,nm,qn,bs,sn,ac,ab,aa,dd,k0,k1,k2,k3,k5,mN,hC,hn,_,T⟩:=qW7 X q;obtain⟨o,i,hc,n,hd⟩:=I;unfold l8
 repeat (first|(with_reducible refine C18 i ?_;rw[hc])|wp_step)
 rcases hd with⟨u,a8⟩|⟨dx,f,k,a1⟩
 ·rw[u,if_neg (by simp[typeHasDict])]
  split
  ·rename_i hcd
   cases hcd
  split
  ·rename_i c hcd
   exact absurd hcd (n c)
  ·have s:(h.push {cls:=.type "dict",data:=.dict #[]}).get? x=some o:=A1 _ i;have m:x≠h.objs.size:=E7 (B9 i);refine B73 (wpAny_alloc' ?_);refine B73 (wpAny_update' s ?_);refine B74 ?_;have a0:((h.push {cls:=.type "dict",data:=.dict #[]}).update x λo=>{cls:=o.cls,dict:=some h.objs.size,data:=o.data,slots:=o.slots}).get? h.objs.size
     = some {cls:=.type "dict",data:=.dict #[]}:=
    (A78 _ _ _ _ m.symm).trans (Heap.get?_push_at rfl rfl)
   have a4:((h.push {cls:=.type "dict",data:=.dict #[]}).update x λo=>{cls:=o.cls,dict:=some h.objs.size,data:=o.data,slots:=o.slots}).Ns h.objs.size (λ_=>none):=
    ⟨_,#[],_,a0,rfl,λe he=>absurd he (by simp),λ_=>rfl⟩
   show wpAny _ _ (R9 h.objs.size (.str name tk) name v) _ _ _;unfold R9 t5;refine B73 (B74 (B73 (wpAny_nsSet1 (Heap.Ns1.of_empty a4) λh' a r=>?_)));obtain⟨oD,a2,a9,j,l,p⟩:=a.count (B72 name v Within.nil);refine B73 (wpAny_lookBehind j (by rw[l];exact pastItsLine_dict (F4 p (by rw[J7,W0,B80];lia))) ?_)
   wp_walk
   have z:h'.get? x=some {cls:=o.cls,dict:=some h.objs.size,data:=o.data,slots:=o.slots}:=?_;refine hq h' _ ⟨{cls:=o.cls,dict:=some h.objs.size,data:=o.data,slots:=o.slots},z,hc,n,.inr ⟨h.objs.size,rfl,m.symm,?_⟩⟩ (λb ob a6 _ hb=>?_)
    (λo₀ h₀=>by obtain rfl:o=o₀:=D7 (i.symm.trans h₀);exact⟨_,z,rfl,rfl,rfl,(λdx e=>by rw[u] at e;cases e),λ_=>rfl⟩)
   ·obtain⟨o',es,ep,e1,e2,e3,eu,e4⟩:=a;exact⟨o',es,ep,e1,e2,e3,eu,λy=>by rw[e4 y];by_cases hy:y=name<;>simp[hy,a8]⟩
   ·exact(r.2 b (E7 (B9 hb))).trans ((A78 _ _ _ _ a6).trans (A1 _ hb))
   ·refine(r.2 x m).trans (L6 _ s ?_);have a7:=(Heap.get?_some_iff.mp i).2;obtain⟨oc,od,a5,ad⟩:=o;cases a5<;>first|rfl|exact a7
 ·rw[f];refine B74 ?_;show wpAny _ _ (R9 dx (.str name tk) name v) _ _ _;unfold R9 t5;refine B73 (B74 (B73 (wpAny_nsSet1 a1 λh' a r=>?_)));obtain⟨oD,a2,a9,j,l,p⟩:=a.count (B72 name v hw);refine B73 (wpAny_lookBehind j (by rw[l];exact pastItsLine_dict (F4 p (by rw[J7,B80];lia))) ?_)
  wp_walk
  refine hq h' _ ⟨o,(r.2 x k.symm).trans i,hc,n,.inr ⟨dx,f,k,a⟩⟩ (λb ob _ a3 hb=>?_)
   (fun o₀ h₀=>by
    obtain rfl:o=o₀:=D7 (i.symm.trans h₀);exact⟨o,(r.2 x k.symm).trans h₀,rfl,rfl,rfl,(λ_ e=>e),λe=>by rw[f] at e;cases e⟩)
  exact(r.2 b (a3 o dx i f)).trans hb
theorem xset {Q:Unit->Shared->Prop} (X:K.In h)(c:XCls K C init)(j:L8 K (.ref C) name=some none)(I:h.Inst x C mA)(z:Within mA ns)(hsz:ns.length<=1000)
  (hq:∀ h' tk',h'.Inst x C (fun y=>if y=name then some v else mA y)->
   (∀b o,b≠x->(∀o₀ dx,h.get? x=some o₀->o₀.dict=some dx->b≠dx)->h.get? b=some o->h'.get? b=some o)->
   (∀o₀,h.get? x=some o₀->∃o₁,h'.get? x=some o₁/\o₁.cls=o₀.cls/\o₁.data=o₀.data/\o₁.slots=o₀.slots/\(∀dx,o₀.dict=some dx->o₁.dict=some dx)/\(o₀.dict=none->o₁.dict=some h.objs.size))->Q () ⟨h',g,d,tk',os⟩):
  wpAny (model prog w) A (setAttr (.ref x) name v) Q E ⟨h,g,d,t,os⟩:=by
 obtain⟨l,N,nm,qn,bs,sn,a2,ab,a0,dd,k0,k1,k2,k3,k5,mN,m,hn,_,T⟩:=qW7 X c.cls;obtain⟨o,hx,n,a1,hd⟩:=id I;have a:=A32;have i:PySem.W.Looks (model prog w) h (typeOf (.ref x)) (.ref C):=by
  rw[<- n];exact(A42 hx).andThen .now
 have hm:PySem.W.Looks (model prog w) h (mroOf (.ref C)) (.ref C::l):=λA Q E s k q=>by
  obtain⟨hp,g,d,u,os⟩:=s;exact wpAny_mroOf_exc (k _ _ m) q
 have f:PySem.W.Looks (model prog w) h (isInstance (.ref x) (.type "object")) true:=i.andThen λA Q E s k q=>by
  obtain⟨hp,g,d,u,os⟩:=s;refine wpAny_isSubtype_exc (k _ _ m) ?_;have:(C7 C::l).contains (.type "object")=true:=by rw[A95,T.hasType (X:="object") (b:=true) (by decide +kernel),Bool.or_true]
  rw[this];exact q
 refine B73 (wpAny_mkText (B73 (B73 (B73 (i _ _ _ _ (λ_ _ e=>e) (A61 X c.set _ _ _ _ (λ_ _ e=>e) (B84 ?_)))))));rw[PySem.F.store_object.slot.bind];refine B73 (B74 (B73 (C19 ?_)));refine C33 a.slot.plain a.entry (@PySem.W.check_slot (model prog w) _ _ _ "object.__setattr__" "object" "__setattr__" (.ref x) [.str name t,v] [] _ a.kind a.split f (a.args (.ref x) (.str name t) v) ?_);show wpAny (model prog w) A.in1 (Builtin.«object.__setattr__» ⟨[.ref x,.str name t,v],[]⟩) _ _ ⟨h,g,d,t+1,os⟩;rw[PySem.W.osa_eq,refuse_eq];refine B73 (B73 (i.here (B73 (hm.here ?_))));rw[refuseLoop_ref,qPM _ T];refine B74 (B73 (i.here (B73 ((A61 X j).here (B73 (B74 ?_))))));refine qaE X c.cls I z hsz λh' tk' r p i3=>?_;exact B74 (B74 (hq h' tk' r p i3))
end
noncomputable abbrev excObj (C t:Addr)(dd:Option Addr):Obj:={cls:=.ref C,dict:=dd,data:=.fields #[.ref t,.none,.none,.none,.bool false,.none]}
noncomputable abbrev argObj (rest:List Value):Obj:={cls:=.type "tuple",data:=.seq rest.toArray}
section
variable{prog:B76}{w:World}{A:Around}{R:Result->Shared->Prop}{h:Heap}{g:Array C41}{d:Drawn}{t:Nat}{os:OsState}{K:Ab1}{C fI:Addr}{rest:List Value}
theorem qcH (X:K.In h) (q:xcIn K C (some (.ref fI))=true) (x:PySem.W.typeIn K (.ref fI)=some (.type "function")) (c:rest.length<=B75)
  (u:C14 (model prog w) (A.under (.builtin "type.__call__" ⟨.ref C::rest,[]⟩)) (.call (.ref fI) ⟨.ref (h.objs.size+1)::rest,[]⟩) (PySem.W.InitBack (h.objs.size+1) R) ⟨(h.push (argObj rest)).push (excObj C h.objs.size none),g,d,t,os⟩):
  C14 (model prog w) A (.call (.ref C) ⟨rest,[]⟩) R ⟨h,g,d,t,os⟩:=by
 obtain⟨p,N,nm,qn,bs,sn,a0,ab,y,dd,k0,k1,k2,k3,k5,mN,a,n,l,T⟩:=qW7 X q;have F:=PySem.F.excBase_ValueError;have f1:=tc_lookup;have f2:=tc_bind (.ref C);have hT:(⟨h,g,d,t,os⟩:Shared).TypeIs (.ref C) "type":=⟨_,a,rfl⟩;refine C39 ?_;show wpAny _ _ (callAny (.ref C) _) _ _ _
 repeat (any_goals (first|assumption|with_reducible refine C18 a ?_|wp_step))
 refine⟨rfl,?_⟩;show C14 (model prog w) A (.call (.builtin "type.__call__") ⟨.ref C::rest,[]⟩) R ⟨h,g,d,t,os⟩;refine codeAny_call_builtin_at (l7 _ (by decide +kernel)) entry_typeCall (wpAny_check_type_call_sub a ?_)
 repeat (first|with_reducible refine C18 a ?_|with_reducible refine wpAny_madeBy_exc a ?_|wp_step)
 refine codeAny_call_builtin_code (l7 _ F.quiet) (wpAny_check_new_subT F T a ?_);refine codeAny_exc_new_subT F T a ?_ c;show wpAny _ _ _ _ _ _;have j:∀b o,h.get? b=some o->((h.push (argObj rest)).push (excObj C h.objs.size none)).get? b=some o:=λb o e=>A1 _ (A1 _ e);have i:=j _ _ a;have m:((h.push (argObj rest)).push (excObj C h.objs.size none)).Ns N mN:=let⟨o,es,ep,e,r⟩:=n;⟨o,es,ep,j _ _ e,r⟩
 have f:((h.push (argObj rest)).push (excObj C h.objs.size none)).get? (h.objs.size+1)=some {cls:=.ref C,data:=.fields #[.ref h.objs.size,.none,.none,.none,.bool false,.none]}:=by heap_get
 have k:(C7 C::p).contains (.ref C)=true:=by simp
 have s:=T.keeps j;unfold isInstance
 repeat (first|with_reducible refine C18 f ?_|(with_reducible refine wpAny_isSubtype_exc i ?_;rw[k])|wp_step)
 show wpAny _ _ (typeLookup (.ref C) _) _ _ _;refine wpAny_typeLookup_tail i m s F.mroIs F.init.lookup ?_;rw[l];have b1:=(PySem.W.bind_fn (M:=model prog w) X (.ref (h.objs.size+1)) x).keeps j;refine B84 (B73 (b1.here (B73 (C19 (B99 u λr s' z=>?_)))));rcases r with e|(v|_|_|_)<;>first|exact z|exact z.elim|skip;obtain⟨rfl,z⟩:=z;exact B74 (B74 z)
end
section
variable{M:Model}{A:Around}{E:Aa1}{env:Env}{K:Ab1}{C:Addr}{init:Option Value}
theorem qaF {x:Sem Value} {Q:Flow->Shared->Prop} (m:A.handled=none)(c:xcIn K C init=true)
  (h:wpAny M A x (λv s₁=>∃e t dd,v=.ref e/\K.In s₁.heap/\s₁.heap.get? e=some (excObj C t dd)/\E (.ref e) s₁) E s):
  wpAny M A (raiseStmt env (some x) none) Q E s:=by
 unfold raiseStmt;refine B73 (B83 h (λv s₁ l=>?_) λ_ _ x=>x);obtain⟨e,t,n,rfl,X,p,u⟩:=l;obtain⟨j,N,nm,qn,bs,sn,r,y,q,dd,k0,k1,k2,k3,k5,mN,i,w,k,T⟩:=qW7 X c;have f:(C7 C::j).contains (.type "BaseException")=true:=by rw[A95,T.hasType (X:="BaseException") (b:=true) (by decide +kernel),Bool.or_true]
 obtain⟨o,g,d,tk,z⟩:=s₁;have a:o.get? e=some {cls:=.ref C,dict:=n,data:=.fields #[.ref t,.none,.none,.none,.bool false,.none]}:=p
 repeat (first|with_reducible refine C18 a ?_|with_reducible refine C18 i ?_|(with_reducible refine wpAny_isSubtype_exc i ?_;rw[f])|wp_step)
 exact wpAny_raiseNew_none m u
end
def ExcN (x C:Addr)(dd:Option Addr):HO:=.ext λh=>∃t,h.get? x=some (excObj C t dd)
theorem qV9 {H:Hp} {h:Heap} {x C t:Addr} {b:Option Addr} (e:h.get? x=some (excObj C t b)):ObjOk P w H h x (ExcN x C b):=⟨⟨t,e⟩,⟨_,e⟩,λ_ _ ⟨t,a⟩ k=>⟨t,k _ a⟩⟩
def XDic (dx:Addr)(fs:List (Str×V)):HO:=.ext λh=>∃mA,h.Ns1 dx mA/\(∀f,RelO (fs.lookup f) (mA f))/\PySem.Within mA (fs.map (·.1))
theorem qSY {H:Hp} {h:Heap} {dx:Addr} {c:List (Str×V)} {mA:Ab0} (e:h.Ns1 dx mA)(r:∀f,RelO (c.lookup f) (mA f))(g:PySem.Within mA (c.map (·.1))):ObjOk P w H h dx (XDic dx c):=by
 obtain⟨o,_,_,d,_⟩:=id e;refine⟨⟨mA,e,r,g⟩,⟨o,d⟩,?_⟩;rintro h1 h2 ⟨mB,⟨o1,es,ep,a,b⟩,r1,w1⟩ k;exact⟨mB,⟨o1,es,ep,k _ a,b⟩,r1,w1⟩
section
variable{X:Cx}{Ab:Aa2}{σ:St}{H:Hp}{s:Shared}
theorem Inv.untrack {e:Addr} {φ:Heap->Prop} (I:Inv X Ab σ (Ag H e (.ext φ)) s)(j:H e=none):Inv X Ab σ H s:=by
 have g:∀b,(Ag H e (.ext φ)) b=none->H b=none:=λb q=>by
  by_cases f:b=e
  ·rw[f];exact j
  ·rw[qAB f] at q;exact q
 have d:∀b u,(Ag H e (.ext φ)) b=some u->(∀ψ,u≠.ext ψ)->H b=some u:=λb u q n=>by
  by_cases f:b=e
  ·rw[f,qA1] at q;cases q;exact absurd rfl (n φ)
  ·rw[qAB f] at q;exact q
 refine⟨I.ok,I.os,I.bare,⟨I.base.keep,I.base.slot,λb h q n l=>g _ (I.base.free b h q n l),I.base.there,λb i q=>d _ _ (I.base.tups b i q) (λ_ z=>nomatch z),λb h u q=>d _ _ (I.base.frzs b h u q) (λ_ z=>nomatch z),λb m q=>?_⟩,I.loc,I.cell,g _ I.free,λx c q=>g _ (I.freeC x c q),λp k=>?_,λb u q=>?_,I.len⟩
 ·exact d _ _ (I.base.tbls b m q) (λ_ z=>nomatch z)
 ·obtain⟨a,b,c⟩:=I.pin p k;exact⟨a,g _ b,c⟩
 ·have o:(Ag H e (.ext φ)) b=some u:=by rw[qAB (qA7 q j)];exact q
  exact(I.hok b u o).stay (λ_ _ _ z=>z) (λc z=>d _ _ z (λ_ z=>nomatch z)) (λc i z=>d _ _ z (λ_ z=>nomatch z)) λc t z=>d _ _ z (λ_ z=>nomatch z)
theorem Inv.flies {e C t:Addr} {i:Option Addr} {G:XK} (I:Inv X Ab σ H s)(h:X.ex=[])(r:s.heap.get? e=some (excObj C t i))(l:H e=none)(d:X.s₀.heap.objs.size<=e)(m:e∉frs X.stack)(g:G (.ref C) i H):XP X G (.ref e) s:=by
 have p:∀b,Kp X.outer H X.s₀.heap b->b∉e::frs X.stack:=λb k n=>by
  rcases C0.mp n with z|z
  ·rcases k with⟨o,q⟩|⟨⟨o,q⟩,_⟩
   ·rw[z,l] at q;cases q
   ·rw[z] at q;exact absurd (B9 q) (Nat.not_lt.mpr d)
  ·rcases k with⟨o,q⟩|⟨⟨o,q⟩,u⟩
   ·rw[I.stkFree b z] at q;cases q
   ·rcases C0.mp (I.stkSub b z) with z2|z2
    ·rw[z2] at q;exact absurd (B9 q) (Nat.not_lt.mpr I.ok.above)
    ·exact u z2
 have j:=I.base;rw[h] at j;refine⟨I.ok.frames,e,.ref C,i,H,B34 s.heap (e::frs X.stack),false,rfl,I.os,I.bare,⟨j,I.hok,⟨λb o q=>A83 _ q,A58 _ (by simp),?_,_,_,.none,r,rfl,rfl,rfl,rfl,.inl ⟨rfl,rfl⟩⟩,λb o q k=>A74 _ q (p b k),l,d⟩,g⟩
 exact PySem.W.funFrames_hide I.stack λf c a v=>C2 _ (k7.mpr ⟨f,c,v⟩)
end
def qYP (C:Addr)(sp:Sp)(G:XK)(t:TA):TS:=λ_ σ H=>t σ H λvs H1=>∀x,H1 x=none->sp (.ref x::vs) (Ag H1 x (ExcN x C none)) (λv H2=>v=.non/\∃dd H3,H2=Ag H3 x (ExcN x C dd)/\H3 x=none/\G (.ref C) dd H3) E0
theorem qTN {G:XK} {k:Nat} {C f:Addr} {fd:B88} {ps:List Str} {sp:Sp} {m:Str} {pn n pos:Pos} {a:Expr} {g:List Expr} {t:TA} (y:X.ex=[])(hc:X.calm=true)(c:XCls X.K C (some (.ref f)))(hf:A16 X.K (.ref f)=true)
  (F:FnOk X.prog X.w X.K X.mg X.base CX0 k f fd ps sp) (hr:Room (k+1) X.A) (hg:Gl X m) (hm:X.mg m=some (.ref C)) (hb:Binds X.K fd ps []) (ha:PA X.nox (a::g) t) (a2:ps.length<=100)
  (a0:(m==("__debug__" : Str))=false:=by decide) (he:B85 (a::g) X.env=(false,eval a X.env)::B85 g X.env:=by rfl) (a1:(backTo n (B85 g X.env)).any (·.1)=false:=by rfl):
  PS (X.wish (XP X G)) (.Raise (some (.Call (.Name m pn) (a::g) [] n)) none pos) (qYP C sp G t):=by
 intro Ab s σ H D I h;have I:=I.unwish;show wpAny (model X.prog X.w) X.A (exec (.Raise (some (.Call (.Name m pn) (a::g) [] n)) none pos) X.env) _ (XP X G) s;rw[arm_exec_Raise];refine B73 (C16 ?_);refine qaF (K:=X.K) (I.ok.hd hc) c.cls ?_;refine B73 (B83 ?_ (λv s₁ hv=>B73 (C16 (B74 hv))) λ_ _ z=>z);refine C06 (qJV I hg hm ?_ a0);refine A17 (h₀:=X.base) I.ok.mod.kin c.kp (B83 (ha n Ab s σ H _ (I.wish _) h) (λus s1 ⟨vs,H1,I1,r,q⟩=>⟨I1.unwish.kIn,?_⟩) λ_ _ z=>z.elim) he a1;have I1:=I1.unwish;have hq:=q (s1.heap.objs.size+1) (I1.hok.fresh (X5 _));have j:((s1.heap.push (argObj us)).push (excObj C s1.heap.objs.size none)).get? (s1.heap.objs.size+1)=some (excObj C s1.heap.objs.size none):=by heap_get
 have I2:Inv X Ab σ (Ag H1 (s1.heap.objs.size+1) (ExcN (s1.heap.objs.size+1) C none)) {s1 with heap:=(s1.heap.push (argObj us)).push (excObj C s1.heap.objs.size none)}:=
  I1.laid (t':=s1.toks) (λb o e=>A1 _ (A1 _ e)) (X5 _) (qV9 j)
 have r2:Vals (V.ref (s1.heap.objs.size+1)::vs) (C7 (s1.heap.objs.size+1)::us):=.cons rfl r;have hl:=F.len _ _ _ _ hq;have l:(C7 (s1.heap.objs.size+1)::us).length=ps.length:=by rw[<- r2.length];exact hl
 have x:BindsTo {s1 with heap:=(s1.heap.push (argObj us)).push (excObj C s1.heap.objs.size none)} fd ⟨C7 (s1.heap.objs.size+1)::us,[]⟩ (ps.zip (C7 (s1.heap.objs.size+1)::us)):=by
  have:=hb {s1 with heap:=(s1.heap.push (argObj us)).push (excObj C s1.heap.objs.size none)} (C7 (s1.heap.objs.size+1)::us) I2.kIn (by rw[M4];exact l)
  rw[M4] at this;exact this
 refine C19 (qcH (fI:=f) I1.kIn c.cls (beq_iff_eq.mp hf) ?_ (B99 (F.run _ X.stack _ _ ⟨C7 (s1.heap.objs.size+1)::us,[]⟩ (C7 (s1.heap.objs.size+1)::us) _ _ E0 (hr.make C us []) (I2.env0.make C us []) x r2 hq) λr s' d=>?_))
 ·rw[B80,a8];rw[J7] at l
  lia
 cases r with
 |error e=>exact P1 d
 |ok fl=>
  cases fl with
  |ret u=>
   obtain⟨v,H',p,rv,ev,dd,H3,e3,n3,g3⟩:=I2.after d;subst ev;subst e3;obtain⟨⟨t3,i⟩,_⟩:=p.hok _ _ qA1;refine⟨rv,s1.heap.objs.size+1,t3,dd,rfl,p.kIn,i,?_⟩;refine(p.untrack n3).flies y i n3 (F4 I1.sz (X5 _)) (λz=>?_) g3;have:=p.stkFree _ z;rw[qA1] at this;cases this
  |next=>exact P1 d
  |brk=>exact P1 d
  |cont=>exact P1 d
def qd2 (K:Ab1)(ta tv:TE)(f:Str)(C:Addr):TS:=λD σ H=>tv σ H λy H1=>ta σ H1 λx H2=>∃a dd,x=.ref a/\H2 a=some (ExcN a C dd)/\L8 K (.ref C) f=some none/\
 ((dd=none/\∀dx,H2 dx=none->dx≠a->D.nx σ (Ag (Ag H2 dx (XDic dx [(f,y)])) a (ExcN a C (some dx))))\/∃dx fs,dd=some dx/\dx≠a/\H2 dx=some (XDic dx fs)/\fs.length<1000/\D.nx σ (Ag H2 dx (XDic dx (putF f y fs))))
theorem qTM {C:Addr} {a3:Option Value} {o j:Expr} {f:Str} {pos a0:Pos} {ta tv:TE} (c:XCls X.K C a3)(ha:PE X o ta)(hv:PE X j tv)(hs:swapsWith j (some (.Attribute o f a0)) pos.line X.env=pure false:=by rfl):PS X (.Assign [.Attribute o f a0] j pos) (qd2 X.K ta tv f C):=by
 intro Ab s σ H D I h;refine plainObj_wpAny_Assign_Attribute (thn (hv Ab s σ H _ I h) λu s1 ⟨y,H1,I1,ry,q⟩=>thn (ha Ab s1 σ H1 _ I1 q) λov s2 ⟨x,H2,I2,rx,a,dd,ex,ea,hna,q2⟩=>?_) hs;subst ex;obtain rfl:ov=C7 a:=rx;obtain⟨⟨t,w⟩,_⟩:=I2.hok _ _ ea;obtain⟨i,g2,d2,t2,a5⟩:=s2;rcases q2 with⟨rfl,q2⟩|⟨dx,fs,rfl,a4,ed,hl,q2⟩
 ·refine xset (mA:=λ_=>none) (ns:=[]) I2.kIn c hna ⟨_,w,rfl,(λ_ z=>nomatch z),.inl ⟨rfl,λ_=>rfl⟩⟩ Within.nil (by simp) λh' v i1 i2 i3=>?_
  obtain⟨o1,e1,e2,e3,e4,_,k⟩:=i3 _ w;have k:=k rfl;obtain⟨o2,f1,f2,_,f4⟩:=i1;rw[e1] at f1;cases f1;have sz:a<i.objs.size:=B9 w;have nd:i.objs.size≠a:=V4 sz;have r:h'.get? a=some (excObj C t (some i.objs.size)):=by
   rw[e1];obtain⟨c1,c2,c3,c4⟩:=o1;simp only at e2 e3 e4 k;rw[e2,e3,e4,k]
  have n:h'.Ns1 i.objs.size (λy=>if y=f then some u else none):=by
   rcases f4 with⟨z,_⟩|⟨d,z,_,hn⟩
   ·rw[k] at z;cases z
   ·rw[k] at z;cases z;exact hn
  have fr:H2 i.objs.size=none:=I2.hok.fresh (B4 _);have kp:∀b ob,b≠a->i.get? b=some ob->h'.get? b=some ob:=λb ob hb q=>i2 b ob hb (λo₀ dx z1 z2=>by rw[w] at z1;cases z1;cases z2) q
  refine⟨σ,_,?_,q2 i.objs.size fr nd⟩;have I3:Inv X Ab σ (Ag H2 a (ExcN a C (some i.objs.size))) ⟨h',g2,d2,v,a5⟩:=
   I2.write (h':=h') (t':=v) (x:=a) (e:=a) (o:=ExcN a C (some i.objs.size)) (by rw[ea];exact trivial) (.inl rfl) (λb ob hb q=>kp b ob hb q) ⟨_,r⟩ (qV9 r)
  have na:(Ag H2 a (ExcN a C (some i.objs.size))) i.objs.size=none:=by rw[qAB nd];exact fr
  have lt:∀ b ob,i.get? b=some ob->b ≠ i.objs.size:=fun b ob q=>E7 (B9 q);have I4:=I3.track (T:=i.objs.size) (o:=XDic i.objs.size [(f,y)]) na (F4 I2.sz (B4 _)) (fun z=>by
    obtain⟨m,⟨oL,_,_,hL,_⟩,_⟩:=I2.loc;exact lt _ _ hL z.symm) (λy' c' q z=>by
    obtain⟨v',oc,q3,_⟩:=I2.cell y' c' q;exact lt _ _ q3 z) (λp hp z=>lt _ _ (I2.pin p hp).1 z) (qSY n (λg=>?_) (λg hg=>?_))
  ·have ec:Ag (Ag H2 a (ExcN a C (some i.objs.size))) i.objs.size (XDic i.objs.size [(f,y)])=Ag (Ag H2 i.objs.size (XDic i.objs.size [(f,y)])) a (ExcN a C (some i.objs.size)):=by
    funext b
    unfold Ag;by_cases a1:b=i.objs.size
    ·subst a1;simp[nd]
    ·by_cases l:b=a
     ·simp[a1,l,nd.symm]
     ·simp[a1,l]
   rw[<- ec];exact I4
  ·rw[Z5];by_cases q:g=f
   ·subst q;simp;exact ry
   ·rw[if_neg q,show(g==f)=false from beq_eq_false_iff_ne.mpr q];trivial
  ·by_cases q:g=f
   ·subst q;simp
   ·exact absurd (if_neg q) hg
 ·obtain⟨⟨mA,hm,hr,a2⟩,_⟩:=I2.hok _ _ ed;refine xset (mA:=mA) (ns:=fs.map (·.1)) I2.kIn c hna ⟨_,w,rfl,(λ_ z=>nomatch z),.inr ⟨dx,rfl,a4,hm⟩⟩ a2 (by rw[A0];lia) λh' v i1 i2 i3=>?_
  obtain⟨o1,e1,e2,e3,e4,k,_⟩:=i3 _ w;have k:=k dx rfl;obtain⟨o2,f1,f2,_,f4⟩:=i1;rw[e1] at f1;cases f1;have r:h'.get? a=some (excObj C t (some dx)):=by
   rw[e1];obtain⟨c1,c2,c3,c4⟩:=o1;simp only at e2 e3 e4 k;rw[e2,e3,e4,k]
  have n:h'.Ns1 dx (λy=>if y=f then some u else mA y):=by
   rcases f4 with⟨z,_⟩|⟨d,z,_,hn⟩
   ·rw[k] at z;cases z
   ·rw[k] at z;cases z;exact hn
  refine⟨σ,_,?_,q2⟩;refine I2.write (h':=h') (t':=v) (x:=dx) (e:=dx) (o:=XDic dx (putF f y fs)) (by rw[ed];exact trivial) (.inl rfl) (λb ob hb q=>?_) ?_ (qSY n (λg=>?_) λg hg=>?_)
  ·by_cases l:b=a
   ·rw[l] at q ⊢;rw[w] at q;cases q;exact r
   ·exact i2 b ob l (λo₀ a6 z1 z2=>by rw[w] at z1;cases z1;cases z2;exact hb) q
  ·obtain⟨o,_,_,ho,_⟩:=n;exact⟨o,ho⟩
  ·show RelO ((putF f y fs).lookup g) (if g=f then some u else mA g)
   rw[qJT];by_cases q:g=f
   ·rw[if_pos q,if_pos q];exact ry
   ·rw[if_neg q,if_neg q];exact hr g
  ·by_cases q:g=f
   ·rw[q];exact(qJY f y fs).1
   ·refine(qJY f y fs).2 g (a2 g λz=>hg ?_);show(if g=f then some u else mA g)=none
    rw[if_neg q];exact z
structure XGet (K:Ab1)(C:Addr):Prop where
 ga:L8 K (.ref C) "__getattribute__" = some (some (.builtin "BaseException.__getattribute__"))
 gt:L8 K (.ref C) "__getattr__" = some none
 be:A86 K C (.type "BaseException")=some true
 hd:A99 K C=true
structure XTy (K:Ab1)(C:Addr):Prop extends XGet K C where
 ca:L8 K (.ref C) "__class__" = some (some (.builtin "object.__class__"))
 cn:A25 K (.builtin "object.__class__") "__get__" = some (some (.builtin "getset_descriptor.__get__"))
 ct:B36 K (.builtin "object.__class__")=some true
 cm:A86 K C (.type "object")=some true
structure RoomH (k:Nat)(A:Around):Prop where
 dp:A.depth+3*k+5<recursionLimit
 un:A.units+16*k+200<cLine
structure FnOkH (P:B76)(w:World)(K:Ab1)(mg:Ab0)(base:Heap)(CX:CXT)(k:Nat)(f:Addr)(fd:B88)(ps:List Str)(sp:Sp):Prop where
 len:∀vs H Q E,sp vs H Q E->vs.length=ps.length
 run:∀(A:Around) (outer:List Env) (s:Shared) (H:Hp) (args:Args) (us:List Value) (vs:List V) (Q:VK) (E:XK),RoomH k A->Env0 P w K mg base A outer s H->BindsTo s fd args (ps.zip us)->Vals vs us->sp vs H Q E->
  C14 (model P w) A (.call (.ref f) args) (CR CX outer P w H s Q E) s
structure LcScopeO (X:Cx)(scope:Scope)(own:List Str)(fv:List Nat):Prop where
 kind:scope.kind=.function
 names:∀y∈scope.names,y.2=.local->scope.names.lookup y.1=some .local
 cells:∀y∈scope.names,y.2=.cell->scope.names.lookup y.1=some .cell
 frees:∀y∈scope.names,y.2=.free->scope.names.lookup y.1=some .free
 free:∀y∈scope.names,y.2=.free->X.env.kindOf y.1=some .cell\/X.env.kindOf y.1=some .free
 nd:(own++fv.map λi=>X.N.getD i U8).Nodup
 fvs:∀i∈fv,i<X.N.length/\scope.names.lookup (X.N.getD i U8)=some .free
 owns:∀x∈own,scope.names.lookup x=some .local\/scope.names.lookup x=some .cell
theorem qYD:B81 "any" = some (.builtin "any"):=by decide +kernel
theorem qS3 (d:List Bool):((Y1 d.length).any λi=>(d[i]?).getD false)=d.any id:=by
 rw[R4,t9,t9]
 constructor
 ·rintro⟨i,c,h⟩;have a:=V3.mp c;rw[B0 a] at h;exact⟨_,Q9 a,h⟩
 ·rintro⟨b,f,h⟩;obtain⟨i,c,e⟩:=Q2 f;exact⟨i,V3.mpr c,by rw[B0 c,e];exact h⟩
theorem qRL (n:X.calm=true):qDX X (.builtin "any") (λxs H Q=>∃(p:Addr) (bs:List Bool),xs=[.ref p]/\SqL X.K H p (bs.map V.bl)/\Q (.bl (bs.any id)) H):=by
 intro Ab s σ H xs us Q I r h;obtain⟨p,bs,rfl,y,q⟩:=h;obtain⟨u,rfl,z⟩:=qEI r;cases z;obtain⟨c,l,w,hz⟩:=I.list y;have g:=w.isList;have j:p<s.heap.objs.size:=by obtain⟨_,e,_⟩:=g;exact B9 e
 have a:=l.length;rw[A0] at a;refine call_any_walk (C17 g ?_);refine⟨s.heap.objs.size,[s.heap.objs.size,p],[s.heap.objs.size],c.toArray.size,_,_,λi=>(bs[i]?).getD false,rfl,B51 (A:=X.A.in1) (I.ok.hd n) _ p (E7 j) c.toArray,
  ⟨⟨_,B8 _ rfl,rfl,rfl⟩,g.push _⟩,λi v s' Q' E' o f=>?_,λh' tk hk=>?_⟩
 ·have d:c[i]?=some v:=by simpa using o
  have m:i<bs.length:=by rw[a];exact(B5.mp d).1
  obtain⟨u,k,t⟩:=l.get (i:=i) (x:=.bl bs[i]) (by rw[C6,B0 m];rfl)
  rw[d] at k;cases k;cases t;dsimp only at f;rw[B0 m,A40] at f;exact B91 f
 ·have e:((Y1 c.toArray.size).any λi=>(bs[i]?).getD false)=bs.any id:=by
   rw[C3,<- a];exact qS3 bs
  refine⟨.bl (bs.any id),H,I.kept λb x e=>hk b x (λhm=>by rw[B3.mp hm] at e;exact V1 _ (B9 e)) (A1 _ e),?_,q⟩
  rw[e]
  rfl
theorem qO5:OpR X (B94 .IsNot) (λx y H Q=>∃a b:Bool,x=.bl a/\y=.bl b/\Q (.bl (a != b)) H):=by
 intro e s σ H x y v u Q I d c h;obtain⟨a,b,rfl,rfl,q⟩:=h;cases d;cases c;exact wpAny_isNot_plain (by cases a<;>cases b<;>rfl) ⟨.bl (a != b),H,I,by cases a<;>cases b<;>rfl,q⟩
end _L
namespace HT
open PySem PySem.Spec PyProof.Rows
section
variable{prog:B76}{w:World}{A:Around}{E:Aa1}{s:Shared}
theorem getItem_tuple_whole {t e:Addr} {a:Array Value} {i j:Value} {lo hi:Option Int} {Q:Aa1} (b:IsTup s.heap t a)(k:s.heap.IsSliceOf e i j .none)(o:IsPart i lo)(p:IsPart j hi)
  (l:sIx a.size 0 lo=0/\sIx a.size a.size hi=a.size) (h:Q (.ref t) s):wpAny (model prog w) A (C37 (.ref t) (.ref e)) Q E s:=by
 obtain⟨m,f,g,n⟩:=id k;have d:s.TypeIs (.ref e) "slice":=⟨m,f,g⟩;unfold C37
 try with_reducible refine B84 ?_
 first|refine B73 (B74 ?_)|skip
 refine B73 (wpAny_sequenceKey b.typeIs (by decide) ?_)
 refine B73 (wpAny_callSpecial?_slot (name:=B1 "__getitem__") b.typeIs M7
  (B86 M7 b.typeIs entry_tuple_getitem ?_ (args_tuple_getitem _ _)))
 show wpAny _ _ (d5 (.ref t) >>= _) _ _ s;refine B73 (tupleItemsOf_ b ?_);refine B73 (C43 d ?_);rw[if_pos (by decide)]
 refine B73 (qF2 k o p ?_);have c:(((sIx a.size 0 lo:Nat):Int)==0&&(1:Int)==1&&(sIx a.size a.size hi-sIx a.size 0 lo)==a.size)=true:=by
  rw[l.1,l.2];simp
 show wpAny _ _ (if(((sIx a.size 0 lo:Nat):Int)==0&&(1:Int)==1&&(sIx a.size a.size hi-sIx a.size 0 lo)==a.size)=true then _ else _) _ _ s
 rw[if_pos c];unfold A14;refine B73 (B73 (C43 b.typeIs (B74 ?_)));rw[if_pos (by decide)]
 exact B73 (B98 (B74 ⟨_,rfl,B74 h⟩))
end
end HT
namespace _L
open PySem PySem.Spec PyProof.Rows
section
variable{X:Cx}{e:Expr}{te:TE}{st:Option Expr}{tst:TO}{pos p2:Pos}
def tSlR (K:Ab1)(te:TE)(tst:TO):TE:=λσ H Q=>te σ H λx H1=>tst σ H1 λl H2=>l=some (-1)/\∃a xs,x=.ref a/\SqL K H2 a xs/\∀p,H2 p=none->Q (.ref p) (Ag H2 p (.lst xs.reverse))
theorem qTW (w:PE X e te)(f:PO X st tst)(k:∀v l:Value,∃ops,subscripted (.Slice none none st p2) false v l=operate ops (C37 v l):=by intro v l;exact⟨_,by with_unfolding_all rfl⟩):PE X (.Subscript e (.Slice none none st p2) pos) (tSlR X.K te tst):=by
 intro i s σ H Q I h;refine Subscript_ (thn (w i s σ H _ I h) λv s1 ⟨x,H1,I1,r1,q1⟩=>?_);refine wpAny_Slice ?_;rw[evalPart_none];refine B74 (B74 (thn (f i s1 σ H1 _ I1 q1) λvk s3 ⟨u,H3,I3,pu,q3⟩=>?_));obtain⟨rfl,a,p,rfl,t,q⟩:=q3;cases r1;have j:Inv X i σ H3 {s3 with heap:=s3.heap.push {cls:=.type "slice",data:=.fields #[.none,.none,vk]}}:=I3.kept (t':=s3.toks) λb y q=>A1 _ q;obtain⟨c,r,m,z⟩:=j.list t;have n:=r.length;have g:Heap.IsSliceOf (s3.heap.push {cls:=.type "slice",data:=.fields #[.none,.none,vk]}) s3.heap.objs.size .none .none vk:=A88 ..;obtain⟨ops,d⟩:=k (.ref a) (.ref s3.heap.objs.size);refine tail_any (ops:=ops) m.isList.typeIs slot_list_getitem.lookup ?_ d;refine wpAny_getItem_list_slice m.isList g .none .none pu (by simp) ?_ (by rw[C3]<;>lia)
 rw[PySem.W.krv_pick,show c.toArray.toList.reverse.toArray=c.reverse.toArray by simp]
 refine⟨.ref _,_,j.laid (t':=s3.toks) (o:=.lst p.reverse) (λb y q=>A1 _ q) (B4 _) ?_,rfl,q _ (j.hok.fresh (B4 _))⟩;exact⟨by rw[W4];exact z,_,0,r.reverse,B8 _ rfl⟩
end
theorem qZP {K:Ab1} {b:Bool} {l m:Addr} {xs ys:List V} {g:TG} {h:TS} {D:Ends} {σ0:St} {H0:Hp} (d:xs.length=ys.length)(Pv:Nat->St->Hp->Prop)(u:Pv 0 σ0 H0)(t:∀i σ H,i<=xs.length->Pv i σ H->SqB b K H l xs/\SqB b K H m ys)
  (p:∀i x y σ H T,xs[i]?=some x->ys[i]?=some y->Pv i σ H->H T=none->g (.ref T) σ (Ag H T (.tup [x,y])) λσ2 H2=>h {D with nx:=Pv (i+1),ct:=Pv (i+1),bk:=D.nx} σ2 H2)
  (o:∀σ H,Pv xs.length σ H->D.nx σ H):
  ∃W:Nat->Nat->St->Hp->Prop,(∃m,W 0 m σ0 H0)/\∀i n σ H,W i n σ H->
   ((Itz K b l m).stop i H/\D.nx σ H)\/((Itz K b l m).go i H/\∃N:St->Hp->Prop,(∀σ' H',N σ' H'->∃m',m'<n/\W (i+1) m' σ' H')/\∀x H',(Itz K b l m).yld i H x H'->g x σ H' λσ2 H2=>h {D with nx:=N,ct:=N,bk:=D.nx} σ2 H2):=by
 refine⟨λi n σ H=>n=xs.length-i/\i<=xs.length/\Pv i σ H,⟨xs.length,by simp,J5 _,u⟩,?_⟩
 rintro i n σ H ⟨rfl,hi,q⟩;have a:=t i σ H hi q;by_cases c:i<xs.length
 ·refine .inr ⟨⟨xs,ys,xs[i],ys[i]'(by lia),a.1,a.2,by simp[c],B0 _⟩,Pv (i+1),λσ' H' k=>⟨xs.length-(i+1),by lia,rfl,c,k⟩,λv H' y=>?_⟩
  obtain⟨T,x,y,j,r,s,f⟩:=y;subst r s;exact p i x y σ H T (f xs ys a.1 a.2).1 (f xs ys a.1 a.2).2 q j
 ·have e:i=xs.length:=by lia
  subst e;exact .inl ⟨⟨xs,a.1,.inl (B4 _)⟩,o σ H q⟩
variable{X:Cx}
def EX (X:Cx)(Ab:Aa2)(G:St->XK)(ev:Value)(s2:Shared):Prop:=∃(σ1:St) (H1:Hp) (s1:Shared) (g:XK),Inv X Ab σ1 H1 s1/\CX1 X.prog X.w X.stack H1 s1 g ev s2/\∀cls dd H',g cls dd H'->G σ1 cls dd H'
def TB:Type:=(St->XK)->TS
def PB (X:Cx)(b:Stmt)(t:TB):Prop:=∀(Ab:Aa2) (s:Shared) (σ:St) (H:Hp) (D:Ends) (G:St->XK),Inv X Ab σ H s->t G D σ H->wpAny (model X.prog X.w) X.A (exec b X.env) (SP X Ab D) (EX X Ab G) s
def qcK (K:Ab1)(tb:TB)(c:Value)(j:Option Nat)(th:TS):TS:=λD σ H=>tb (λσ1 cls dd H2=>A67 K cls c=some true/\∀e,H2 e=none->th (D.off j) (onE σ1 e j) (Ag H2 e (ExcO e cls dd))) D σ H
theorem qZ1 {cn:Str} {body:Stmt} {pC ph pt:Pos} {b₀:Stmt} {f:List Stmt} {tb:TB} {th:TS} {c:Value} {nm:Option Str} {j:Option Nat} 
  (a3:X.stack=X.env::X.outer) (a6:X.env.frame=some X.env.locals) (hN:X.N.Nodup) (i:PB X body tb) (a4:Gl X cn) (a5:X.mg cn=some c)
  (hj:match j,nm with|none,none=>True|some j,some n=>X.N[j]?=some n/\X.env.scope.names.lookup n=some .local|_,_=>False)
  (hh:∀ev,PSs (X.held ev).nox (b₀::f) th) (a8:(cn==("__debug__" : Str))=false:=by decide):
  PS X (.Try [body] [.ExceptHandler (some (.Name cn pC)) nm (b₀::f) ph] [] [] pt) (qcK X.K tb c j th):=by
 intro Ab s σ H D I h;rw[arm_exec_Try];refine B73 (C16 ?_);refine wpAny_tryStmt_except ?_;refine C47 ?_;refine B83 (i Ab s σ H D _ I h) (λfl s2 q=>?_) λev s2 hq=>?_
 ·cases fl with
  |next=>exact C08 (C08 q)
  |brk=>exact q
  |cont=>exact q
  |ret u=>exact q
 ·obtain⟨σ,H1,s1,g0,l,hq,gg⟩:=hq;refine l.lands (E:=λ_ _ _=>True) a3 a6 hq λe a7 dd H2 B s3 ee r y g=>?_;subst ee;obtain⟨hc,g⟩:=gg _ _ _ g;obtain⟨oe,aa,a9,a1,a2,_⟩:=y.ex.rec_;have LT:PySem.W.Looks (model X.prog X.w) s3.heap (typeOf (.ref e)) a7:=by
   subst a2;exact(A42 a1).andThen .now
  refine wpAny_handleBy_cons (codeAny_handlers_test ?_) (by intro z;cases z)
  have J3:=r.held (.ref e);refine qJV J3 a4 a5 ?_ a8;refine(PySem.W.exm_one r.kIn LT hc).here ?_;have a0:=r.ok;cases nm with
  |none=>
   cases j with
   |some j=>exact hj.elim
   |none=>
    refine codeAny_handlers_suite (qFI y.ex λh4 x4 u4=>?_);have p:=y.step x4 u4 λb i=>i;have I4:Inv X Ab σ H2 {s3 with heap:=h4}:=l.call' (s':={s3 with heap:=h4}) (r.os.trans l.os.symm) p.un p.hok r.bare λb i=>absurd i (by simp)
    have I5:=I4.caught ⟨s1,l,rfl⟩ p;exact B83 (hh (.ref e) Ab _ σ _ D ((I5.held _).wish _) (g e y.ne)) (λfl s5 k=>SP.back a0 k) λ_ _ z=>z.elim
  |some n=>
   cases j with
   |none=>exact hj.elim
   |some j=>
    obtain⟨d,a⟩:=hj;refine codeAny_handlers_suite_as (qFI y.ex λh4 x4 u4=>?_);have p:=y.step x4 u4 λb i=>i;have I4:Inv X Ab σ H2 {s3 with heap:=h4}:=l.call' (s':={s3 with heap:=h4}) (r.os.trans l.os.symm) p.un p.hok r.bare λb i=>absurd i (by simp)
    have I5:=I4.caught ⟨s1,l,rfl⟩ p;refine qGP (v:=.ref e) I5 hN d (.inl a) rfl (λs6 I6=>?_) (.inr a);refine B83 (hh (.ref e) Ab _ _ _ _ ((I6.held _).wish _) (g e y.ne)) (λfl s5 k=>?_) λ_ _ z=>z.elim;have k:=SP.back a0 k;cases fl with
    |next=>obtain⟨σ7,x,o,m⟩:=k;exact o.goes hN d a λs8 t=>⟨_,x,t,m⟩
    |brk=>obtain⟨σ7,x,o,m⟩:=k;exact o.goes hN d a λs8 t=>⟨_,x,t,m⟩
    |cont=>obtain⟨σ7,x,o,m⟩:=k;exact o.goes hN d a λs8 t=>⟨_,x,t,m⟩
    |ret u=>obtain⟨v7,σ7,x,o,r7,m⟩:=k;exact o.goes hN d a λs8 t=>⟨v7,_,x,t,r7,m⟩
section
variable{prog:B76}{w:World}{A:Around}{E:Aa1}{s:Shared}{it d:Addr}{i n ep:Nat}{od:Obj}{es:Array DictEntry}
theorem qOW {Q:Aa1} (a:s.TypeIs (.ref d) "dict") (f:(d==C00)=false) (c:s.heap.get? d=some od) (b:od.data=.dict es ep)
  (e:Q (.ref s.heap.objs.size) {s with heap:=s.heap.push {cls:=.type "dict_keyiterator",data:=.fields #[.ref d,rawInt 0,rawInt es.size,rawInt ep]}}):wpAny (model prog w) A (pyIter (.ref d)) Q E s:=by
 apply wpAny_pyIter_slot a B26;refine B86 B26 a F.entry_dict_iter ?go (F.args_dict_iter_1 (.ref d));unfold Builtin.«dict.__iter__»;apply B73;unfold Builtin.Dict.dictSlotNone;apply B73;apply wpAny_notOrdered_dict a;apply B74;apply B73;apply B74;apply B73;unfold Builtin.Dict.showsAll;rw[f];apply B74;apply B73;apply wpAny_dictEntries c b;apply B73;apply wpAny_dictEpoch c b;apply B73;refine B82 ?made;apply B74;exact xR rfl ⟨"dict_keyiterator",_,⟨_,B8 _ rfl,rfl⟩,Q3.lookup,e⟩
def qSV (h:Heap) (it d:Addr) (i n ep:Nat):Prop:=h.get? it=some {cls:=.type "dict_keyiterator",data:=.fields #[.ref d,rawInt i,rawInt n,rawInt ep]}
theorem qOX {Q:Option Value->Shared->Prop} (a:qSV s.heap it d i es.size ep)(h:s.heap.get? d=some od)(g:od.data=.dict es ep)(hi:i<es.size)
  (j:∀h',qSV h' it d (i+1) es.size ep->Heap.SameBut it s.heap h'->Q (some es[i].key) {s with heap:=h'}):wpAny (model prog w) A (pyNext (.ref it)) Q E s:=by
 have c:s.TypeIs (.ref it) "dict_keyiterator":=⟨_,a,rfl⟩;unfold pyNext;apply B73;apply C10;apply wpAny_callSpecial?_slot (name:=B1 "__next__") c Q3;refine B86 Q3 c u7 ?go (t6 (.ref it));apply B73;apply B74;apply B73;apply B73;apply B73
 first|apply C11 c|apply C22 c
 apply B74;apply B73;refine wpAny_fieldsOf a rfl ?fs;have e:x9 "dict_keyiterator" = false:=by decide
 have k:((C7 d==M3)=true)->False:=λz=>by cases z
 simp only[e,G0,if_false];show wpAny _ _ (if(C7 d==M3)=true then _ else _) _ _ s
 rw[if_neg k];apply B73;apply B74;apply B73;apply wpAny_dictEntries h g;rw[if_neg (by simp)]
 apply B73;apply B74;apply B73;apply wpAny_dictEpoch h g;rw[if_neg (by simp)]
 apply B74;have f:¬((i:Int)<0):=Int.not_lt.mpr (A96 i);simp only[f,if_false,Y3,C8 hi];apply B73;apply B73
 first|apply C11 c|apply C22 c
 apply B74;apply B73;apply wpAny_isOneOf_keyiter c;show wpAny _ _ (setField (.ref it) 1 (rawInt ((i:Int)+1)) >>= _) _ _ s;apply B73;refine C02 a rfl (by show 1<4;decide) ?set
 have b:qSV (s.heap.update it (V2 (·.setIfInBounds 1 (rawInt ((i:Int)+1))))) it d (i+1) es.size ep:=L6 _ a rfl;apply B73;apply B84;apply B73;refine wpAny_isOneOf_keyiter (s:={s with heap:=s.heap.update it (V2 (·.setIfInBounds 1 (rawInt ((i:Int)+1))))}) ⟨_,b,rfl⟩ ?one;apply B74;apply B74;exact xR rfl (B74 (j _ b (Z2 ..)))
theorem qRF {Q:Option Value->Shared->Prop} (l:A.handled=none)(c:qSV s.heap it d i es.size ep)(hi:es.size<=i)(k:s.heap.get? d=some od)(j:od.data=.dict es ep)
  (n:∀h',Heap.ExtBut it s.heap h'->Q none {s with heap:=h'}):wpAny (model prog w) A (pyNext (.ref it)) Q E s:=by
 have f:s.TypeIs (.ref it) "dict_keyiterator":=⟨_,c,rfl⟩;unfold pyNext;apply B73;apply C10;apply wpAny_callSpecial?_slot (name:=B1 "__next__") f Q3;refine B86 Q3 f u7 ?go (t6 (.ref it));apply B73;apply B74;apply B73;apply B73;apply B73
 first|apply C11 f|apply C22 f
 apply B74;apply B73;refine wpAny_fieldsOf c rfl ?fs;have g:x9 "dict_keyiterator" = false:=by decide
 have r:((C7 d==M3)=true)->False:=λz=>by cases z
 simp only[g,G0,if_false];show wpAny _ _ (if(C7 d==M3)=true then _ else _) _ _ s
 rw[if_neg r];apply B73;apply B74;apply B73;apply wpAny_dictEntries k j;rw[if_neg (by simp)]
 apply B73;apply B74;apply B73;apply wpAny_dictEpoch k j;rw[if_neg (by simp)]
 apply B74;have h:¬((i:Int)<0):=Int.not_lt.mpr (A96 _);simp only[h,if_false,Y3,A48 hi];apply B73;apply B73
 first|apply C11 f|apply C22 f
 apply B74;show wpAny _ _ (setField (.ref it) 0 .none >>= _) _ _ s;apply B73;refine C02 c rfl (by show 0<4;decide) ?set
 have q:Heap.ExtBut it s.heap (s.heap.update it (V2 (·.setIfInBounds 0 M3))):=λb o p e=>(D5 _ _ (J4 p)).trans e;show wpAny _ _ (newExc (.type "StopIteration") [] >>= _) _ _ _;apply B73;simp only[newExc,newTuple];apply B73;refine B82 ?t1 (by size_fits)
 refine B73 (m:=C29 _ _) (C25 (a:=M3) (by first|rfl|(simp only[C29];rfl)) ?t2)
 refine B82 ?t3 (by size_fits)
 simp only[raiseNew];apply B73;apply wpAny_handled;rw[show A.in1.handled=none from l]
 first|apply wpAny_throw|(apply B73;apply B74;apply wpAny_throw)
 apply B73;refine C12 (T:="StopIteration") (b:=true) ⟨_,B8 _ rfl,rfl⟩ isSubtype_stop ?t4;exact B74 (n _ ((q.push _).push _))
end
section
variable{X:Cx}{tg:Expr}
def qcT (t:TE):TE:=λσ H Q=>t σ H λv H1=>∃d Af,v=.ref d/\H1 d=some (.dT Af)/\∀o,Q v (Ag H1 d (.frz o (.dT Af)))
theorem Inv.freezeT {Ab:Aa2} {σ:St} {H:Hp} {d:Addr} {Af:List (List KI×V)} (I:Inv X Ab σ H s)(h:H d=some (.dT Af)):∃o,Inv X Ab σ (Ag H d (.frz o (.dT Af))) s:=by
 have a:=I.hok d _ h;obtain⟨l,j,g,f,o,k,m,c,r⟩:=id a;refine⟨o,I.write (h':=s.heap) (t':=s.toks) (x:=d) (e:=d) (o:=.frz o (.dT Af)) (by rw[h];trivial) (.inl rfl) (λb u _ q=>q) ⟨o,c⟩ ⟨c,?_⟩⟩
 refine(show ObjOk X.prog X.w H s.heap d (.dT Af) from a).stay (λb u _ q=>q) (λb q=>?_) (λb i q=>?_) λb t q=>?_
 ·rw[qAB (qFB q h (by intro z;cases z))];exact q
 ·rw[qAB (qFB q h (by intro z;cases z))];exact q
 ·rw[qAB (qFB q h (by intro z;cases z))];exact q
theorem qTY {e:Expr} {t:TE} (c:PE X e t):PE X e (qcT t):=by
 intro b s σ H Q I h;refine thn (c b s σ H _ I h) λv s1 ⟨x,H1,I1,r1,d,Af,e,hd,q⟩=>?_;obtain⟨o,a⟩:=I1.freezeT hd;exact⟨x,_,a,r1,q o⟩
def ItT (a:Addr)(o:Obj)(Af:List (List KI×V)):It:=
 ⟨λi H=>i<Af.length/\H a=some (.frz o (.dT Af)),λi H x H'=>H'=H/\∃k v r,Af[i]?=some (k,v)/\x=.ref r/\H r=some (.tup (k.map kI)),λi H=>Af.length<=i/\H a=some (.frz o (.dT Af))⟩
theorem Inv.heldT {Ab:Aa2} {σ:St} {H:Hp} {d:Addr} {o:Obj} {Af:List (List KI×V)} (I:Inv X Ab σ H s)(h:H d=some (.frz o (.dT Af))):
  s.heap.get? d=some o/\(d==C00)=false/\o.cls=.type "dict"/\∃es ep,o.data=.dict es ep/\es.size=Af.length/\∀(i:Nat) (hi:i<es.size),∃k v r,Af[i]?=some (k,v)/\es[i].key=.ref r/\H r=some (.tup (k.map kI)):=by
 obtain⟨l,hz,q,f,b,o',es,ep,a,p,c,m,nd⟩:=(show ObjOk X.prog X.w H s.heap d (.frz o (.dT Af)) from I.hok d _ h);rw[l] at a;cases a;have t:f.length=Af.length:=b.length.symm;have u:es.size=f.length:=by rw[<- D6,m,A0]
 refine⟨l,q,p.1,es,ep,c,u.trans t,λi hi=>?_⟩;have n:i<f.length:=by lia
 have e:i<Af.length:=by lia
 have g:=B0 e;obtain⟨x,y,e1,z,e3⟩:=qQU b g;refine⟨Af[i].1,Af[i].2,x.2.1,g,?_,z⟩;have j:es[i]?=some (entryOfKey (qO8 X.prog X.w) x):=by rw[<- F9,m,C6,y];rfl
 rw[C8 hi] at j;rw[D7 j]
 rfl
theorem qRX {K:Ab1} {tg:Expr} (a g:Addr)(o:Obj)(Af:List (List KI×V))(ep:Nat)(es:_)(t:o.data=.dict es ep):Turn P w K tg (ItT a o Af) [g] g (λi h=>qSV h g a i Af.length ep) where
 mem:=by simp
 obj:=λi h d b f=>by
  have e:b=g:=by simpa using f
  subst e;exact⟨_,d,λv z=>by cases z⟩
 keep:=λi h n d k=>k g (by simp) _ d
 item:=by
  intro X u hw hK hc i Ab s σ H E I q d hg;subst u hw hK;obtain⟨hi,hq⟩:=hg;obtain⟨e1,e2,e3,a0,a1,l,p,m⟩:=I.heldT hq;rw[t] at l;cases l;obtain⟨f0,f1,f2,y,f4,x⟩:=q g (by simp)
  rw[<- p] at d;have j:i<es.size:=by lia
  obtain⟨k,v,r,g1,g2,g3⟩:=m i j;refine qOX d e1 t j λn c a2=>?_;have I1:Inv X Ab σ H {s with heap:=n}:=I.turned (t':=s.toks) (λb o f e=>(a2.2 b f).trans e) f0 f1 y f4 x;rw[p] at c;rw[g2];exact⟨.ref r,rfl,qX8 (s:={s with heap:=n}) c rfl rfl (by decide) ⟨.ref r,H,I1,rfl,⟨rfl,k,v,r,g1,rfl,g3⟩,c,λb f=>(q b f).1⟩⟩
 done:=by
  intro X u hw hK hc i Ab s σ H E I q d hg;subst u hw hK;obtain⟨hi,hq⟩:=hg;obtain⟨e1,e2,e3,a0,a1,l,p,m⟩:=I.heldT hq;rw[t] at l;cases l;obtain⟨f0,f1,f2,y,f4,x⟩:=q g (by simp)
  rw[<- p] at d;exact qRF (I.ok.hd hc) d (by lia) e1 t λn eb=>⟨rfl,I.turned (t':=s.toks) (λb o f e=>eb b o f e) f0 f1 y f4 x⟩
 self:=λ_ _ _ _ _ d h=>wpAny_pyIter_keyiter ⟨_,d,rfl,rfl⟩ h
def qc3 (tl:TE):TI:=λσ H R=>tl σ H λx H1=>∃a o Af,x=.ref a/\H1 a=some (.frz o (.dT Af))/\R (ItT a o Af) H1
theorem qMI {l:Expr} {c:TE} (p:PE X l c):PI X tg l (qc3 c):=by
 intro j s σ H R I h;refine thn (p j s σ H _ I h) λv s1 ⟨x,H1,I1,r1,q1⟩=>?_;obtain⟨a,o,r,e,n,q⟩:=q1;subst e;cases r1;obtain⟨d,m,g,k,w,f,u,t⟩:=I1.heldT n;refine qOW ⟨_,d,g⟩ m d f ?_;refine⟨s1.heap.objs.size,[s1.heap.objs.size],_,_,H1,rfl,I1.kept (t':=s1.toks) λb o e=>A1 _ e,qRX a _ o r w k f,by rw[u];exact B8 _ rfl,λb i=>?_,q⟩
 have e:b=s1.heap.objs.size:=by simpa using i
 subst e;exact I1.fpOk (B4 _) (I1.hok.fresh (B4 _))
end
theorem qR7 {a:Addr} {o:Obj} {Af:List (List KI×V)} {g:TG} {d:TT} {h:TE} {Kf:Hp->Prop} {σ0:St} {H0:Hp} {p:Addr} (Pv:Nat->St->Hp->Prop)(z:Pv 0 σ0 H0)(hl:∀i σ H,i<=Af.length->Pv i σ H->H a=some (.frz o (.dT Af)))
  (s:∀i k v r σ H,Af[i]?=some (k,v)->H r=some (.tup (k.map kI))->Pv i σ H->g (.ref r) σ H λσ2 H2=>d σ2 H2 λb H3=>if b=true then h σ2 H3 λy H4=>∃ys,H4 p=some (.lst ys)/\ys.length<B75/\Pv (i+1) σ2 (Ag H4 p (.lst (ys++[y]))) else Pv (i+1) σ2 H3)
  (n:∀σ H,Pv Af.length σ H->Kf H):
  LcG (ItT a o Af) g d h Kf σ0 H0 p:=by
 refine⟨λi m σ H=>m=Af.length-i/\i<=Af.length/\Pv i σ H,⟨Af.length,by simp,J5 _,z⟩,?_⟩
 rintro i m σ H ⟨rfl,hi,q⟩;have f:=hl i σ H hi q;by_cases c:i<Af.length
 ·refine .inr ⟨⟨c,f⟩,Pv (i+1),λσ' t j=>⟨Af.length-(i+1),by lia,rfl,c,j⟩,λx t y=>?_⟩
  obtain⟨e,k,v,r,u,l,w⟩:=y;subst e l;exact s i k v r σ _ u w q
 ·have e:i=Af.length:=by lia
  subst e;exact .inl ⟨⟨B4 _,f⟩,n σ H q⟩
section
variable{X:Cx}{k v:Expr}{tk tv:TE}{pos:Pos}
def qYR (tk tv:TE):TE:=λσ H Q=>∀p,H p=none->tk σ (Ag H p (.dT [])) λx H1=>tv σ H1 λy H2=>H2 p=some (.dT [])/\∃b ks,x=.ref b/\H2 b=some (.tup (ks.map kI))/\Q (.ref p) (Ag H2 p (.dT [(ks,y)]))
theorem qTZ (t:X.A.units+2<cLine)(hk:PE X k tk)(hv:PE X v tv):PE X (.Dict [some k] [v] pos) (qYR tk tv):=by
 intro g s σ H Q I q;have m:=I.hok.fresh (B4 s.heap.objs.size);have l:=I.laid (a:=s.heap.objs.size) (o:=.dT []) (h':=s.heap.push {cls:=.type "dict",data:=.dict #[]}) (t':=s.toks) (λ_ _ q=>A1 _ q) (B4 _) (qRG s.heap I.big);rw[arm_eval_Dict,zip_pairTrees [some k] [v] X.env pos rfl rfl,dictDisplay_pairs _ (by intro z;cases z) (by show 1<17;decide)]
 apply B73;apply C16;apply B73;unfold subDict;apply B73;refine wpAny_alloc ?_;apply B73;apply B84;rw[if_pos (show(pairTrees [some k] [v] X.env pos).length<=15 by show 1<=15;decide)]
 apply B73;refine pairTrees_cons_walk (thn (hk g _ σ _ _ l (q _ m)) λu s1 ⟨x,H1,I2,rx,q1⟩=>thn (hv g _ σ _ _ I2 q1) λr s2 ⟨y,H2,I3,ry,e,b,ks,ex,eb,q2⟩=>pairTrees_nil_walk ?_);subst ex;obtain rfl:u=C7 b:=rx;apply B84;obtain⟨z,n,xs,d,dd⟩:=qc9 I3.hok e;have hz:xs.length<=B75:=by rw[<- C5 d];exact z
 apply B73;simp only[R7,A66];apply B73;apply B73;refine wpAny_dictSet_heap (knd:=qO8 X.prog X.w) (hsz:=hz) ?_ (qLT I3.hok eb) dd λh' f hs=>?_
 ·exact A24 t
 apply B74;apply B74;apply B74;apply B74;apply B74;refine⟨.ref s.heap.objs.size,_,?_,rfl,q2⟩;obtain⟨j,es,ep,i,h2,h3,h4,_,p⟩:=f;refine qN8 I3 (by rw[e];exact Y2) hs ⟨j,i⟩ ⟨F4 (show 1<=2 by decide) (by decide),n,_,(d.put ks eb ry).keeps λc ys h=>?_,j,es,ep,i,h2,h3,h4,p⟩
 rw[qAB (qFB h e (λz=>nomatch z))];exact h
end
theorem qVX {p:Pos} {a b:Int} {c d:Value} :∀{l:List Value},TriplesOk l->codeAmong p (l++[rawInt a,rawInt b,c])=some d->codeAmong p l=some d\/d=c:=by
 intro l h e
 fun_induction TriplesOk l with
 |case1=>
  simp only[a8,rawInt,codeAmong] at e
  split at e
  ·exact .inr (D7 e).symm
  ·cases e
 |case2 a' t b' u x rest ih=>
  simp only[A43,codeAmong] at e ⊢
  split at e
  ·rename_i hc
   rw[if_pos hc];exact .inl e
  ·rename_i hc
   rw[if_neg hc];exact ih h e
 |case3 l h1 h2=>exact h.elim
def BM (mg:Ab0) (h:Heap):Prop:=∃bm ob,mg "__builtins__" = some (.ref bm)/\bm≠C52/\h.get? bm=some ob/\ob.cls=.type "module"/\ob.dict=some C52/\ob.data=.plain
section
variable{X:Cx}{Ab:Aa2}{σ:St}{H:Hp}{s:Shared}
noncomputable abbrev lamO (X:Cx)(q:Str)(params:C09)(body:Expr)(scope:Scope)(cc:Addr)(ctv:Value):Obj:=
 {cls:=.type "function",data:=.func (i9 "<lambda>" q params body scope (qHI X.env scope.names []) ((X.mg "__name__").getD .none) (.ref cc) ctv)}
theorem qc7 {a:C09} {body:Expr} {d:Scope} {pos:Pos} {c P:Addr} {q:Str} {Q:Aa1} 
  (I:Inv X Ab σ H s) (hb:BM X.mg X.base) (i:X.env.code=.ref c) (C:PySem.W.CodeHd X.base c P) (y:H P=some (.tbl (.tab q))) (hq:X.env.qual ++ "<lambda>" = q)
  (a7:∀x,(x,O0)∈d.names->∃c,X.env.cells.lookup x=some c) (aa:defaultsOf a X.env=([],[]))
  (h:∀ (f cc:Addr) (ctv:Value) (s':Shared) (H':Hp),Inv X Ab σ H' s'->(∀ b o,H b=some o->H' b=some o)->H' cc=some (.tbl (.cod q))->
   s'.heap.get? f=some (lamO X q a body d cc ctv)->s.heap.objs.size<=f->H' f=none->Q (.ref f) s'):
  wpAny (model X.prog X.w) X.A (eval (.Lambda a body d pos) X.env) Q E s:=by
 obtain⟨a5,a6,tr,a9⟩:=(show ObjOk X.prog X.w H s.heap P (.tbl (.tab q)) from I.hok P _ y);have hg:s.heap.Ns B89 X.mg:=I.ok.mod.glob.keeps I.bk;have nP:∀b o,X.base.get? b=some o->b≠P:=λb o e z=>by
  have:=(I.bs b o e).2;rw[z,y] at this;cases this
 have ad:B89≠P:=by
  obtain⟨o,es,ep,e,_⟩:=I.ok.mod.glob;exact nP _ _ e
 have a8:s.heap.BuiltinsAt X.mg P:=by
  obtain⟨bm,ob,b1,b2,b3,b4,b5,b6⟩:=hb;refine⟨bm,ob,b1,b2,?_,nP _ _ b3,I.bk _ _ b3,b4,b5,b6⟩;rintro rfl;obtain⟨o,es,ep,e,hd,_⟩:=I.ok.mod.glob;rw[e] at b3;cases b3;rw[hd] at b6;cases b6
 refine PySem.W.kla_eval aa ?_;rw[hq];cases hca:codeAmong pos a5.toList with
 |some cv=>
  obtain⟨cc,rfl,af⟩:=a9 pos cv hca;refine PySem.W.kla_makeFunctionHit (qI6 a7) I.ok.glob hg i (C.keeps I.bk) a6 tr hca a8 λctv h' tk hk a4=>?_;exact h h'.objs.size cc ctv _ H (I.kept (t':=tk) λb u e=>A1 _ (hk b u e)) (λ_ _ z=>z) af (B8 _ rfl) a4 (I.hok.fresh a4)
 |none=>
  refine PySem.W.kla_makeFunction (qI6 a7) I.ok.glob hg i (C.keeps I.bk) a6 tr hca ad a8 λl ctv h' tk hx a2 ag a1 a0=>?_;have ac:H l=none:=I.hok.fresh a2;have j:∀b o,H b=some o->(Ag H l (.tbl (.cod q))) b=some o:=λb o e=>by rw[qAB (qA7 e ac)];exact e
  have k:∀b,H b=none->b≠P:=λb n z=>by rw[z,y] at n;cases n
  have I':Inv X Ab σ (Ag H l (.tbl (.cod q))) {s with heap:=h'.push (lamO X q a body d l ctv),toks:=tk}:=by
   refine I.step (g':=s.gens) (d':=s.drawn) (ch:=[]) (λ_ z=>nomatch z) (λb o _ _ _ e n=>A1 _ (hx b o (k b n) e)) (λb o _ _ _ e n=>⟨o.slots,A1 _ (hx b o (k b n) e)⟩)
    (λb o _ e n=>by rw[qAB (E7 (D9 (B9 e) a2))];exact n) (λb o _ e=>?_) (λb xs e=>j _ _ e) (λb o u e=>j _ _ e) (λb t e=>j _ _ e) (λm hm=>(hm.extBut hx (k _ I.free)).push _) (λb u e=>?_) I.bare
   ·by_cases g:b=P
    ·exact⟨_,A1 _ (g▸a0)⟩
    ·exact⟨o,A1 _ (hx b o g e)⟩
   ·by_cases ab:b=l
    ·subst ab;rw[qA1] at e;cases e;obtain⟨c₂,oc,vs,t,e2,ae,r⟩:=a1;cases e2;exact⟨b,oc,vs,t,rfl,A1 _ ae,r⟩
    ·rw[qAB ab] at e;by_cases g:b=P
     ·subst g;rw[y] at e;cases e;refine⟨_,A1 _ a0,?_,λa3 cv z=>?_⟩
      ·rw[F0];exact TriplesOk_snoc _ _ _ _ tr
      ·rw[F0] at z;rcases qVX tr z with z|z
       ·obtain⟨p,e1,e2⟩:=a9 a3 cv z;exact⟨p,e1,j _ _ e2⟩
       ·exact⟨l,z,qA1⟩
     ·refine(I.hok b u e).stay (λp v ah z=>A1 _ (hx p v ?_ z)) (λp z=>j _ _ z) (λp xs z=>j _ _ z) λp t z=>j _ _ z;rcases ah with z|z
      ·rw[z];exact g
      ·intro z2;rw[z2,y] at z;cases z
  exact h h'.objs.size l ctv _ _ I' j qA1 (B8 _ rfl) (by lia) (by rw[qAB (V4 ag)];exact I.hok.fresh (by lia))
structure LmScope (X:Cx)(scope:Scope)(p:Str)(fv:List Nat):Prop where
 kind:scope.kind=.function
 co:scope.isCoroutine=false
 gen:scope.isGenerator=false
 nocell:∀y∈scope.names,y.2≠.cell
 par:scope.names.lookup p=some .local
 free:∀y∈scope.names,y.2=.free->X.env.kindOf y.1=some .cell\/X.env.kindOf y.1=some .free
 fvs:∀i∈fv,i<X.N.length/\scope.names.lookup (X.N.getD i U8)=some .free
structure LmZ where
 A:Around
 f:Addr
 cd:Value
 s₀:Shared
 H₀:Hp
 rm:Room 0 A
noncomputable abbrev lmEnv (X:Cx)(scope:Scope)(q:Str)(z:LmZ):Env:=PySem.W.envX q scope z.s₀.heap.objs.size z.f z.cd (qHI X.env scope.names [])
noncomputable def lmCx (X:Cx)(scope:Scope)(p:Str)(fv:List Nat)(q:Str)(z:LmZ):Cx where
 prog:=X.prog
 w:=X.w
 K:=X.K
 mg:=X.mg
 base:=X.base
 A:=z.A.deeper (lmEnv X scope q z)
 N:=p::fv.map λi=>X.N.getD i U8
 s₀:=z.s₀
 H₀:=z.H₀
 env:=lmEnv X scope q z
 outer:=X.stack
 stack:=lmEnv X scope q z::X.stack
 ex:=[]
 fn:=λ_=>false
 calm:=true
 pn:=[]
 xe:=noX
theorem LmScope.fr {a:Scope} {p:Str} {fv:List Nat} (S:LmScope X a p fv)(I:Inv X Ab σ H s):∀x,(x,O0)∈a.names->∃c,X.env.cells.lookup x=some c:=λx b=>I.ok.has x (S.free _ b rfl)
theorem qdF {a:Scope} {p:Str} {fv:List Nat} {q:Str} {A:Around} {f:Addr} {cd:Value} (j:Room 0 A)(I:Inv X Ab σ H s)(S:LmScope X a p fv)(n:A.frames=some X.stack):
  (lmCx X a p fv q ⟨A,f,cd,s,H,j⟩).Ok:=by
 have h:=S.fr I;have e:=qFJ (env:=X.env) (names:=a.names) (acc:=[]) h (λx c z=>by simp at z)
 have d:∀b:Addr,b∉(lmCx X a p fv q ⟨A,f,cd,s,H,j⟩).ex:=λb z=>absurd (show b∈([]:List Addr) from z) (by simp)
 refine⟨I.ok.mod,S.kind,rfl,rfl,B4 _,λx y c l m=>I.ok.inj x y c (e _ _ l) (e _ _ m),λx g=>?_,λx c g=>(nomatch g),λ_=>j.hd,A59 n,.inr ⟨rfl,rfl⟩,λb z=>absurd z (d b),I.bs,F4 I.ok.bsz I.sz,λb _ _=>d b,λb z=>absurd z (d b),I.stack,I.stkFree⟩;have k:a.names.lookup x=some .cell\/a.names.lookup x=some .free:=g;rcases k with z|z
 ·exact absurd rfl (S.nocell _ (N9 z))
 ·exact qFK (.inl (N9 z))
noncomputable def qI0 (fv:List Nat)(σ:St)(x:V):St:=some x::fv.map λi=>(σ[i]?).join
theorem qWU {a:Scope} {p:Str} {fv:List Nat} {q:Str} {A:Around} {f:Addr} {cd:Value} {x:V} {u:Value} {h₁:Heap} {tk:Nat} (rm:Room 0 A)(I:Inv X Ab σ H s)(S:LmScope X a p fv)(hA:A.frames=some X.stack)(hx:RelV x u)
  (w:h₁.Ns s.heap.objs.size (λy=>[(p,u)].reverse.lookup y)) (r:∀b o,s.heap.get? b=some o->h₁.get? b=some o):
  Inv (lmCx X a p fv q ⟨A,f,cd,s,H,rm⟩) [] (qI0 fv σ x) H {s with heap:=h₁,toks:=tk}:=by
 have a1:=S.fr I;have k:=qFJ (env:=X.env) (names:=a.names) (acc:=[]) a1 (λx c z=>by simp at z)
 refine⟨qdF rm I S hA,rfl,I.bare,Un.kept r,⟨_,w,λi y v d g h3=>?_⟩,λy c e=>?_,I.hok.fresh (B4 _),λy c e=>I.freeC y c (k _ _ e),λp hp=>absurd (show p∈([]:Aa2) from hp) (by simp),I.hok.kept r,?_⟩
 ·have d:(p::fv.map λi=>X.N.getD i U8)[i]?=some y:=d;unfold qI0 at g;cases i with
  |zero=>
   cases d;cases g;refine⟨u,hx,.inl ⟨S.par,?_⟩⟩;simp
  |succ i=>
   rw[List.getElem?_cons_succ,C6] at d g;cases e:fv[i]? with
   |none=>rw[e] at d;cases d
   |some j=>
    rw[e] at d g;have hj:=S.fvs j (D4 e);have d:X.N.getD j U8=y:=D7 d;have g:(σ[j]?).join=some v:=D7 g;have a2:σ[j]?=some (some v):=by
     cases q:σ[j]? with
     |none=>rw[q] at g;cases g
     |some y=>rw[q] at g;exact congrArg some g
    have a0:X.N[j]?=some y:=by
     rw[J9] at d;rw[B0 hj.1] at d ⊢;exact congrArg some d
    have l:a.names.lookup y=some .free:=d ▸ hj.2;have h:=N9 l;obtain ⟨m,hn,hl⟩:=id I.loc;have n:=S.free _ h rfl;obtain ⟨u,ru,lk⟩:=hl j y v a0 a2 (by
     rcases n with z|z
     ·exact .inr (.inl z)
     ·exact .inr (.inr z))
    refine⟨u,ru,?_⟩;rcases lk with⟨z,_⟩|⟨_,c,e1,z⟩
    ·rcases n with y'|y'
     ·have y':X.env.kindOf y=some .cell:=y';rw[z] at y';cases y'
     ·have y':X.env.kindOf y=some .free:=y';rw[z] at y';cases y'
    ·obtain⟨c',e2⟩:=qFK (env:=X.env) (names:=a.names) (acc:=[]) (x:=y) (.inl h);have e3:=k _ _ e2;rw[e1] at e3;cases e3;obtain⟨o,ho,t⟩:=z;exact .inr ⟨.inr l,c,e2,o,r _ _ ho,t⟩
 ·obtain⟨v,o,ho,t⟩:=I.cell y c (k _ _ e);exact⟨v,o,r _ _ ho,t⟩
 ·unfold qI0;show _=(p::fv.map λi=>X.N.getD i U8).length;simp
theorem qWW {c:C09} {body:Expr} {a:Scope} {p:Str} {fv:List Nat} {q:Str} {A:Around} {f g:Addr} {l u:Value} {x:V} {te:TE} {Q:VK} (m:Room 0 A)(I:Inv X Ab σ H s)(S:LmScope X a p fv)(hA:A.frames=some X.stack)
  (hf:s.heap.get? f=some (lamO X q c body a g l)) (n:H g=some (.tbl (.cod q))) (hx:RelV x u)
  (d:∀(cl:List (Str×Addr)) (pm cd ct u:Value),C42 (i9 "<lambda>" q c body a cl pm cd ct) ⟨[u],[]⟩=pure [(p,u)])
  (he:∀z,PE (lmCx X a p fv q z) body te) (h:te (qI0 fv σ x) H Q):
  C14 (model X.prog X.w) A (.call (.ref f) ⟨[u],[]⟩) (λr s'=>∃v y H',r=.ok (.ret v)/\Inv X Ab σ H' s'/\RelV y v/\Q y H'/\Un (frs X.stack) [] H H' s.heap s'.heap) s:=by
 have i:s.heap.CodeRec (.ref g) q:=(show ObjOk X.prog X.w H s.heap g (.tbl (.cod q)) from I.hok g _ n);refine PySem.W.kla_callFunE m.depth hf rfl S.co S.gen rfl i ?_;rw[d];refine B74 (wpAny_newFunctionEnv S.nocell (λy hy=>?_) (λh₁ k j=>⟨I.nolimit.fresh _ j,?_⟩) S.kind)
 ·rw[B3.mp hy];exact S.par
 have t:∀b o,s.heap.get? b=some o->h₁.get? b=some o:=λb o e=>j.extBut b o (E7 (B9 e)) (A1 _ e);refine PySem.W.kla_codeExpr ?_;have J:=qWU (q:=q) (f:=f) (cd:=.ref g) (tk:=s.toks+[(p,u)].length) m I S hA hx k t;refine B83 ((he ⟨A,f,.ref g,s,H,m⟩) [] _ _ H Q J h) (λv s' ⟨y,H',J',ry,qy⟩=>?_) λ_ _ z=>z.elim;exact⟨v,y,H',rfl,I.call' (ch:=[]) J'.os J'.base J'.hok J'.bare (λb hb=>absurd hb (by simp)),ry,qy,J'.base⟩
end
abbrev Sm0 (H H':Hp):Prop:=∀b o,H b=some o->H' b=some o
noncomputable def LamF (X:Cx)(q:Str)(params:C09)(body:Expr)(scope:Scope)(cc:Addr)(ctv:Value)(f:Addr):HO:=.ext λh=>h.get? f=some (lamO X q params body scope cc ctv)
def tLam (X:Cx)(P:Addr)(q:Str)(params:C09)(body:Expr)(scope:Scope):TE:=λσ H Q=>H P=some (.tbl (.tab q))/\
 ∀f cc ctv H',Sm0 H H'->H f=none->H' f=some (LamF X q params body scope cc ctv f)->H' cc=some (.tbl (.cod q))->Q (.ref f) H'
theorem qb5 {a:C09} {body:Expr} {d:Scope} {pos:Pos} {c P:Addr} {q:Str} {p:Str} {fv:List Nat} (hb:BM X.mg X.base) (i:X.env.code=.ref c) (C:PySem.W.CodeHd X.base c P) (hq:X.env.qual ++ "<lambda>" = q)
  (S:LmScope X d p fv) (n:defaultsOf a X.env=([],[])):PE X (.Lambda a body d pos) (tLam X P q a body d):=by
 intro Ab s σ H Q I ⟨hP,h⟩;refine qc7 I hb i C hP hq (S.fr I) n λf u j s' H' I' sm l y g w=>?_;have m:H f=none:=I.hok.fresh g;have t:u≠f:=qA7 l w
 -- f is tracked from now on
 have hF:X.s₀.heap.objs.size<=f:=F4 I.sz g;have I2:Inv X Ab σ (Ag H' f (LamF X q a body d u j f)) s':=by
  refine I'.track w hF (V4 (D9 I.lt g)) (λx c e z=>?_) (λp hp z=>?_) ⟨y,⟨_,y⟩,λh1 h2 x k=>k _ x⟩
  ·obtain⟨v,hc⟩:=I.cell x c e;exact absurd (D9 hc.lt (by rw[z];exact g)) (V1 _)
  ·exact absurd (D9 (B9 (I.pin p hp).1) (by rw[z];exact g)) (V1 _)
 refine⟨.ref f,_,I2,rfl,h f u j _ (λb o e=>?_) m qA1 (by rw[qAB t];exact l)⟩
 rw[qAB (qA7 e m)];exact sm b o e
noncomputable def qF3 {α:Type}:α×List Int->List (α×List Int)->α
 |b,[]=>b.1
 |b,x::r=>if HT.lexLt x.2 b.2=true then qF3 x r else qF3 b r
structure KCmp (X:Cx)(KR:Hp->V->List Int->Prop):Prop where
 mono:∀H H' y k,Sm0 H H'->KR H y k->KR H' y k
 cmp:∀(Ab:Aa2) (σ:St) (s:Shared) (H:Hp) (y y':V) (u u':Value) (k k':List Int) (Q:Aa1) (E:Aa1),Inv X Ab σ H s->RelV y u->RelV y' u'->KR H y k->KR H y' k'->Q (.bool (HT.lexLt k k')) s->
  wpAny (model X.prog X.w) X.A.in1 (richCompare .Lt u u') Q E s
theorem Inv.fpStk {Ab:Aa2} {σ:St} {H:Hp} {b:Addr} (I:Inv X Ab σ H s)(f:FpOk X Ab H b):b∉frs X.stack:=λz=>by
 rcases C0.mp (I.stkSub b z) with e|e
 ·exact f.2.1 e
 ·exact f.2.2.1 e
theorem FpOk.to {Ab:Aa2} {H H':Hp} {b:Addr} (f:FpOk X Ab H b)(h:H' b=none):FpOk X Ab H' b:=⟨h,f.2⟩
structure KeyAt (X:Cx)(σ:St)(fv:List Nat)(te:TE)(KR:Hp->V->List Int->Prop)(H0:Hp)(xs:List V)(ks:Aa0):Prop where
 len:ks.length=xs.length
 key:∀(i:Nat) (x:V) (k:List Int),xs[i]?=some x->ks[i]?=some k->∀Hc,Sm0 H0 Hc->te (qI0 fv σ x) Hc λy H'=>Sm0 Hc H'/\KR H' y k
section
variable{Ab:Aa2}{σ:St}{params:C09}{body:Expr}{scope:Scope}{p:Str}{fv:List Nat}{q:Str}{te:TE}{KR:Hp->V->List Int->Prop}{l f cc:Addr}{ctv:Value}{H0:Hp}{xs:List V}{ks:Aa0}{Q:VK}
theorem qUN {H:Hp} {b S:Addr} {i:Nat} {x:V} {k:List Int} {u:Value} (rm:Room 1 X.A) (hA:X.A.in1.frames=some X.stack) (S':LmScope X scope p fv) (a:∀(cl:List (Str×Addr)) (pm cd ct u:Value),C42 (i9 "<lambda>" q params body scope cl pm cd ct) ⟨[u],[]⟩=pure [(p,u)])
  (he:∀z,PE (lmCx X scope p fv q z) body te) (KA:KeyAt X σ fv te KR H0 xs ks) (hf:H0 f=some (LamF X q params body scope cc ctv f)) (m:H0 cc=some (.tbl (.cod q)))
  (I:Inv X Ab σ H s) (l:Sm0 H0 H) (hx:xs[i]?=some x) (hk:ks[i]?=some k) (rx:RelV x u) (c:FpOk X Ab H b) (j:FpOk X Ab H S) {d g:Obj} (o:s.heap.get? b=some d) (n:s.heap.get? S=some g) {Q':Aa1} {E:Aa1}
  (h:∀v y H' s',Inv X Ab σ H' s'->Sm0 H H'->RelV y v->KR H' y k->FpOk X Ab H' b->FpOk X Ab H' S->s'.heap.get? b=some d->s'.heap.get? S=some g->Q' v s'):wpAny (model X.prog X.w) X.A.in1 (call (.ref f) [u]) Q' E s:=by
 have t:s.heap.get? f=some (lamO X q params body scope cc ctv):=(show ObjOk X.prog X.w H s.heap f (LamF X q params body scope cc ctv f) from I.hok f _ (l _ _ hf)).1;refine C19 (B99 (qWW rm.in1 I S' hA t (l _ _ m) rx a he (KA.key i x k hx hk H l)) λr s' ⟨v,y,H',e,I',ry,⟨sm',kr⟩,un⟩=>?_);subst e;exact h v y H' s' I' sm' ry kr (c.to (un.free b d o c.1 (by simp))) (j.to (un.free S g n j.1 (by simp))) (un.keep b d o c.1 (I.fpStk c) (by simp)) (un.keep S g n j.1 (I.fpStk j) (by simp))
theorem qSG {it S:Addr} {kw:List (Str×Value)} (hc:X.calm=true) (rm:Room 1 X.A) (hA:X.A.in1.frames=some X.stack) (S':LmScope X scope p fv) (a0:∀(cl:List (Str×Addr)) (pm cd ct u:Value),C42 (i9 "<lambda>" q params body scope cl pm cd ct) ⟨[u],[]⟩=pure [(p,u)])
  (he:∀z,PE (lmCx X scope p fv q z) body te) (KC:KCmp X KR) (KA:KeyAt X σ fv te KR H0 xs ks) (hf:H0 f=some (LamF X q params body scope cc ctv f)) (ag:H0 cc=some (.tbl (.cod q))) (hl:SqL X.K H0 l xs) (t:it≠S)
  (h:∀H',Sm0 H0 H'->SqL X.K H' l xs):
  ∀(k j:Nat) (s:Shared) (H:Hp) (bx y:V) (bk:List Int) (bu bv:Value) (c:Nat),xs.length-j=k->j<=xs.length->Inv X Ab σ H s->Sm0 H0 H->FpOk X Ab H it->FpOk X Ab H S->s.heap.IsListIter it l j->
   s.heap.get? S=some {cls:=.type "list",dict:=none,data:=.seq #[bu,bv] c,slots:=#[]}->RelV bx bu->RelV y bv->KR H y bk->(∀H',Sm0 H0 H'->Q (qF3 (bx,bk) ((xs.zip ks).drop j)) H')->
   C14 (model X.prog X.w) X.A (.builtin "min.loop" ⟨[.ref it,.ref f,.ref S],kw⟩) (λr s'=>∃v,r=.ok (.ret v)/\EP X Ab σ Q v s') s:=by
 have i:(toString "min" ++ toString ".loop" : String) = "min.loop":=by decide
 intro k
 induction k with
 |zero=>
  intro j s H bx y bk bu bv c hk hj I sm g fS a1 hS rb ry kb n;obtain⟨ac,rv,pl,hz⟩:=I.list (h H sm);have ai:=rv.length;refine B92 m8 ?_;rw[L9 P7 _];show wpAny _ X.A.in1 (seqItems? (.ref S) >>= _) _ _ s;refine B73 (B95 hS rfl ?_);show wpAny _ X.A.in1 (tryCatch (pyNext (.ref it)) _ >>= _) _ _ s;refine B73 (C21 (C51 (rm.in1.hd) a1 pl.isList (by simp;lia) λh' eb=>?_))
  have I1:Inv X Ab σ H {s with heap:=h'}:=I.turned (t':=s.toks) (λb o m e=>eb b o m e) g.1 g.2.1 g.2.2.2.1 g.2.2.2.2.1 g.2.2.2.2.2;have ad:=eb S _ (J4 t) hS;show wpAny _ X.A.in1 (updateSeq S (λ_=>#[]) >>= _) _ _ _;refine B73 (wpAny_updateSeq ad rfl (B73 (C26 (B74 ?_))));have I2:Inv X Ab σ H {s with heap:=h'.update S (P2 λ_=>(#[]:Array Value))}:=I1.turned (t':=s.toks) (λb o m e=>(D5 _ _ (J4 m)).trans e) fS.1 fS.2.1 fS.2.2.2.1 fS.2.2.2.2.1 fS.2.2.2.2.2;have hq:=n H sm;rw[List.drop_of_length_le (by rw[A05,KA.len];lia)] at hq
  exact xR rfl ⟨bx,H,I2,rb,hq⟩
 |succ k ih=>
  intro j s H bx y bk bu bv c hk hj I sm g fS a1 hS rb ry kb n;have d:j<xs.length:=by lia
  obtain⟨ac,rv,pl,hz⟩:=I.list (h H sm);have a4:=B0 d;have a9:=B0 (show j<ks.length by rw[KA.len];exact d)
  have ez:(xs.zip ks).drop j=(xs[j],ks[j]'(by rw[KA.len];exact d))::(xs.zip ks).drop (j+1):=by
   rw[Q0 (by rw[A05,KA.len];lia),List.getElem_zip]
  rw[ez] at n;generalize xs[j]=x at a4 n;generalize ks[j]'(by rw[KA.len];exact d)=kx at a9 n
  obtain⟨u,hu,ru⟩:=rv.get a4;refine B92 m8 ?_;rw[L9 P7 _];show wpAny _ X.A.in1 (seqItems? (.ref S) >>= _) _ _ s;refine B73 (B95 hS rfl ?_);show wpAny _ X.A.in1 (tryCatch (pyNext (.ref it)) _ >>= _) _ _ s;refine B73 (C21 (C46 a1 pl.isList (x:=u) (by simpa using hu) λh' af sb=>?_))
  have I1:Inv X Ab σ H {s with heap:=h'}:=I.turned (t':=s.toks) (λb o m e=>(sb.2 b m).trans e) g.1 g.2.1 g.2.2.2.1 g.2.2.2.2.1 g.2.2.2.2.2;have ae:=(sb.2 S (J4 t)).trans hS;obtain⟨oi,ah,a7,ab⟩:=id af;show wpAny _ X.A.in1 (tryCatch (C36 [u] (call (.ref f) [u])) _ >>= _) _ _ _;refine B73 (C21 (B84 (qUN rm hA S' a0 he KA hf ag I1 sm a4 a9 ru g fS ah ae λv y2 H2 s2 I2 a3 r2 k2 aa a a8 a2=>?_)));have a6:s2.heap.IsListIter it l (j+1):=⟨oi,a8,a7,ab⟩;show wpAny _ X.A.in1 (tryCatch (C36 [u,v] (richCompare .Lt v bv >>= _)) _ >>= _) _ _ _;refine B73 (C21 (B84 (B73 (KC.cmp Ab σ s2 H2 y2 y v bv kx bk _ _ I2 r2 ry k2 (KC.mono _ _ _ _ a3 kb) ?_))));refine B73 (B84 (B91 (B73 (C26 (B74 ?_)))));have a5:Sm0 H0 H2:=λb o e=>a3 b o (sm b o e);cases m:HT.lexLt kx bk with
  |true=>
   rw[if_pos rfl];have et:qF3 (bx,bk) ((x,kx)::(xs.zip ks).drop (j+1))=qF3 (x,kx) ((xs.zip ks).drop (j+1)):=by show(if HT.lexLt kx bk=true then _ else _)=_;rw[m];rfl
   rw[et] at n;refine B73 (wpAny_updateSeq a2 rfl (B73 (C26 ?_)));rw[i];have I3:Inv X Ab σ H2 {s2 with heap:=s2.heap.update S (P2 λ_=>#[u,v])}:=I2.turned (t':=s2.toks) (λb o m e=>(D5 _ _ (J4 m)).trans e) a.1 a.2.1 a.2.2.2.1 a.2.2.2.2.1 a.2.2.2.2.2;exact B74 ⟨C04 P7 _,ih (j+1) _ H2 x y2 kx u v _ (by lia) d I3 a5 aa a ⟨oi,(D5 _ _ (J4 t)).trans a8,a7,ab⟩ (L6 _ a2 rfl) ru r2 k2 n⟩
  |false=>
   rw[if_neg B6];have et:qF3 (bx,bk) ((x,kx)::(xs.zip ks).drop (j+1))=qF3 (bx,bk) ((xs.zip ks).drop (j+1)):=by show(if HT.lexLt kx bk=true then _ else _)=_;rw[m];rfl
   rw[et] at n;refine B73 (C26 ?_);rw[i];exact B74 ⟨C04 P7 _,ih (j+1) s2 H2 bx y bk bu bv c (by lia) d I2 a5 aa a a6 a2 rb ry (KC.mono _ _ _ _ a3 kb) n⟩
noncomputable def qb2 (dv:Option V):List (V×List Int)->Option V
 |[]=>dv
 |b::r=>some (qF3 b r)
theorem qPU {H:Hp} {kw:List (Str×Value)} (hc:X.calm=true) (rm:Room 1 X.A) (hA:X.A.in1.frames=some X.stack) (S':LmScope X scope p fv) (j:∀(cl:List (Str×Addr)) (pm cd ct u:Value),C42 (i9 "<lambda>" q params body scope cl pm cd ct) ⟨[u],[]⟩=pure [(p,u)])
  (he:∀z,PE (lmCx X scope p fv q z) body te) (KC:KCmp X KR) (KA:KeyAt X σ fv te KR H xs ks) (hf:H f=some (LamF X q params body scope cc ctv f)) (a1:H cc=some (.tbl (.cod q))) (hl:SqL X.K H l xs)
  (t:∀H',Sm0 H H'->SqL X.K H' l xs) (I:Inv X Ab σ H s)
  (ok:argsOk "min" ⟨[.ref l],kw⟩) (df:Option Value) (y:A06 "min" ["key","default"] 0 ⟨[],kw⟩=pure [some (.ref f),df]) (dv:Option V) (a7:df=none/\dv=none\/∃d u,df=some u/\dv=some d/\RelV d u)
  (m:V) (em:qb2 dv (xs.zip ks)=some m) (hQ:∀H',Sm0 H H'->Q m H'):wpAny (model X.prog X.w) X.A (call (.builtin "min") [.ref l] kw) (EP X Ab σ Q) X.xe s:=by
 obtain⟨ad,rv,pl,hz⟩:=I.list hl;have a0:=pl.isList;have ae:l<s.heap.objs.size:=by obtain⟨_,e,_⟩:=a0;exact B9 e
 have n:(toString "min" ++ toString ".loop" : String) = "min.loop":=by decide
 refine qOZ PySem.F.kind_min PySem.F.plain_min PySem.F.entry_min ok ?_;show wpAny _ _ (A06 "min" ["key","default"] 0 ⟨[],kw⟩ >>= _) _ _ s;refine B73 (C25 y ?_);refine B73 (B74 ?_);refine B73 (C17 a0 ?_);refine B73 (B82 ?_);rw[n];refine B74 (xR rfl ⟨C04 P7 _,?_⟩);have hS:(s.heap.push {cls:=.type "list_iterator",data:=.fields #[.ref l,.int 0 0]}).objs.size=s.heap.objs.size+1:=O4 ..;have I0:Inv X Ab σ H {s with heap:=(s.heap.push {cls:=.type "list_iterator",data:=.fields #[.ref l,.int 0 0]}).push {cls:=.type "list",data:=.seq #[]}}:=I.kept (t':=s.toks) λb o e=>A1 _ (A1 _ e);have c:FpOk X Ab H s.heap.objs.size:=I.fpOk (B4 _) (I.hok.fresh (B4 _));have fS:FpOk X Ab H (s.heap.push {cls:=.type "list_iterator",data:=.fields #[.ref l,.int 0 0]}).objs.size:=by rw[hS];exact I.fpOk (X5 _) (I.hok.fresh (X5 _))
 have g:s.heap.objs.size≠(s.heap.push {cls:=.type "list_iterator",data:=.fields #[.ref l,.int 0 0]}).objs.size:=by rw[hS];exact(B25 _).symm
 have gi:((s.heap.push {cls:=.type "list_iterator",data:=.fields #[.ref l,.int 0 0]}).push {cls:=.type "list",data:=.seq #[]}).get? s.heap.objs.size=some {cls:=.type "list_iterator",data:=.fields #[.ref l,.int 0 0]}:=A1 _ (B8 _ rfl);have gS:((s.heap.push {cls:=.type "list_iterator",data:=.fields #[.ref l,.int 0 0]}).push {cls:=.type "list",data:=.seq #[]}).get? (s.heap.push {cls:=.type "list_iterator",data:=.fields #[.ref l,.int 0 0]}).objs.size=some {cls:=.type "list",data:=.seq #[]}:=B8 _ rfl;have h:=(a0.push {cls:=.type "list_iterator",data:=.fields #[.ref l,.int 0 0]}).push {cls:=.type "list",data:=.seq #[]};generalize (s.heap.push {cls:=.type "list_iterator",data:=.fields #[.ref l,.int 0 0]}).push {cls:=.type "list",data:=.seq #[]}=h0 at I0 gi gS h;generalize (s.heap.push {cls:=.type "list_iterator",data:=.fields #[.ref l,.int 0 0]}).objs.size=S at fS g gS ⊢;generalize s.heap.objs.size=it at c g gi ⊢;refine B92 m8 ?_;rw[L9 P7 _];show wpAny _ X.A.in1 (seqItems? (.ref S) >>= _) _ _ _;refine B73 (B95 gS rfl ?_);show wpAny _ X.A.in1 (tryCatch (pyNext (.ref it)) _ >>= _) _ _ _;have a3:h0.IsListIter it l 0:=⟨_,gi,rfl,rfl⟩;cases xs with
 |nil=>
  have ek:ks=[]:=P3.mp KA.len;subst ek;have r:dv=some m:=em;cases rv;refine B73 (C21 (C51 (s:={s with heap:=h0}) (rm.in1.hd) a3 h (by simp) λh' eb=>?_))
  rcases a7 with⟨_,e2⟩|⟨d,u,rfl,e3,rd⟩
  ·rw[e2] at r;cases r
  ·rw[e3] at r;cases r;show wpAny _ X.A.in1 (rule _ >>= λ_=>ret u) _ _ _;have I1:Inv X Ab σ H {s with heap:=h'}:=I0.turned (t':=s.toks) (λb o y e=>eb b o y e) c.1 c.2.1 c.2.2.2.1 c.2.2.2.2.1 c.2.2.2.2.2;exact B73 (B98 (B74 ⟨u,rfl,_,H,I1,rd,hQ H λ_ _ z=>z⟩))
 |cons x xs=>
  cases ks with
  |nil=>have:=KA.len;simp at this
  |cons k ks=>
   cases em;obtain⟨u,hu,ru⟩:=rv.get (i:=0) rfl;refine B73 (C21 (C46 (s:={s with heap:=h0}) a3 h (x:=u) (by simpa using hu) λh' a6 sb=>?_))
   have I1:Inv X Ab σ H {s with heap:=h'}:=I0.turned (t':=s.toks) (λb o y e=>(sb.2 b y).trans e) c.1 c.2.1 c.2.2.2.1 c.2.2.2.2.1 c.2.2.2.2.2;have a5:=(sb.2 S (J4 g)).trans gS;obtain⟨oi,a9,a4,ac⟩:=id a6;show wpAny _ X.A.in1 (tryCatch (C36 [u] (call (.ref f) [u])) _ >>= _) _ _ _;refine B73 (C21 (B84 (qUN rm hA S' j he KA hf a1 I1 (λ_ _ z=>z) (i:=0) rfl rfl ru c fS a9 a5 λv y2 H2 s2 I2 ab r2 k2 aa a a8 a2=>?_)));show wpAny _ X.A.in1 (updateSeq S (λ_=>#[u,v]) >>= _) _ _ _;refine B73 (wpAny_updateSeq a2 rfl ?_);rw[n];have I3:Inv X Ab σ H2 {s2 with heap:=s2.heap.update S (P2 λ_=>#[u,v])}:=I2.turned (t':=s2.toks) (λb o y e=>(D5 _ _ (J4 y)).trans e) a.1 a.2.1 a.2.2.2.1 a.2.2.2.2.1 a.2.2.2.2.2;exact B74 ⟨C04 P7 _,qSG hc rm hA S' j he KC KA hf a1 hl g t _ 1 _ H2 x y2 k u v _ rfl (by simp) I3 ab aa a ⟨oi,(D5 _ _ (J4 g)).trans a8,a4,ac⟩ (L6 _ a2 rfl) ru r2 k2 hQ⟩
end
noncomputable def hdIn (K:Ab1)(c P:Addr):Bool:=match K.lookup c with
 |some ⟨.type n,_,.fields vs,_⟩=>decide (n = "code")&&decide (c≠P)&&(match(vs[11]?:Option Value),vs.getD 11 .none with|some (.ref a),.ref b=>decide (a=P)&&decide (b=P)|_,_=>false) &&
   (match vs.getD 18 .none,vs.getD 7 .none,vs.getD 9 .none,vs.getD 10 .none with|.str _ _,.int _ _,.bool _,.int _ _=>true|_,_,_,_=>false)
 |_=>false
theorem qVL {K:Ab1} {h:Heap} {c P:Addr} (X:K.In h)(d:hdIn K c P=true):PySem.W.CodeHd h c P:=by
 unfold hdIn at d
 split at d
 ·rename_i n dd vs sl hl
  rw[L3,L3,L3] at d;obtain⟨⟨⟨i,j⟩,e⟩,g⟩:=d
  split at e
  ·rename_i a b e1 e2
   rw[L3,decide_eq_true_eq,decide_eq_true_eq] at e;obtain⟨rfl,rfl⟩:=e
   split at g
   ·rename_i f t fl tg inF text tt g1 g2 g3 g4
    exact⟨_,vs,_,_,_,_,_,_,_,X _ _ hl,by rw[of_decide_eq_true i],rfl,e1,e2,g1,g2,g3,g4,of_decide_eq_true j⟩
   ·cases g
  ·cases e
 ·cases d
def qcR (P:Addr)(q:Str)(fv:List Nat)(te:TE)(KR:Hp->V->List Int->Prop)(ta:TA):TE:=λσ H Q=>ta σ H λvs H1=>H1 P=some (.tbl (.tab q))/\
 ∃l xs ks m,vs=[.ref l]/\H1 l=some (.lst xs)/\ks.length=xs.length/\(∀(i:Nat) (x:V) (k:List Int),xs[i]?=some x->ks[i]?=some k->∀Hc,Sm0 H1 Hc->te (qI0 fv σ x) Hc λy H'=>Sm0 Hc H'/\KR H' y k)/\
  qb2 none (xs.zip ks)=some m/\∀H',Sm0 H1 H'->Q m H'
theorem qZ5 {e:Expr} {ta:TA} {np pos kpos j:Pos} {a:C09} {body:Expr} {d:Scope} {c P:Addr} {q:Str} {p:Str} {fv:List Nat} {te:TE} {KR:Hp->V->List Int->Prop} 
  (rm:Room 1 X.A) (hc:X.calm=true) (hg:Gl X "min") (hm:X.mg "min" = none) (hv:B81 "min" = some (.builtin "min")) (hb:BM X.mg X.base) (t:X.env.code=.ref c) (hd:hdIn X.K c P=true) (hq:X.env.qual ++ "<lambda>" = q)
  (S:LmScope X d p fv) (y:defaultsOf a X.env=([],[])) (r:∀(cl:List (Str×Addr)) (pm cd ct u:Value),C42 (i9 "<lambda>" q a body d cl pm cd ct) ⟨[u],[]⟩=pure [(p,u)])
  (KC:KCmp X KR) (ha:PA X [e] ta) (he:∀z,PE (lmCx X d p fv q z) body te) (hs:B85 [e] X.env=[(false,eval e X.env)]:=by rfl):
  PE X (.Call (.Name "min" np) [e] [⟨some "key",.Lambda a body d j,kpos⟩] pos) (qcR P q fv te KR ta):=by
 intro Ab s σ H Q I h;refine C06 (qIG I hg hm hv ?_ (by decide) (by decide))
 refine A33 (thn (ha pos Ab s σ H _ I h) λus s1 ⟨vs,H1,I1,r1,q1⟩=>?_) (by rw[hs];rfl) (by rw[hs];rfl)
 obtain⟨hP,l,xs,ks,m,rfl,hl,lk,hk,em,q2⟩:=q1;obtain⟨u,rfl,rx⟩:=qEI r1;cases rx;have C:=qVL (c:=c) (P:=P) I1.ok.mod.kin hd;have pl:=qb5 (X:=X) (pos:=j) (body:=body) hb t C hq S y;refine thn (qTR (kpos:=kpos) (nm:=some "key") pl qXS pos Ab s1 σ H1 (λzs w=>∃f cc ctv,zs=[.ref f]/\Sm0 H1 w/\w f=some (LamF X q a body d cc ctv f)/\w cc=some (.tbl (.cod q))) I1 ⟨hP,λf cc ctv H' v h0 hf n=>⟨f,cc,ctv,rfl,v,hf,n⟩⟩) λws s2 ⟨zs,w,I2,rz,f,cc,ctv,ez,v,hf,n⟩=>?_;subst ez;obtain⟨u2,rfl,r2⟩:=qEI rz;cases r2;have hA:X.A.in1.frames=some X.stack:=I2.ok.frames;exact qPU (H:=w) hc rm hA S r he KC ⟨lk,λi x k hx a0 Hc g=>hk i x k hx a0 Hc λb o e=>g b o (v b o e)⟩ hf n (Ab2 (v _ _ hl)) (λH' g=>Ab2 (g _ _ (v _ _ hl))) I2
  (by unfold argsOk;kernel_rfl) none rfl none (.inl ⟨rfl,rfl⟩) m em λH' g=>q2 H' λb o e=>g b o (v b o e)
theorem Fun.okL {K:Ab1} {mg:Ab0} {base:Heap} {x a:Str} {st:Stmt} {f:Addr} {d:B88} {N ps:List Str} {k:Nat} {sp:Sp} {c:Addr} (F:Fun K x a st f d)(n:d.code=.ref c)(S:FnScope N ps (qAA st))(g:∀vs H Q E,sp vs H Q E->vs.length=ps.length)
  (b:∀ (A:Around) (outer:List Env) (s:Shared) (H:Hp) (vs:List V) (Q:VK) (E:XK),Room k (A.deeper (envOfC a (qAA st) s.heap.objs.size f (.ref c)))->sp vs H Q E->
   ∃t,PSs (cxOf CX0 P w K mg base N a (qAA st) f (.ref c) A outer s H E).nox (qCJ st) t/\t {nx:=λ_ H'=>Q .non H',rt:=Q} (start N vs) H):FnOk P w K mg base CX0 (k+1) f d ps sp:=by
 obtain⟨oc,od,kV,u,z,an,m,ct,o,rfl,v,l⟩:=F.ex;have e:m=.ref c:=n;subst e;refine qZQ v l S g λA outer s H vs Q E r j=>?_;obtain⟨t,h,q⟩:=b A outer s H vs Q E r j;exact⟨t,h.nox,q⟩
noncomputable def qUC (scope:Scope)(p:Str)(fv:List Nat)(osc:Scope)(N:List Str):Bool:=
 decide (scope.kind=.function)&&decide (scope.isCoroutine=false)&&decide (scope.isGenerator=false)&&scope.names.all (λy=>decide (y.2≠.cell))&&decide (scope.names.lookup p=some .local) &&
 scope.names.all (λy=>decide (y.2≠.free)||(decide (osc.names.lookup y.1=some .cell)||decide (osc.names.lookup y.1=some .free)))&&fv.all λi=>decide (i<N.length)&&decide (scope.names.lookup (N.getD i U8)=some .free)
theorem lms {X:Cx} {a:Scope} {p:Str} {fv:List Nat} (h:qUC a p fv X.env.scope X.N=true):LmScope X a p fv:=by
 unfold qUC at h;simp only[L3,decide_eq_true_eq,L7,A01] at h;obtain⟨⟨⟨⟨⟨⟨b,e⟩,g⟩,c⟩,f⟩,d⟩,j⟩:=h;refine⟨b,e,g,c,f,λy k i=>?_,j⟩;rcases d y k with z|z
 ·exact absurd i z
 ·exact z
structure LTab where
 x:Str
 c:Addr
 P:Addr
 q:Str
def qcC (tabs:List LTab)(H:Hp):Prop:=∀t∈tabs,H t.P=some (.tbl (.tab t.q))
noncomputable def entH (a:Addr)(o:Obj)(xs:List V)(ina:Bool)(tabs:List LTab):Hp:=λb=>if ina=true/\b=a then some (.frz o (.lst xs)) else(tabs.find? λt=>decide (t.P=b)).map λt=>.tbl (.tab t.q)
theorem qUI {K:Ab1} {mg mb:Ab0} {k:Nat} {fa a:Addr} {fd:B88} {x:Str} {sp:Sp} {vs:List Value} {ns:List Int} (f:List LTab)
  (KX:K.In g.heap) (ab:g.heap.Ns B89 mg) (hb:g.heap.Ns C52 mb) (ak:∀x:Str,x ≠ "__name__"->mb x=B81 x) (ag:g.heap.NoLimit) (hg:g.gens=#[])
  (ha:g.heap.get? a=some {cls:=.type "list",data:=.seq vs.toArray}) (hi:C01 vs ns) (hl:ns.length<=B75) (hr:Room k callerA) (aj:BM mg g.heap)
  (j:∀t∈f,PySem.W.CodeHd g.heap t.c t.P/\g.heap.get? t.P=some (B46 #[])) (hK:A68 K=true) (af:∀t∈f,∀t'∈f,t.P=t'.P->t.q=t'.q)
  (F:∀base:Heap,K.In base->base.Ns B89 mg->BM mg base->FnOk P w K mg base CX0 k fa fd [x] sp) (a8:∀(s:Shared) (u:Value),BindsTo s fd ⟨[u],[]⟩ [(x,u)])
  (am:∀H:Hp,qcC f H->SqL K H a (ns.map V.int)->sp [.ref a] H (λv _=>v=.bl true) λ_ _ _=>False):
  C14 (model P w) callerA (.call (.ref fa) ⟨[.ref a],[]⟩) (λr s'=>r=.ok (.ret (.bool true))/\OldK g.heap s'.heap/\s'.os=g.os/\C44 s'.gens) g:=by
 have rv:=qJE hi;have ac:=hi.length;have ai:∀t∈f,t.P≠a:=λt i z=>by
  have:=(j t i).2;rw[z,ha] at this;cases this
 have ah:∀t∈f,K.lookup t.P=none:=λt i=>by
  cases e:K.lookup t.P with
  |none=>rfl
  |some o=>
   have y:=KX _ _ e;rw[(j t i).2] at y;cases y;have h2:=L7.mp hK _ (PySem.W.mem_of_lookupK e);exact absurd (show false=true from h2) B6
 obtain⟨a1,a6⟩:∃a1:Bool,(a1=true↔K.lookup a=none):=by
  cases e:K.lookup a with
  |none=>exact⟨true,by simp⟩
  |some o=>exact⟨false,by simp⟩
 -- the heap's description
 let o0:Obj:={cls:=.type "list",data:=.seq vs.toArray}
 have a0:∀b u,entH a o0 (ns.map V.int) a1 f b=some u->(a1=true/\b=a/\u=.frz o0 (.lst (ns.map V.int)))\/∃t∈f,t.P=b/\u=.tbl (.tab t.q):=λb u e=>by
  unfold entH at e
  split at e
  ·rename_i c
   cases e;exact .inl ⟨c.1,c.2,rfl⟩
  ·cases y:f.find? (λt=>decide (t.P=b)) with
   |none=>rw[y] at e;cases e
   |some t=>
    rw[y] at e;cases e;exact .inr ⟨t,A22 y,of_decide_eq_true (B38 (p:=λt:LTab=>decide (t.P=b)) y),rfl⟩
 have a7:∀t∈f,entH a o0 (ns.map V.int) a1 f t.P=some (.tbl (.tab t.q)):=λt i=>by
  unfold entH;rw[if_neg λz=>ai t i z.2];cases y:f.find? (λt'=>decide (t'.P=t.P)) with
  |none=>exact absurd (decide_eq_true (rfl:t.P=t.P)) (List.find?_eq_none.mp y t i)
  |some t'=>
   have h1:=A22 y;have h2:t'.P=t.P:=of_decide_eq_true (B38 (p:=λt':LTab=>decide (t'.P=t.P)) y);rw[A00,af t' h1 t i h2]
 generalize hH:entH a o0 (ns.map V.int) a1 f=H at a0 a7;have hS:SqL K H a (ns.map V.int):=by
  cases e:K.lookup a with
  |none=>
   refine .inl (.inr ⟨o0,?_⟩);rw[<- hH];unfold entH;rw[if_pos ⟨a6.mpr e,rfl⟩]
  |some o=>
   have y:=KX a o e;rw[ha] at y;cases y;exact .inr ⟨_,vs.toArray,_,e,rfl,rfl,rfl,by rw[C3,ac];exact hl,by simpa using rv⟩
 have aa:HOk P w H g.heap:=λb u e=>by
  rcases a0 b u e with⟨_,rfl,rfl⟩|⟨t,i,rfl,rfl⟩
  ·exact⟨ha,by rw[A0];exact hl,vs,_,rv,ha⟩
  ·exact⟨#[],(j t i).2,trivial,λan cv z=>by cases z⟩
 have l:∀{b:Addr} {o:Obj},g.heap.get? b=some o->H b=none->(hidT g.heap H).get? b=some o:=λe n=>qX0 e n;have ad:∀{b:Addr} {o:Obj},g.heap.get? b=some o->(∀xs n,o.data≠.seq xs n)->(∀ps,o.data≠.fields ps)->H b=none:=λ{b o} e d1 d2=>by
  cases q:H b with
  |none=>rfl
  |some u=>
   rcases a0 b u q with⟨_,rfl,_⟩|⟨t,i,rfl,_⟩
   ·rw[ha] at e;cases e;exact absurd rfl (d1 _ _)
   ·rw[(j t i).2] at e;cases e;exact absurd rfl (d2 _)
 have a2:∀{b:Addr} {m:Ab0},g.heap.Ns b m->(hidT g.heap H).Ns b m:=λ{b m} ⟨o,es,ep,e,d,r⟩=>⟨o,es,ep,l e (ad e (λ_ _ z=>by rw[d] at z;cases z) λ_ z=>by rw[d] at z;cases z),d,r⟩
 have a9:K.In (hidT g.heap H):=fun b o e=>l (KX b o e) (by
  cases q:H b with
  |none=>rfl
  |some u=>
   rcases a0 b u q with⟨h1,rfl,_⟩|⟨t,i,rfl,_⟩
   ·rw[a6.mp h1] at e;cases e
   ·rw[ah t i] at e;cases e)
 have al:BM mg (hidT g.heap H):=by
  obtain⟨bm,ob,b1,b2,b3,b4,b5,b6⟩:=aj;exact⟨bm,ob,b1,b2,l b3 (ad b3 (λ_ _ z=>by rw[b6] at z;cases z) λ_ z=>by rw[b6] at z;cases z),b4,b5,b6⟩
 have hM:Mod K mg (hidT g.heap H):=⟨a9,a2 ab,⟨mb,a2 hb,ak⟩,let⟨mc,h1,h2⟩:=ag;⟨mc,a2 h1,h2⟩⟩
 have e0:Env0 P w K mg (hidT g.heap H) callerA [] g H:=⟨rfl,hM,λb o e=>qZA e,Nat.le_of_eq (qUU _ _),trivial,λb hb=>absurd (show b∈([]:List Addr) from hb) (by simp),aa,.of_eq hg⟩
 refine B99 ((F _ a9 (a2 ab) al).run callerA [] g H ⟨[.ref a],[]⟩ [.ref a] [.ref a] _ _ hr e0 (a8 g (.ref a)) (.cons rfl .nil) (am H a7 hS)) λr s' h=>?_;cases r with
 |error e=>exact P1 h
 |ok fl=>
  cases fl with
  |next=>exact P1 h
  |brk=>exact P1 h
  |cont=>exact P1 h
  |ret u=>
   obtain⟨v,H',os,ae,un,a3,r',q⟩:=h;have q':v=.bl true:=q;subst q';obtain rfl:u=Y0 true:=r';have a4:∀b o,g.heap.get? b=some o->s'.heap.get? b=some o\/∃t∈f,t.P=b:=λb o e=>by
    cases q:H b with
    |none=>exact .inl (un.keep b o e q (by intro z;exact absurd (show b∈([]:List Addr) from z) (by simp)) (by simp))
    |some u=>
     rcases a0 b u q with⟨_,rfl,rfl⟩|⟨t,i,e1,_⟩
     ·have z2:=un.frzs b o0 _ q;obtain⟨e1,_⟩:=aa b _ q;obtain⟨y,_⟩:=a3 b _ z2;rw[e] at e1;cases e1;exact .inl y
     ·exact .inr ⟨t,i,e1⟩
   have a5:∀t∈f,∃more,s'.heap.get? t.P=some (B46 more):=λt i=>by
    obtain⟨more,e,_⟩:=(show ObjOk P w H' s'.heap t.P (.tbl (.tab t.q)) from a3 t.P _ (un.tbls t.P _ (a7 t i)));exact⟨more,e⟩
   refine⟨rfl,⟨λb o e=>?_,λb o e=>?_⟩,os,ae⟩
   ·rcases a4 b o e with z|⟨t,i,rfl⟩
    ·exact .inl z
    ·obtain⟨more,em⟩:=a5 t i;have y:=(j t i).2;rw[e] at y;cases y;exact .inr (.inl ⟨((j t i).1.tab (j t i).2).isCodeTable,rfl,#[],more,rfl,by rw[em];simp⟩)
   ·rcases a4 b o e with z|⟨t,i,rfl⟩
    ·exact⟨_,z⟩
    ·obtain⟨more,em⟩:=a5 t i;exact⟨_,em⟩
theorem walk_ofT {l:PySem.W.OpenLaw} {n k:Nat} {p:List Str} {XP:(Ab0)->Heap->Prop} {YP:World->Heap->Prop} {d:DefRec} {K:Params->Ab1} {sp:World->Sp} {x:Str} (i:List LTab)
  (hn:l.most=some n) (a4:n<=B75) (a3:d.params.defaults=[]) (hr:Room k callerA)
  (hY:∀(w:World) (h:Heap),YP w h->(K w.params).In h)
  (r:∀t∈i,((recsOf q).find? λe=>e.name==t.x).isSome=true) (y:∀(w:World),∀t∈i,B63 (K w.params) t.x=some (t.c,t.P)) (hK:∀w:World,A68 (K w.params)=true) (a0:∀t∈i,∀t'∈i,t.P=t'.P->t.q=t'.q)
  (F:∀ (w:World) (mg:Ab0) (fa:Addr) (h:Heap),(K w.params).In h->h.Ns B89 mg->mg d.name=some (.ref fa)->
   ∃fd:B88,(∀(s:Shared) (u:Value),BindsTo s fd ⟨[u],[]⟩ [(x,u)])/\
    ∀base:Heap,(K w.params).In base->base.Ns B89 mg->BM mg base->FnOk l.prog w (K w.params) mg base CX0 k fa fd [x] (sp w))
  (a5:∀(w:World) (H:Hp) (a:Addr) (ns:List Int),ns.length<=n->qcC i H->SqL (K w.params) H a (ns.map V.int)->sp w [.ref a] H (λv _=>v=.bl true) λ_ _ _=>False):
  PySem.W.WalkO q p XP YP l.row.toRowW d [] (λf vs=>B50 f vs):=by
 refine Att.attach_call hn a3 λw s₀ s₁ mg mb fa o pm cd a7 a vs ns G Y ho hd a6 a1 z m j hg=>?_;have KX:=hY w _ Y;obtain⟨fd,hb,hF⟩:=F w mg fa _ KX G.T.g a1;refine qUI i KX G.T.g G.T.b G.T.builtins G.T.nolimit hg z m (F4 j a4) hr G.T.bmain (λt ht=>?_) (hK w) a0 hF hb λH hO hS=>a5 w H a ns j hO hS;obtain⟨dd,a2⟩:=A26.mp (r t ht);exact PySem.W.tab_of G.T KX a2 (y w t ht)
end _L
namespace _L.G
open PySem PySem.Spec PyProof.Rows
theorem qLS:∀a:List Int,HT.lexLt a a=false
 |[]=>rfl
 |x::a=>by rw[HT.lexLt_cons,if_pos rfl];exact qLS a
theorem qJU:∀a b c:List Int,HT.lexLt a b=true->HT.lexLt b c=true->HT.lexLt a c=true
 |[],[],_,h,_=>by cases h
 |[],_::_,[],_,h=>by cases h
 |[],_::_,_::_,_,_=>rfl
 |_::_,[],_,h,_=>by cases h
 |_::_,_::_,[],_,h=>by cases h
 |x::a,y::b,z::c,h1,h2=>by
  rw[HT.lexLt_cons] at h1 h2 ⊢;by_cases e1:x=y
  ·subst e1;rw[if_pos rfl] at h1;by_cases e2:x=z
   ·rw[if_pos e2] at h2 ⊢;exact qJU a b c h1 h2
   ·rw[if_neg e2] at h2 ⊢;exact h2
  ·rw[if_neg e1] at h1;have h1:=of_decide_eq_true h1;by_cases e2:y=z
   ·subst e2;rw[if_neg e1];exact decide_eq_true h1
   ·rw[if_neg e2] at h2;have h2:=of_decide_eq_true h2;rw[if_neg (by lia)]
    exact decide_eq_true (by lia)
theorem qOE:∀a b:List Int,HT.lexLt a b=false->HT.lexLt b a=false->a=b
 |[],[],_,_=>rfl
 |[],_::_,h,_=>by cases h
 |_::_,[],_,h=>by cases h
 |x::a,y::b,h1,h2=>by
  rw[HT.lexLt_cons] at h1 h2;by_cases e:x=y
  ·subst e;rw[if_pos rfl] at h1 h2;rw[qOE a b h1 h2]
  ·rw[if_neg e] at h1;rw[if_neg (λz=>e z.symm)] at h2;have:=of_decide_eq_false h1;have:=of_decide_eq_false h2
   lia
noncomputable def qHU (L:Aa0)(a:List Int):Int:=(((L.filter λx=>HT.lexLt x a).length:Nat):Int)
theorem qGZ {α:Type} {p q:α->Bool} :∀{L:List α},(∀x∈L,p x=true->q x=true)->(∃x∈L,p x=false/\q x=true)->(L.filter p).length<(L.filter q).length
 |[],_,⟨x,hx,_⟩=>nomatch hx
 |y::L,h,⟨x,hx,h1,h2⟩=>by
  have le:∀{M:List α},(∀x∈M,p x=true->q x=true)->(M.filter p).length<=(M.filter q).length:=by
   intro M hM
   induction M with
   |nil=>exact B4 _
   |cons z M ih=>
    have i:=ih λx hx=>hM x (C2 _ hx);rw[W9,W9];cases ep:p z
    ·cases q z
     ·simpa using i
     ·simp;lia
    ·rw[hM z (by simp) ep]
     simpa using i
  rw[W9,W9];rcases C0.mp hx with e|e
  ·subst e;have:=le λx hx=>h x (C2 _ hx);rw[h1,h2];simp
   lia
  ·have i:=qGZ (λx hx=>h x (C2 _ hx)) ⟨x,e,h1,h2⟩;cases ep:p y
   ·cases q y
    ·simpa using i
    ·simp;lia
   ·rw[h y (by simp) ep]
    simpa using i
theorem qTJ {L:Aa0} {a b:List Int} (d:a∈L)(h:HT.lexLt a b=true):qHU L a<qHU L b:=by
 unfold qHU;have:=qGZ (p:=λx=>HT.lexLt x a) (q:=λx=>HT.lexLt x b) (L:=L) (λx _ c=>qJU _ _ _ c h) ⟨a,d,qLS a,h⟩
 lia
theorem qQN {L:Aa0} {a b:List Int} (d:a∈L)(c:b∈L):decide (qHU L a<qHU L b)=HT.lexLt a b:=by
 cases h:HT.lexLt a b with
 |true=>exact decide_eq_true (qTJ d h)
 |false=>
  refine decide_eq_false λz=>?_;cases h2:HT.lexLt b a with
  |true=>have:=qTJ c h2;lia
  |false=>rw[qOE a b h h2] at z;lia
noncomputable def qUT (xs:List V):List Int:=xs.map fun|.int i=>i|_=>0
theorem qUS (t:List Int):qUT (t.map V.int)=t:=by
 unfold qUT;rw[X3];exact(W6 λx _=>rfl).trans (A79 _)
noncomputable def keyH (H:Hp):Value->List Int
 |.ref r=>match H r with
  |some (.tup xs)=>qUT xs
  |_=>[]
 |_=>[]
@[reducible] def tupNM (H:Hp)(L:Aa0):NM:=⟨λv=>qHU L (keyH H v),λv=>∃r t,v=.ref r/\H r=some (.tup (t.map V.int))/\t∈L⟩
section
variable{X:Cx}
theorem src_dT {d:Addr} {g:Obj} {es:Array DictEntry} {ep:Nat} (u:(d==C00)=false) (m:g.cls=.type "dict") (n:g.data=.dict es ep):
  PySem.W.KdlSrc prog w "dict" d d es.size (λi v=>∃h:i<es.size,v=es[i].key) (λh=>h.get? d=some g) where
 type:=λs h=>⟨_,h,m⟩
 there:=λh x=>⟨B9 x,B9 x⟩
 keep:=λh f x k=>k d (.inl rfl) _ x
 notList:=by decide
 notTuple:=by decide
 hint:=λA E s Q x q=>PySem.W.kdl_hint_dict ⟨_,x,m⟩ q
 iter:=λA s t x=>by
  have l:d≠s.heap.objs.size:=E7 (B9 x);refine⟨_,λi h=>qSV h s.heap.objs.size d i es.size ep/\h.get? d=some g,λE Q q=>qOW ⟨_,x,m⟩ u x n q,?_,⟨B8 _ rfl,A1 _ x⟩⟩;refine⟨λb c=>?_,λi h f a k=>⟨k _ (by simp) _ a.1,k _ (by simp) _ a.2⟩,λi j Q E r a q=>?_,λj Q E a q=>?_,λi j Q E a q=>wpAny_pyIter_keyiter ⟨_,a.1,rfl,rfl⟩ q⟩
  ·have e:b=s.heap.objs.size:=by simpa using c
   simp[e]
  ·refine qOX a.1 a.2 n r λf p k=>?_;exact q _ f j.toks ⟨r,rfl⟩ ⟨p,(k.2 d l).trans a.2⟩ λb o c e=>(k.2 b (λz=>c (by simp[z]))).trans e
  ·refine qRF t a.1 (B4 _) a.2 n λf k=>?_;exact q f j.toks λb o c e=>k b o (λz=>c (by simp[z])) e
end
open PySem PySem.Spec PyProof.Rows PySem.W
theorem perm_map_inv {α β:Type} {g:α->β} {a b:List β} (h:a.Perm b):∀L:List α,b=L.map g->∃L':List α,L'.Perm L/\a=L'.map g:=by
 induction h with
 |nil=>
  intro L e;exact⟨[],by rw[List.map_eq_nil_iff.mp e.symm],rfl⟩
 |cons x _ ih=>
  intro L e;cases L with
  |nil=>cases e
  |cons y L=>
   rw[D8] at e
   injection e with e1 e2
   obtain⟨L',p,c⟩:=ih L e2;exact⟨y::L',p.cons y,by rw[D8,e1,c]⟩
 |swap x y l=>
  intro L e
  match L,e with
  |p::q::L,e=>
   rw[D8,D8] at e
   injection e with e1 e2
   injection e2 with e2 c
   exact⟨q::p::L,.swap p q L,by rw[D8,D8,e1,e2,c]⟩
 |trans _ _ ih1 ih2=>
  intro L e;obtain⟨d,i,e2⟩:=ih2 L e;obtain⟨f,j,e1⟩:=ih1 d e2;exact⟨f,j.trans i,e1⟩
section
variable{X:Cx}{Ab:Aa2}{σ:St}{params:C09}{body:Expr}{scope:Scope}{p:Str}{fv:List Nat}{q:Str}{te:TE}{l f cc:Addr}{ctv:Value}{H0:Hp}{xs:List V}{ks:Aa0}{Q:VK}
theorem Inv.off {H:Hp} {s:Shared} {b:Addr} {h':Heap} (I:Inv X Ab σ H s)(f:FpOk X Ab H b)(a:∀c o,c≠b->s.heap.get? c=some o->h'.get? c=some o):Inv X Ab σ H {s with heap:=h'}:=
 I.turned (t':=s.toks) (λc o d e=>a c o d e) f.1 f.2.1 f.2.2.2.1 f.2.2.2.2.1 f.2.2.2.2.2
theorem qRY (l:Addr) (v:Value):argsOk "sorted" ⟨[.ref l],[(B1 "key",v)]⟩:=by unfold argsOk;kernel_rfl
end
end _L.G
namespace _L
open PySem PySem.Spec PyProof.Rows
structure Clb (P:B76)(w:World)(K:Ab1)(mg:Ab0)(base:Heap)(n:Nat)(f:Addr)(fd:B88)(x:Str)(ps:List Str)(sp:Sp):Prop where
 G:FnOk P w K mg base CX0 n f fd ps sp
 b:Binds K fd ps []
 k:M8 K (.ref f)=true
 m:mg x=some (.ref f)
theorem qAP {X:Cx} {n k:Nat} {f:Addr} {g:B88} {x:Str} {ps:List Str} {sp:Sp} {e:Expr} {es:List Expr} {t:TA} {p pos:Pos} (C:Clb X.prog X.w X.K X.mg X.base n f g x ps sp)(i:Room k X.A)(h:Gl X x)
  (l:PA X (e::es) t) (a:n<=k:=by decide) (d:(x==("__debug__" : Str))=false:=by decide) (j:B85 (e::es) X.env=(false,eval e X.env)::B85 es X.env:=by rfl) (c:(backTo pos (B85 es X.env)).any (·.1)=false:=by rfl):
  PE X (.Call (.Name x p) (e::es) [] pos) (qaQ sp [] E0 t):=qU0 C.G (i.mono a) h C.m C.k C.b .nil qb8 l d j c
theorem nmD {i:Nat} {t u:TS} {D:Ends} {x:V} {σ:St} {H:Hp} (h:∀D':Ends,(∀σ H,D.nx σ H->D'.nx σ H)->(∀v H,D.rt v H->D'.rt v H)->tSeq t u D' (σ.set i (some x)) H):qV0 i x σ H λσ2 H2=>tSeq t u D σ2 H2:=h D (λ_ _ z=>z) λ_ _ z=>z
def Tf (K:Ab1)(x:Str)(s:Stmt)(f:Addr):Prop:=c5 K B89 x=some (some (.ref f))/\∃fd,Fun K x x s f fd
theorem Tf.use {K:Ab1} {h:Heap} {mg:Ab0} {x:Str} {s:Stmt} {f:Addr} (X:K.In h)(G:h.Ns B89 mg)(T:Tf K x s f):∃fd,Fun K x x s f fd/\mg x=some (.ref f):=
 let⟨a,fd,F⟩:=T
 ⟨fd,F,A39 X G a⟩
theorem Tf.clb {K:Ab1} {h base:Heap} {mg:Ab0} {x:Str} {s:Stmt} {f:Addr} {n:Nat} {ps:List Str} {sp:Sp} (X:K.In h)(G:h.Ns B89 mg)(T:Tf K x s f)(a:∀fd,Fun K x x s f fd->FnOk P w K mg base CX0 n f fd ps sp)
  (b:∀(kV doc pm:Value) (an:Option Addr) (cdv ct:Value) (us:List Value),us.length=ps.length->C42 (R5 x x (qEB s) (qCJ s) (qAA s) .none kV doc pm an cdv ct) ⟨us,[]⟩=pure (ps.zip us)):∃fd,Clb P w K mg base n f fd x ps sp:=
 let⟨fd,F,m⟩:=T.use X G
 ⟨fd,a fd F,F.binds b,F.kp,m⟩
def Zs (K:Ab1):List Str->Prop
 |[]=>True
 |x::r=>c5 K B89 x=some none/\Zs K r
def Zm (mg:Ab0):List Str->Prop
 |[]=>True
 |x::r=>mg x=none/\Zm mg r
theorem Zs.mg {K:Ab1} {h:Heap} {mg:Ab0} (X:K.In h)(G:h.Ns B89 mg):∀{l:List Str},Zs K l->Zm mg l
 |[],_=>trivial
 |_::_,⟨a,b⟩=>⟨PySem.W.mg_none_of X G a,Zs.mg X G b⟩
theorem qBU {N P:List Str} {a:Scope} (b:a.kind=.function:=by rfl)(e:a.isCoroutine=false:=by rfl)(g:a.isGenerator=false:=by rfl)(c:N.Nodup:=by decide +kernel)(f:N.take P.length=P:=by rfl)(d:∀x∈P,a.names.lookup x=some .local\/a.names.lookup x=some .cell:=by decide +kernel)(h:∀y∈a.names,y.2≠.free:=by decide +kernel):FnScope N P a:=⟨b,e,g,c,f,d,h⟩
section
variable{P:B76}{w:World}{K:Ab1}{mg:Ab0}{base:Heap}
theorem Fun.okA {x a:Str} {st:Stmt} {f:Addr} {d:B88} {N ps:List Str} {k:Nat} {sp:Sp} (F:Fun K x a st f d)(S:FnScope N ps (qAA st))
  (b:∀ (cdv:Value) (A:Around) (outer:List Env) (s:Shared) (H:Hp) (vs:List V) (Q:VK) (E:XK),Room k (A.deeper (envOfC a (qAA st) s.heap.objs.size f cdv))->sp vs H Q E->
   ∃t,PSs (cxOf CX0 P w K mg base N a (qAA st) f cdv A outer s H E).nox (qCJ st) t/\t {nx:=λ_ H'=>Q .non H',rt:=Q} (start N vs) H)
  (c:∀vs H Q E,sp vs H Q E->vs.length=ps.length:=by intro vs H Q E h;(repeat (obtain⟨_,h⟩:=h));subst_vars;rfl):FnOk P w K mg base CX0 (k+1) f d ps sp:=F.ok S c b
@[elab_as_elim] theorem us6 {α:Type}{P:List α->Prop}(g:List α)(i:g.length=6)(h:∀a b c d e f,P [a,b,c,d,e,f]):P g:=by
 match g,i with
 |[a,b,c,d,e,f],_=>exact h a b c d e f
@[elab_as_elim] theorem us5 {α:Type}{P:List α->Prop}(f:List α)(g:f.length=5)(h:∀a b c d e,P [a,b,c,d,e]):P f:=by
 match f,g with
 |[a,b,c,d,e],_=>exact h a b c d e
def Bs (P:B76)(w:World)(base:Heap):Prop:=P=P/\w=w/\base=base
theorem Tf.c {h:Heap} {x:Str} {s:Stmt} {f:Addr} {n:Nat} {ps:List Str} {sp:Sp} (X:K.In h)(G:h.Ns B89 mg)(B:Bs P w base)(T:Tf K x s f)(a:∀fd,Fun K x x s f fd->FnOk P w K mg base CX0 n f fd ps sp)
  (b:∀ (kV doc pm:Value) (an:Option Addr) (cdv ct:Value) (us:List Value),us.length=ps.length->C42 (R5 x x (qEB s) (qCJ s) (qAA s) .none kV doc pm an cdv ct) ⟨us,[]⟩=pure (ps.zip us):=by
   intro _ _ _ _ _ _ us hl;first|exact us1 us hl (λ_=>rfl)|exact us2 us hl (λ_ _=>rfl)|exact us3 us hl (λ_ _ _=>rfl)|exact us4 us hl (λ_ _ _ _=>rfl)|exact us5 us hl (λ_ _ _ _ _=>rfl)|exact us6 us hl (λ_ _ _ _ _ _=>rfl)|exact us0 us hl rfl):∃fd,Clb P w K mg base n f fd x ps sp:=T.clb X G a b
end
section
variable{X:Cx}{pos:Pos}
theorem qCC {x:Str} (i:Nat)(b:X.N.Nodup:=by exact qdE (by kernel_rfl))(hi:X.N[i]?=some x:=by rfl)(c:Loc X.env.scope x:=by exact F3 rfl)(a:X.fn x=true\/X.env.scope.names.lookup x=some .local:=by first|exact .inl rfl|exact .inr rfl|assumption):PG X (.Name x pos) (qV0 i):=qBD b hi c a
end
variable{X:Cx}
theorem PassesOwn.exb {Ab:Aa2} {G:St->XK} (a:X.stack=X.env::X.outer)(k:X.env.frame=some X.env.locals):PassesOwn (model X.prog X.w) X.A X.env (EX X Ab G):=by
 rintro ev s2 ⟨σ1,H1,s1,g,I1,⟨e,cls,dd,H',B,nt,rfl,ho,hg,x,gg⟩,q⟩;have c:=x.ex;rw[a] at c;unfold notedBy;refine qPZ (I1.ok.frames.trans (by rw[a])) k c λf l j=>?_
 refine qZV (s:={s2 with heap:=f}) l λm d i=>?_;rw[<- a] at d;exact⟨σ1,H1,s1,g,I1,⟨e,cls,dd,H',B,true,rfl,ho,hg,x.step d (j.trans i) (λb h=>h),gg⟩,q⟩
def bFor (wi:TI)(g:TG)(tb:TB):TB:=λG=>tFor wi g (tb G)
theorem qb7 {tg q:Expr} {st:Stmt} {wi:TI} {g:TG} {tb:TB} {pos:Pos} (a4:X.stack=X.env::X.outer)(hf:X.env.frame=some X.env.locals)(hc:X.calm=true)(hi:PI X.nox tg q wi)(hg:PG X.nox tg g)(c:PB X st tb)
  (hs:∀x,C27 q X.env x=pure x:=by intro _;rfl):PB X (.For tg q [st] [] pos) (bFor wi g tb):=by
 intro Ab s σ H D G I h;have hp:=PassesOwn.exb (X:=X) (Ab:=Ab) (G:=G) a4 hf;have nv:∀{α:Type} {t:Sem α} {Q Q':α->Shared->Prop} {s:Shared},wpAny (model X.prog X.w) X.A t Q (λ_ _=>False) s->(∀a s,Q a s->Q' a s)->wpAny (model X.prog X.w) X.A t Q' (EX X Ab G) s:=λh k=>B83 h k λ_ _ z=>z.elim;refine wpAny_For (nv (hi Ab s σ H _ (I.wish _) h) λv s1 h1=>nv h1 λa6 s2 h2=>?_) hs;obtain⟨it,fp,tn,J,H2,e,I2,T,a5,f2,W,⟨m0,w0⟩,a0⟩:=h2;subst e;have j:∀{H':Hp},(∀b∈fp,H' b=none)->∀b∈fp,FpOk X Ab H' b:=λhn b c=>⟨hn b c,(f2 b c).2⟩;refine codeAny_forLoop_any (λn s'=>∃i σ' H',Inv X Ab σ' H' s'/\tn i s'.heap/\(∀b∈fp,H' b=none)/\W i n σ' H') ?_ m0 ⟨0,σ,H2,I2.unwish,a5,λb c=>(f2 b c).1,w0⟩;rintro n s3 ⟨i,σ3,H3,I3,st3,fr3,w3⟩;rcases a0 i n σ3 H3 w3 with⟨a2,qn⟩|⟨go,N,hN,a1⟩
 ·refine B96 hp (thn (T.done X rfl rfl rfl hc i Ab s3 σ3 H3 (EX X Ab G) I3 (j fr3) st3 a2) λr s4 ⟨hr,I4⟩=>?_);subst hr;exact C08 ⟨σ3,H3,I4,qn⟩
 ·refine B96 hp (thn (T.item X rfl rfl rfl hc i Ab s3 σ3 H3 (EX X Ab G) I3 (j fr3) st3 go) λr s4 ⟨u,hr,h4⟩=>?_);subst hr;refine B96 hp (thn h4 λ_ s5 ⟨x,H5,I5,r5,y5,st5,fr5⟩=>?_);have a3:=I5.pinned (j fr5) (T.obj _ _ st5);refine B96 hp (nv (hg _ s5 σ3 H5 x u _ (a3.wish _) r5 (a1 x H5 y5)) λ_ s6 ⟨σ6,H6,I6,q6⟩=>?_);have I6:=I6.unwish;have l:∀{s7:Shared} {σ7:St} {H7:Hp},Inv X (Ab++qLP fp s5.heap) σ7 H7 s7->N σ7 H7->∃m,m<n/\∃i σ' H',Inv X Ab σ' H' s7/\tn i s7.heap/\(∀b∈fp,H' b=none)/\W i m σ' H':=λ{s7 σ7 H7} p n7=>by
   obtain⟨m',hm,w7⟩:=hN σ7 H7 n7;refine⟨m',hm,i+1,σ7,H7,p.unpinned,T.keep _ _ _ st5 λb c o e=>(p.pin (b,o) (F7 _ (F7 _ (qDG c e)))).1,λb c=>?_,w7⟩;obtain⟨o,e,d⟩:=T.obj _ _ st5 b c;exact(p.pin (b,o) (F7 _ (F7 _ (qDG c e)))).2.1
  refine B96 hp (C47 (B83 (c _ s6 σ6 H6 _ G I6 q6) (λf s7 y=>?_) λev s7 ⟨σ1,H1,s1,g1,J1,c1,k1⟩=>⟨σ1,H1,s1,g1,J1.unpinned,c1,k1⟩));cases f with
  |next=>obtain⟨σ7,H7,p,n7⟩:=y;exact C08 (l p n7)
  |cont=>obtain⟨σ7,H7,p,n7⟩:=y;exact l p n7
  |brk=>obtain⟨σ7,H7,p,y⟩:=y;exact⟨σ7,H7,p.unpinned,y⟩
  |ret v=>obtain⟨x7,σ7,H7,p,r7,y⟩:=y;exact⟨x7,σ7,H7,p.unpinned,r7,y⟩
def qdU (i:Nat)(sp:Sp)(t:TA):TB:=λG D σ H=>t σ H λvs H2=>sp vs H2 (λv H3=>D.nx (σ.set i (some v)) H3) λcls dd H3=>G σ cls dd H3
theorem qZ8 {i:Nat} {x a:Str} {e:Expr} {es:List Expr} {y p pos o:Pos} {f:Addr} {k:Nat} {n:B88} {ps:List Str} {sp:Sp} {t:TA} (hN:X.N.Nodup)(hi:X.N[i]?=some x)(hx:Loc X.env.scope x)
  (F:FnOk X.prog X.w X.K X.mg X.base (CX1 X.prog X.w) k f n ps sp) (hr:Room k X.A) (hg:Gl X a) (hm:X.mg a=some (.ref f)) (hk:M8 X.K (.ref f)=true) (hb:Binds X.K n ps []) (ha:PA X.nox (e::es) t)
  (hs:swapsWith (.Call (.Name a p) (e::es) [] pos) (some (.Name x y)) o.line X.env=pure false:=by rfl) (j:X.fn x=true\/X.env.scope.names.lookup x=some .local:=by first|exact .inl rfl|exact .inr rfl|assumption)
  (d:(a==("__debug__" : Str))=false:=by decide) (l:B85 (e::es) X.env=(false,eval e X.env)::B85 es X.env:=by rfl) (g:(backTo pos (B85 es X.env)).any (·.1)=false:=by rfl):
  PB X (.Assign [.Name x y] (.Call (.Name a p) (e::es) [] pos) o) (qdU i sp t):=by
 intro Ab s σ H D G I h;refine wpAny_Assign_Name ?_ hs;refine C06 (qJV I hg hm ?_ d);refine A17 (h₀:=X.base) I.ok.mod.kin hk (B83 (ha pos Ab s σ H _ (I.wish _) h) (λus s1 ⟨vs,H1,I1,r,q⟩=>?_) λ_ _ z=>z.elim) l g;have I1:=I1.unwish;refine⟨I1.kIn,?_⟩;have hl:us.length=ps.length:=by rw[<- r.length];exact F.len _ _ _ _ q
 have b:=hb s1 us I1.kIn (by rw[M4];exact hl)
 rw[M4] at b;refine C19 (B99 (F.run X.A X.stack s1 H1 ⟨us,[]⟩ us vs _ _ hr I1.env0 b r q) λm s3 c=>?_);cases m with
 |ok fl=>
  cases fl with
  |ret u=>
   obtain⟨v,H3,I3,rv,q3⟩:=I1.after c;exact qGP I3 hN hi hx rv (λs4 I4=>⟨_,H3,I4,q3⟩) j
  |next=>exact P1 c
  |brk=>exact P1 c
  |cont=>exact P1 c
 |error ev=>exact⟨σ,H1,s1,_,I1,c,λ_ _ _ z=>z⟩
def qYY:V->List V->Hp->VK->Prop:=λx vs H Q=>∃(l:Addr) (xs:List V) (i:Int) (y:V),x=.ref l/\vs=[.int i,y]/\H l=some (.lst xs)/\0<=i/\i<=(xs.length:Int)/\xs.length<100000/\Q .non (Ag H l (.lst (xs.take i.toNat++y::xs.drop i.toNat)))
theorem qU8:MtM X "list.insert" qYY:=by
 intro p s σ H x vs v us Q I f k h;obtain⟨l,m,i,y,rfl,rfl,d,h0,o,hz,q⟩:=h;cases f;obtain⟨u,w,rfl,g,c⟩:=k.two;obtain⟨t,rfl⟩:=g;obtain⟨z,a,n,r,j,e⟩:=I.lstM d;have lr:=r.length;have hs:=B80;have b:¬(!Builtin.List.listFitsIndex i)=true:=by rw[fitsIndex_both (by lia) (by lia)];decide
 refine C45 F.slot_list_insert ⟨_,e,rfl⟩ F.entry_list_insert (F.args_list_insert_3 _ _ _) (AutoSeq1.list_insert_list_int_val_1 l a.toArray n i t w b (by rw[C3,<- j];exact z)) ⟨e,?_⟩
 refine⟨.non,_,I.lset (its':=a.take i.toNat++w::a.drop i.toNat) d e ?_ ((r.take i.toNat).append (.cons c (r.drop i.toNat))) ?_,rfl,q⟩
 ·dsimp only;rw[if_neg (by lia),C3,S0 (by lia)]
  simp;exact D3 (by rw[J2];exact B4 _)
 ·rw[A6,C9,J7,J2]
  lia
section
variable{prog:B76}{w:World}{A:Around}{E:Aa1}{s:Shared}
theorem qQ7 {l:Addr} {a:Array Value} {ns:List Int} {Q:Aa1} (hh:A.handled=none)(hl:s.heap.IsTuple l a)(hi:C01 a.toList ns)(h4:a.size<=4)
  (h:∀(h':Heap) (tk:Nat),SetI w s.heap.objs.size (dedI ns) h'->(∀b o,s.heap.get? b=some o->h'.get? b=some o)->Q (.ref s.heap.objs.size) {s with heap:=h',toks:=tk}):
  wpAny (model prog w) A (call (.type "set") [.ref l]) Q E s:=by
 have y:ns.length=a.size:=by have:=IntsAre.length hi;simpa using this.symm
 obtain⟨c,tl,ad⟩:=O8.mro;have a3:=O8.made;have ae:=O8.sub;refine C19 (C39 ?_);show wpAny _ _ (callAny (.type "set") _) _ _ _;refine B74 ⟨l7 _ (by decide +kernel),B92 B06 ?_⟩
 rw[A91 (weight_type_call_type "set" [.ref l] []) rfl];have h1:=O8.notType;have h2:=O8.canCreate;have ai:=B22 (.ref l)
 repeat (any_goals (first|assumption|wp_step))
 refine B99 (qNT (.ref l) (E:=E) (Q₁:=λn s₁=>n=.ref s.heap.objs.size/\s₁={s with heap:=s.heap.push (freshSet w)}) ⟨rfl,rfl⟩) λr s₁ m=>?_;cases r with
 |error e=>exact m
 |ok fl=>
  cases fl with
  |ret n=>
   obtain⟨rfl,rfl⟩:=m;have hS:(s.heap.push (freshSet w)).get? s.heap.objs.size=some (freshSet w):=B8 _ rfl;have hT:Shared.TypeIs {s with heap:=s.heap.push (freshSet w)} (.ref s.heap.objs.size) "set":=⟨_,hS,rfl⟩;have ag:=O8.init.lookup;have aj:=O8.init.bind (.ref s.heap.objs.size)
   repeat (any_goals (first|assumption|wp_step))
   refine B99 (C33 (R:=wants (fun r s₂=>r=.none/\∃ h' tk,s₂={ s with heap:=h',toks:=tk }/\SetI w s.heap.objs.size (dedI ns) h'/\
     (∀b o,s.heap.get? b=some o->h'.get? b=some o)) E) O8.init.plain B23 (check_set_init_1 hT ?_)) λr₂ s₂ d=>?_
   ·obtain⟨ol,p,z,nl,a0⟩:=hl;obtain⟨af,j,a4,f⟩:=ol;simp only at z a0;subst z;subst a0;have x:(s.heap.push (freshSet w)).get? l=some {cls:=.type "tuple",dict:=j,data:=.seq a nl,slots:=f}:=A1 _ p;have ac:=F.sub_tuple_set;have ab:=F.sub_tuple_frozenset;have ah:(j6 "tuple" == j6 "dict")=false:=by decide
    have a1:(s.heap.push (freshSet w)).IsTuple l a:=⟨_,x,rfl,nl,rfl⟩;unfold Builtin.«set.__init__» noKeywords x6;generalize hPI:pyIter=PI
    wp_walk
    subst hPI;refine wpAny_pyIter_tuple a1 ?_;refine B73 (wpAny_runValue ?_);have k:l<s.heap.objs.size:=B9 p;have a2:A.in1.in1.in1.handled=none:=by simp[hh]
    have q:l≠(s.heap.push (freshSet w)).objs.size:=by
     rw[O4];exact E7 (Y5 k)
    have aa:s.heap.objs.size∉[(s.heap.push (freshSet w)).objs.size,l]:=by
     rw[O4];simp only[C0,B3,t8,or_false,not_or];exact⟨E7 (B24 _),V4 k⟩
    have u:∀(i:Nat) (v:Value),a[i]?=some v->∃t,v=.int (ns.getD i 0) t:=λi v hv=>
     A02 hi i v (by rw[F9];exact hv)
    refine qID ((Walks.tuple a2 _ l q a).toS) s.heap.objs.size aa ns y h4 u (a.size-0) 0 _ (by lia) (J5 _)
     ⟨⟨_,B8 _ rfl,rfl,rfl⟩,(a1.push _)⟩ ?hS0 ?hR
    case hS0=>exact SetI.fresh (A1 _ hS)
    case hR=>
     intro s' hm g;obtain⟨h',g',d',a8,a7⟩:=s';have eg:g'=s.gens:=hm.gens;have ed:d'=s.drawn:=hm.drawn;have eo:a7=s.os:=hm.os;subst eg;subst ed;subst eo;show wpAny _ _ _ _ _ _;refine B74 ?_;show wpAny _ _ (ret M3) _ _ _;refine B74 ⟨rfl,h',a8,rfl,g,λb o e=>?_⟩;have hb:=B9 e;have a6:b≠s.heap.objs.size:=E7 hb;have a5:b≠(s.heap.push (freshSet w)).objs.size:=by
      rw[O4];exact E7 (Y5 hb)
     exact hm.heap b o (by simp only[C0,B3,t8,or_false,not_or];exact⟨a6,a5⟩) (A1 _ (A1 _ e))
   ·cases r₂ with
    |error e=>exact d
    |ok fl₂=>
     cases fl₂ with
     |ret r=>
      obtain⟨rfl,h',tk,rfl,g,a9⟩:=d
      repeat (any_goals (first|assumption|wp_step))
      exact h _ _ g a9
     |next=>exact d
     |brk=>exact d
     |cont=>exact d
  |next=>exact m
  |brk=>exact m
  |cont=>exact m
end
theorem qVP (f:X.calm=true):qDX X (.type "set") (λxs H Q=>∃p ns,xs=[.ref p]/\SqT X.K H p (ns.map V.int)/\ns.length<=4/\∀a,H a=none->Q (.ref a) (Ag H a (SetO X.w a (dedI ns)))):=by
 intro y s σ H xs z Q I r h;obtain⟨p,ns,rfl,l,h4,q⟩:=h;obtain⟨u,rfl,m⟩:=qEI r;cases m;obtain⟨g,d,j,v⟩:=I.tuple l;have b:=d.length;rw[A0] at b;refine qQ7 (ns:=ns) (I.ok.hd f) j (by simpa using qDQ d) (by simp;lia) λh' i c n=>?_
 refine⟨.ref s.heap.objs.size,_,I.laid (t':=i) n (B4 _) ?_,rfl,q _ (I.hok.fresh (B4 _))⟩;obtain⟨es,ep,t,ks,e,_⟩:=id c;exact⟨c,⟨_,e⟩,λo h2 x k=>x.at k⟩
end _L
namespace _F
open PySem _L
theorem qB7:B81 "len" = some (.builtin "len"):=by decide +kernel
theorem qP2:B81 "min" = some (.builtin "min"):=by decide +kernel
theorem qcB:B81 "max" = some (.builtin "max"):=by decide +kernel
theorem qFM:B81 "sorted" = some (.builtin "sorted"):=by decide +kernel
theorem qVT:B81 "divmod" = some (.builtin "divmod"):=by decide +kernel
theorem qRO:B81 "all" = some (.builtin "all"):=by decide +kernel
theorem qAG:B81 "isinstance" = some (.builtin "isinstance"):=by decide +kernel
theorem qLZ:B81 "int" = some (.type "int"):=by decide +kernel
theorem qND:B81 "bool" = some (.type "bool"):=by decide +kernel
theorem qRM:B81 "str" = some (.type "str"):=by decide +kernel
theorem qFN:B81 "list" = some (.type "list"):=by decide +kernel
theorem qB5:B81 "tuple" = some (.type "tuple"):=by decide +kernel
theorem qRN:B81 "set" = some (.type "set"):=by decide +kernel
theorem qXG:B81 "range" = some (.type "range"):=by decide +kernel
theorem qP3:B81 "enumerate" = some (.type "enumerate"):=by decide +kernel
structure StAt (H:Hp)(d c:Addr)(t:Int)(ns:List Int):Prop where
 dict:H d=some (.dK [(P0 "cells",.ref c),(P0 "turn",.int t)])
 list:H c=some (.lst (ns.map V.int))
 ne:0<ns.length
 len:ns.length<=63
 pos:0<=t
def Keep (d c:Addr)(H H':Hp):Prop:=∀b o,H b=some o->b≠d->b≠c->H' b=some o
theorem Keep.trans {d c:Addr} {H H1 H2:Hp} (a:Keep d c H H1)(b:Keep d c H1 H2):Keep d c H H2:=λx o h n m=>b x o (a x o h n m) n m
theorem Keep.of_same {d c:Addr} {H H':Hp} (h:Same H H'):Keep d c H H':=λb o e _ _=>h b o e
theorem qA4 {H:Hp} {p:Addr} (h:H p=none)(o:HO):Same H (Ag H p o):=λb u q=>by rw[qAB (qA7 q h)];exact q
theorem qCR {d c:Addr} {H:Hp} {p:Addr} (h:H p=none)(o:HO):Keep d c H (Ag H p o):=.of_same (qA4 h o)
theorem StAt.ndc {H:Hp} {d c:Addr} {t:Int} {ns:List Int} (S:StAt H d c t ns):d≠c:=qFB S.dict S.list (by intro z;cases z)
theorem StAt.same {H H':Hp} {d c:Addr} {t:Int} {ns:List Int} (S:StAt H d c t ns)(h:Same H H'):StAt H' d c t ns:=⟨h _ _ S.dict,h _ _ S.list,S.ne,S.len,S.pos⟩
theorem StAt.new {H:Hp} {d c p:Addr} {t:Int} {ns:List Int} (S:StAt H d c t ns)(h:H p=none)(o:HO):StAt (Ag H p o) d c t ns:=S.same (qA4 h o)
theorem s_cs:¬(B1 "cells" = B1 "turn"):=by decide +kernel
theorem s_ct:¬((P0 (B1 "cells"):Key)=P0 (B1 "turn")):=λh=>s_cs (B69 h)
theorem qZX {H:Hp} {d c:Addr} {t:Int} {ns:List Int} (S:StAt H d c t ns):DGet H d (.str "turn") (some (.int t)):=by
 have h:=DGet.k (k:=P0 "turn") S.dict;rw[qEK s_ct,qEJ rfl] at h;exact h
theorem qN6 {H:Hp} {d c:Addr} {t:Int} {ns:List Int} (S:StAt H d c t ns):DGet H d (.str "cells") (some (.ref c)):=by
 have h:=DGet.k (k:=P0 "cells") S.dict;rw[qEJ rfl] at h;exact h
theorem qWI (c:Addr) (t u:Int):putK [((P0 "cells" : Key),V.ref c),(P0 "turn",V.int t)] (P0 "turn") (V.int u)=[((P0 "cells" : Key),V.ref c),(P0 "turn",V.int u)]:=by
 unfold putK;simp[s_cs]
theorem qZW {H:Hp} {d c:Addr} {t u:Int} {ns:List Int} (S:StAt H d c t ns):DPut H d (.str "turn") (.int u) (Ag H d (.dK [(P0 "cells",.ref c),(P0 "turn",.int u)])):=by
 have h:=DPut.k (k:=P0 "turn") (v:=.int u) S.dict (by rw[B80];exact(by decide:2<16777216))
 rw[qWI] at h;exact h
theorem StAt.turn {H:Hp} {d c:Addr} {t u:Int} {ns:List Int} (S:StAt H d c t ns) (h:0<=u):StAt (Ag H d (.dK [(P0 "cells",.ref c),(P0 "turn",.int u)])) d c u ns:=
 ⟨qA1,by rw[qAB (J4 S.ndc)];exact S.list,S.ne,S.len,h⟩
theorem StAt.put {H:Hp} {d c:Addr} {t:Int} {ns ms:List Int} (S:StAt H d c t ns)(h:ms.length=ns.length):StAt (Ag H c (.lst (ms.map V.int))) d c t ms:=
 ⟨by rw[qAB S.ndc];exact S.dict,qA1,by rw[h];exact S.ne,by rw[h];exact S.len,S.pos⟩
abbrev TB:Int:=1000000000
def qIB:Sp:=λvs H Q _=>∃d c t ns m,vs=[.ref d,.int m]/\StAt H d c t ns/\t<=TB/\1<=m/\m<=1000000/\∀k ns' H',0<=k->k<m->StAt H' d c (t+1) ns'->Keep d c H H'->Q (.int k) H'
def qTD (K:Ab1):Sp:=λvs H Q _=>∃(a:Addr) (ns:List Int),vs=[.ref a]/\SqL K H a (ns.map V.int)/\ns.length<=63/\∀d c ms H',StAt H' d c 0 ms->Same H H'->H d=none->H c=none->Q (.ref d) H'
noncomputable def cutI {α:Type}(xs:List α)(lo hi:Option Int):List α:=(xs.drop (HT.sIx xs.length 0 lo)).take (HT.sIx xs.length xs.length hi-HT.sIx xs.length 0 lo)
theorem qBG {α:Type} (f:α->V)(xs:List α)(lo hi:Option Int):cutV (xs.map f) lo hi=(cutI xs lo hi).map f:=by
 unfold cutV cutI;rw[A0,<- List.map_drop,<- List.map_take]
theorem qHH {α:Type} (xs:List α)(lo hi:Option Int):(cutI xs lo hi).length<=xs.length:=by
 unfold cutI;rw[C9,J2]
 lia
theorem qXW (c:Addr) (t:Int):qJS [] [((P0 (B1 "cells"):Key),V.ref c),(P0 (B1 "turn"),V.int t)]=[((P0 (B1 "cells"):Key),V.ref c),(P0 (B1 "turn"),V.int t)]:=by
 unfold qJS;simp only[W3,B43];unfold putK;simp[s_cs]
theorem qMY {xs:List V} {j:Nat} (h:j<xs.length):ixN xs.length (j:Int)=some j:=by
 unfold ixN;rw[if_pos (by lia),if_pos (by lia),Y3]
def qd0 (K:Ab1):Sp:=λvs H Q _=>∃(a:Addr) (ns:List Int),vs=[.ref a]/\SqL K H a (ns.map V.int)/\ns.length<=63/\∀H',Q (.bl true) H'
theorem cut {t u:TS} {D:Ends} {σ:St} {H:Hp} (h:∀N:St->Hp->Prop,(∀σ H,u D σ H->N σ H)->t {D with nx:=N} σ H):tSeq t u D σ H:=h _ λ_ _ z=>z
theorem opq {A:Prop} (h:∀G:Prop,(A->G)->G):A:=h A id
structure Rise (k:Int)(zs:List Int):Prop where
 up:zs.Pairwise (·<·)
 in_:∀x∈zs,0<=x/\x<k
theorem Rise.nil {k:Int} :Rise k []:=⟨.nil,λ_ h=>nomatch h⟩
theorem Rise.mono {j k:Int} {zs:List Int} (h:Rise j zs)(l:j<=k):Rise k zs:=⟨h.up,λx a=>⟨(h.in_ x a).1,by have:=(h.in_ x a).2;lia⟩⟩
theorem Rise.sub {k:Int} {zs ys:List Int} (h:Rise k zs)(s:ys.Sublist zs):Rise k ys:=⟨h.up.sublist s,λx a=>h.in_ x (s.subset a)⟩
theorem Rise.snoc {k:Int} {zs:List Int} (h:Rise k zs)(e:0<=k):Rise (k+1) (zs++[k]):=by
 refine⟨U9.mpr ⟨h.up,List.pairwise_singleton _ _,λa c b d=>?_⟩,λx hx=>?_⟩
 ·rw[B3.mp d];exact(h.in_ a c).2
 ·rcases B7.mp hx with hx|hx
  ·have:=h.in_ x hx;lia
  ·rw[B3.mp hx];lia
theorem Rise.shift {k j:Int} {zs:List Int} (h:Rise k zs)(g:0<=j):Rise (k+j) (zs.map (·+j)):=by
 refine⟨Y7.mpr (h.up.imp λ{a b} c=>by lia),λx d=>?_⟩
 obtain⟨y,f,e⟩:=J8.mp d;have:=h.in_ y f
 lia
theorem Rise.nodup {k:Int} {zs:List Int} (h:Rise k zs):zs.Nodup:=h.up.imp λ{a b} c=>by lia
theorem Rise.len {zs:List Int} {k:Nat} (h:Rise (k:Int) zs):zs.length<=k:=by
 have a:zs ⊆ (Y1 k).map λ(i:Nat)=>(i:Int):=λx b=>by
  have:=h.in_ x b;exact J8.mpr ⟨x.toNat,V3.mpr (by lia),by lia⟩
 have:=r8 h.nodup a;simpa using this
theorem qWT {zs:List Int} {k x:Int} :x∈addI zs k↔x∈zs\/x=k:=by
 unfold addI
 split
 ·rename_i h
  constructor
  ·exact .inl
  ·rintro(z|rfl)
   ·exact z
   ·exact h
 ·simp
theorem qZD {zs:List Int} {k:Int} (h:zs.Nodup):(addI zs k).Nodup:=by
 unfold addI
 split
 ·exact h
 ·rename_i hk
  exact qMO h hk
theorem qVD:∀(l zs:List Int),zs.Nodup->(l.foldl addI zs).Nodup/\∀x,x∈l.foldl addI zs↔x∈zs\/x∈l
 |[],zs,h=>⟨h,λx=>by simp⟩
 |k::r,zs,h=>by
  obtain⟨a,b⟩:=qVD r (addI zs k) (qZD h);refine⟨a,λx=>?_⟩;rw[W3,b x,qWT,C0,or_assoc]
theorem qSQ (l:List Int):(dedI l).Nodup:=(qVD l [] .nil).1
theorem mem_dedI {l:List Int} {x:Int} :x∈dedI l↔x∈l:=by
 have:=(qVD l [] .nil).2 x;unfold dedI;rw[this];simp
theorem qJ3 (l:List Int):(dedI l).length<=l.length:=by
 have:=qE8 l [];simpa[dedI] using this
theorem qOA {zs:List Int} (d:zs.Pairwise (·<=·))(c:zs.Nodup):zs.Pairwise (·<·):=by
 have e:zs.Pairwise (λa b=>a<=b/\a≠b):=List.pairwise_and_iff.mpr ⟨d,c⟩;exact e.imp λ{a b} ⟨x,y⟩=>by lia
theorem qMG {k:Int} {a zs:List Int} (b:zs.Perm (dedI a))(d:zs.Pairwise (·<=·))(h:∀x∈a,0<=x/\x<k):Rise k zs:=
 ⟨qOA d (b.nodup_iff.mpr (qSQ a)),λx c=>h x (mem_dedI.mp (b.mem_iff.mp c))⟩
noncomputable def qB6 (lo hi:Int):List Int:=(Y1 (hi-lo).toNat).map λ(i:Nat)=>lo+i
theorem qPN (lo hi:Int):qIE lo hi=(qB6 lo hi).map V.int:=by
 unfold qIE qB6;rw[X3]
 rfl
theorem mem_rangeI {lo hi x:Int} :x∈qB6 lo hi↔lo<=x/\x<hi:=by
 unfold qB6;rw[J8]
 constructor
 ·rintro⟨i,a,e⟩;have:=V3.mp a
  lia
 ·intro h;exact⟨(x-lo).toNat,V3.mpr (by lia),by lia⟩
theorem qBZ (lo hi:Int):(qB6 lo hi).length=(hi-lo).toNat:=by unfold qB6;simp
theorem qTK (lo hi:Int):(qB6 lo hi).Pairwise (·<·):=by
 unfold qB6;exact Y7.mpr (List.pairwise_lt_range.imp λ{a b} h=>by lia)
theorem qPO {lo hi:Int} (h:0<=lo):Rise hi (qB6 lo hi):=⟨qTK _ _,λx a=>by have:=mem_rangeI.mp a;lia⟩
theorem qKE {α:Type} (xs:List α)(k:Nat)(h:k<=xs.length):cutI xs (some (k:Int)) none=xs.drop k:=by
 unfold cutI;rw[HT.sIx_nat,HT.sIx_none,S0 h];exact D3 (by rw[J2];exact B4 _)
theorem qQ6 {α:Type} (xs:List α)(k:Nat):cutI xs none (some (k:Int))=xs.take k:=by
 unfold cutI;rw[HT.sIx_nat,HT.sIx_none,Z6,A19];rcases Nat.le_total k xs.length with h|h
 ·rw[S0 h]
 ·rw[Nat.min_eq_right h,D3 h,D3 (B4 _)]
abbrev NetL (H:Hp):List Addr->Aa0->Prop:=Paired λr zs=>H r=some (.tup (zs.map V.int))
theorem NetL.keep {d c:Addr} {H H':Hp} {rs:List Addr} {Ae:Aa0} (h:NetL H rs Ae)(a:∀r zs,H r=some (.tup zs)->r≠d/\r≠c)(k:Keep d c H H'):NetL H' rs Ae:=by
 induction h with
 |nil=>exact .nil
 |cons r t ih=>exact .cons (k _ _ r (a _ _ r).1 (a _ _ r).2) ih
theorem NetL.same {H H':Hp} {rs:List Addr} {Ae:Aa0} (h:NetL H rs Ae)(k:∀r zs,H r=some (.tup zs)->H' r=some (.tup zs)):NetL H' rs Ae:=by
 induction h with
 |nil=>exact .nil
 |cons r t ih=>exact .cons (k _ _ r) ih
theorem NetL.get {H:Hp} :∀{rs:List Addr} {Ae:Aa0} {i:Nat} {zs:List Int},NetL H rs Ae->Ae[i]?=some zs->∃r,rs[i]?=some r/\H r=some (.tup (zs.map V.int))
 |_,_,_,_,.nil,e=>by simp at e
 |_,_,0,_,.cons r _,e=>by simp at e;subst e;exact xR rfl r
 |_,_,i+1,zs,.cons _ t,e=>by
  obtain⟨r,h1,h2⟩:=NetL.get (i:=i) (zs:=zs) t (by simpa using e)
  exact⟨r,by simpa using h1,h2⟩
def NetAt (H:Hp)(a:Addr)(Ae:Aa0):Prop:=∃rs:List Addr,H a=some (.tup (rs.map V.ref))/\NetL H rs Ae
theorem StAt.tup {H:Hp} {d c:Addr} {t:Int} {ns:List Int} (S:StAt H d c t ns){r:Addr}{zs:List V}(h:H r=some (.tup zs)):r≠d/\r≠c:=
 ⟨qFB h S.dict (by intro z;cases z),qFB h S.list (by intro z;cases z)⟩
theorem NetAt.keep {H H':Hp} {d c:Addr} {t:Int} {ns:List Int} (S:StAt H d c t ns){a:Addr}{Ae:Aa0}(h:NetAt H a Ae)(k:Keep d c H H'):NetAt H' a Ae:=by
 obtain⟨g,b,f⟩:=h;exact⟨g,k _ _ b (S.tup b).1 (S.tup b).2,f.keep (λr i e=>S.tup e) k⟩
theorem NetAt.same {H H':Hp} {a:Addr} {Ae:Aa0} (h:NetAt H a Ae)(k:Same H H'):NetAt H' a Ae:=by
 obtain⟨d,c,b⟩:=h;exact⟨d,k _ _ c,b.same λr f e=>k _ _ e⟩
theorem NetAt.len {H:Hp} {rs:List Addr} {Ae:Aa0} (h:NetL H rs Ae):rs.length=Ae.length:=C5 h
def WFn (Ae:Aa0):Prop:=∀(i:Nat) zs,Ae[i]?=some zs->Rise (i:Int) zs
theorem WFn.snoc {Ae:Aa0} {zs:List Int} (h:WFn Ae)(b:Rise (Ae.length:Int) zs):WFn (Ae++[zs]):=by
 intro i a e;rcases A34 i Ae.length with l|l|l
 ·rw[O2 l] at e;exact h i a e
 ·subst l;simp at e;subst e;exact b
 ·rw[R8 (by rw[A6,C1];lia)] at e
  cases e
theorem WFn.nil:WFn []:=λi a e=>by simp at e
theorem qE0 {α β:Type} {F:α->β->Prop} {a:α} {b:β} {d:List α} {c:List β} (h:Paired F d c)(r:F a b):Paired F (d++[a]) (c++[b]):=Q5 h r
def qPF:Sp:=λvs H Q _=>∃d c t ns k,vs=[.ref d,.int k]/\StAt H d c t ns/\t<=TB-20/\0<=k/\k<=1000/\
 ∀r zs t' ns' H',StAt H' d c t' ns'->t<=t'->t'<=t+9->Keep d c H H'->H' r=some (.tup (zs.map V.int))->Rise k zs->Q (.ref r) H'
def qaR:Sp:=λvs H Q _=>∃d c t ns m,vs=[.ref d,.int m]/\StAt H d c t ns/\t<=TB-10000/\1<=m/\m<=400/\
 ∀a Ae t' ns' H',StAt H' d c t' ns'->t<=t'->t'<=t+10*m+10->Keep d c H H'->NetAt H' a Ae->WFn Ae->(Ae.length:Int)=m->Q (.ref a) H'
def qXP:Sp:=λvs H Q _=>∃d c t ns m,vs=[.ref d,.int m]/\StAt H d c t ns/\t<=TB-1000/\1<=m/\m<=400/\
 ∀a Ae t' ns' H',StAt H' d c t' ns'->t<=t'->t'<=t+m->Keep d c H H'->NetAt H' a Ae->WFn Ae->(Ae.length:Int)=m->Q (.ref a) H'
theorem qdB {a b k:Int} (d:0<=k)(c:k<4):∃v,atI [V.int a,V.int b] (k/3)=some (.int v)/\(v=a\/v=b):=by
 rcases(by lia:k=0\/k=1\/k=2\/k=3) with rfl|rfl|rfl|rfl
 ·exact⟨a,rfl,.inl rfl⟩
 ·exact⟨a,rfl,.inl rfl⟩
 ·exact⟨a,rfl,.inl rfl⟩
 ·exact⟨b,rfl,.inr rfl⟩
theorem qdA {k:Int} (b:0<=k)(a:k<6):∃v,atI [V.int 0,V.int 0,V.int 1,V.int 2,V.int 2,V.int 3] k=some (.int v)/\0<=v/\v<=3:=by
 rcases(by lia:k=0\/k=1\/k=2\/k=3\/k=4\/k=5) with rfl|rfl|rfl|rfl|rfl|rfl
 all_goals exact xR rfl ⟨by decide,by decide⟩
theorem qAK {H Hc:Hp} {p:Addr} {o:HO} (h:Same H Hc)(a:H p=none):Same H (Ag Hc p o):=λb u e=>by rw[qAB (qA7 e a)];exact h b u e
theorem qJ0 {d c:Addr} {H Hc:Hp} {p:Addr} {o:HO} (h:Keep d c H Hc)(a:H p=none):Keep d c H (Ag Hc p o):=λb u e g f=>by rw[qAB (qA7 e a)];exact h b u e g f
theorem qFT {H:Hp} {p:Addr} {xs:List V} {o:HO} {rs:List Addr} {Ae:Aa0} (h:NetL H rs Ae)(a:H p=some (.lst xs)):NetL (Ag H p o) rs Ae:=
 h.same λr b e=>by rw[qAB (qFB e a (by intro z;cases z))];exact e
theorem qBF (rs:List Addr)(r:Addr):rs.map V.ref++[V.ref r]=(rs++[r]).map V.ref:=by rw[C4];rfl
theorem qaZ (b:Bool)(x:Int):(F1 (if b=true then(1:Int) else 0).toNat [V.int x]).flatten=(if b=true then[x] else[]).map V.int:=by cases b<;>rfl
theorem qAN {α β:Type} {F:α->β->Prop} :∀{l₁:List α} {l₂:List β} {i:Nat} {a:α},Paired F l₁ l₂->l₁[i]?=some a->∃b,l₂[i]?=some b/\F a b
 |_,_,_,_,.nil,e=>by simp at e
 |_,_,0,_,.cons r _,e=>by simp at e;subst e;exact xR rfl r
 |_,_,i+1,a,.cons _ t,e=>by
  obtain⟨b,h1,h2⟩:=qAN (i:=i) (a:=a) t (by simpa using e)
  exact⟨b,by simpa using h1,h2⟩
theorem qCB {α β:Type} {F G:α->β->Prop} {d:List α} {c:List β} (h:Paired F d c)(k:∀a b,F a b->G a b):Paired G d c:=by
 induction h with
 |nil=>exact .nil
 |cons r t ih=>exact .cons (k _ _ r) ih
theorem qC3 {rs:List Addr} {i:Nat} {x:V} (h:(rs.map V.ref)[i]?=some x):∃r,rs[i]?=some r/\x=.ref r:=by
 rw[C6] at h;cases e:rs[i]? with
 |none=>rw[e] at h;cases h
 |some r=>rw[e] at h;exact⟨r,rfl,(D7 h).symm⟩
theorem qI2 {zs:List Int} {i:Nat} {x:V} (h:(zs.map V.int)[i]?=some x):∃z,zs[i]?=some z/\x=.int z:=by
 rw[C6] at h;cases e:zs[i]? with
 |none=>rw[e] at h;cases h
 |some r=>rw[e] at h;exact⟨r,rfl,(D7 h).symm⟩
theorem qQI {α:Type} {l:List α} {a b:α} {j:Nat} (h:(l++[a])[j]?=some b):l[j]?=some b\/(j=l.length/\b=a):=by
 rcases A34 j l.length with z|z|z
 ·rw[O2 z] at h;exact .inl h
 ·subst z;simp at h;exact .inr ⟨rfl,h.symm⟩
 ·rw[R8 (by rw[A6,C1];lia)] at h
  cases h
noncomputable def qaH (ns st:List Int) (Aa wk:Int):V:=if wk∈st then .str "there" else if∀x∈ns,x∈st then(if Aa<=(st.length:Int) then .str "full" else .non) else .str "needs"
noncomputable def qSZ (st:List Int) (wk:Int):V:=if wk∈st then .non else .str "empty"
noncomputable def qaG (ns st:List Int) (Aa:Int) (Ac:Str) (wk:Int):V:=if Ac = "do" then qaH ns st Aa wk else qSZ st wk
theorem qC9:¬(B1 "clear" = B1 "do"):=by decide +kernel
theorem qE1 {xs:List V} {i:Int} {x:V} (a:0<=i)(h:xs[i.toNat]?=some x):atI xs i=some x:=by
 have e:i=((i.toNat:Nat):Int):=by lia
 rw[e];exact qVV (by simpa using h)
theorem NetAt.get {H:Hp} {a:Addr} {Ae:Aa0} {ns:List Int} {i:Nat} (h:NetAt H a Ae)(e:Ae[i]?=some ns):∃(rs:List Addr) (r:Addr),H a=some (.tup (rs.map V.ref))/\rs.length=Ae.length/\(rs.map V.ref)[i]?=some (.ref r)/\H r=some (.tup (ns.map V.int)):=by
 obtain⟨rs,c,b⟩:=h;obtain⟨r,f,d⟩:=b.get e;exact⟨rs,r,c,C5 b,by rw[C6,f];rfl,d⟩
def qcS (t:TS):TS:=λD σ H=>∃Pm:St->Hp->Prop,t {D with nx:=Pm} σ H/\∀σ' H',Pm σ' H'->D.nx σ' H'
theorem qTO {X:Cx} {st:Stmt} {t:TS} (h:PS X st t):PS X st (qcS t):=by
 intro c s σ H D I e;obtain⟨i,a,b⟩:=e;refine thn (h c s σ H _ I a) λf j q=>?_;cases f with
 |next=>obtain⟨σ',d,g,q⟩:=q;exact⟨σ',d,g,b _ _ q⟩
 |brk=>exact q
 |cont=>exact q
 |ret u=>exact q
theorem qYC:B81 "zip" = some (.type "zip"):=by decide +kernel
def seqO (b:Bool)(xs:List V):HO:=match b with|true=>.tup xs|false=>.lst xs
theorem SqB.of {b:Bool} {K:Ab1} {H:Hp} {a:Addr} {xs:List V} (h:H a=some (seqO b xs)):SqB b K H a xs:=by
 cases b
 ·exact Ab2 h
 ·exact Ac0 h
noncomputable def tyOf (b:Bool):Value:=match b with|true=>.type "tuple" |false=>.type "list"
theorem qW9 {b:Bool} {K:Ab1} {H:Hp} {a:Addr} {xs:List V} (h:H a=some (seqO b xs)):TyOf K H (.ref a) (tyOf b):=by
 cases b
 ·exact TyOf.lst h
 ·exact TyOf.tup h
section
variable{K:Ab1}
theorem qY0 (b:Bool):K0 K (tyOf b) (.type "list")=some (!b):=by cases b<;>rfl
theorem qXZ (b:Bool):K0 K (tyOf b) (.type "tuple")=some b:=by cases b<;>rfl
theorem qbS:K0 K (.type "str") (.type "list")=some false:=by rfl
theorem qbQ:K0 K (.type "str") (.type "tuple")=some false:=by rfl
theorem qbR:K0 K (.type "str") (.type "str")=some true:=by rfl
theorem qbV:K0 K (.type "int") (.type "list")=some false:=by rfl
theorem qbT:K0 K (.type "int") (.type "tuple")=some false:=by rfl
theorem qbU:K0 K (.type "int") (.type "str")=some false:=by rfl
end
theorem qDT {α:Type} {p:α->Bool} {l:List α} {i:Nat} {x:α} (h:l[i]?=some x):(l.take (i+1)).filter p=(l.take i).filter p++(if p x then[x] else[]):=by
 rw[E8,h,E9,A20];by_cases a:p x=true
 ·simp[a]
 ·simp[a]
end _F
namespace _L
open PySem PySem.Spec PyProof.Rows
theorem qSM {a:Addr} {o:Obj} {Af:List (List KI×V)} {g:TG} {c:TS} {D:Ends} {σ:St} {H:Hp} (Pv:Nat->St->Hp->Prop)(t:Pv 0 σ H)(u:∀i σ H,i<=Af.length->Pv i σ H->H a=some (.frz o (.dT Af)))
  (j:∀i k v r σ H,Af[i]?=some (k,v)->H r=some (.tup (k.map kI))->Pv i σ H->g (.ref r) σ H λσ2 H2=>c {D with nx:=Pv (i+1),ct:=Pv (i+1),bk:=D.nx} σ2 H2) (h:∀σ H,Pv Af.length σ H->D.nx σ H):
  ForG (ItT a o Af) g c D σ H:=by
 refine⟨λi m σ H=>m=Af.length-i/\i<=Af.length/\Pv i σ H,⟨Af.length,by simp,J5 _,t⟩,?_⟩
 rintro i m σ H ⟨rfl,hi,p⟩;have q:=u i σ H hi p;by_cases b:i<Af.length
 ·refine .inr ⟨⟨b,q⟩,Pv (i+1),λσ' l d=>⟨Af.length-(i+1),by lia,rfl,b,d⟩,λx l y=>?_⟩
  obtain⟨e,k,v,r,n,f,s⟩:=y;subst e f;exact j i k v r σ _ n s p
 ·have e:i=Af.length:=by lia
  subst e;exact .inl ⟨⟨B4 _,q⟩,h σ H p⟩
end _L
namespace _F
open PySem _L
def qEZ (x:V)(d:PyData):Prop:=(x=.non/\d=.none)\/(∃b,x=.bl b/\d=.bool b)\/(∃i,x=.int i/\d=.int i)\/∃y,x=.str y/\d=.str y
def seqD (b:Bool)(ds:List PyData):PyData:=match b with|true=>.tuple ds|false=>.list ds
def DatN (H:Hp):Nat->V->PyData->Prop
 |0,x,d=>qEZ x d
 |n+1,x,d=>qEZ x d\/∃(b:Bool) (a:Addr) (xs:List V) (ds:List PyData),x=.ref a/\d=seqD b ds/\H a=some (seqO b xs)/\xs.length=ds.length/\∀(i:Nat) (x':V) (d':PyData),xs[i]?=some x'->ds[i]?=some d'->DatN H n x' d'
theorem DatN.same {H H':Hp} (s:Same H H'):∀{n:Nat} {x:V} {d:PyData},DatN H n x d->DatN H' n x d:=by
 intro n
 induction n with
 |zero=>exactλ{x d} h=>show qEZ x d from h
 |succ n ih=>
  rintro x d (h|⟨b,a,xs,ds,e1,e2,h1,hl,h⟩)
  ·exact .inl h
  ·exact .inr ⟨b,a,xs,ds,e1,e2,s _ _ h1,hl,λi e f c g=>ih (h i e f c g)⟩
theorem DatN.up {H:Hp} :∀{n:Nat} {x:V} {d:PyData},DatN H n x d->DatN H (n+1) x d:=by
 intro n
 induction n with
 |zero=>exactλ{x d} h=>.inl h
 |succ n ih=>
  rintro x d (h|⟨b,a,xs,ds,e1,e2,h1,hl,h⟩)
  ·exact .inl h
  ·exact .inr ⟨b,a,xs,ds,e1,e2,h1,hl,λi e f c g=>ih (h i e f c g)⟩
end _F
namespace _L
open PySem PySem.Spec PyProof.Rows _F
theorem qGN {n:Nat} :∀{ds:List PyData},(∀d∈ds,d.depth<=n)->A07 ds<=n
 |[],_=>J5 _
 |d::ds,h=>by
  show max d.depth (A07 ds)<=n;have h1:=h d (F6 ..);have h2:=qGN (ds:=ds) λd hd=>h d (C2 _ hd)
  lia
section
variable{X:Cx}{Ab:Aa2}{σ:St}{H:Hp}{s:Shared}
theorem qLM {x:V} {d:PyData} {v:Value} (h:qEZ x d)(r:RelV x v):Reads s.heap v d []/\d.depth=0:=by
 rcases h with⟨rfl,rfl⟩|⟨b,rfl,rfl⟩|⟨i,rfl,rfl⟩|⟨y,rfl,rfl⟩
 ·cases r;exact⟨.none,rfl⟩
 ·cases r;exact⟨.bool _,rfl⟩
 ·obtain⟨t,rfl⟩:=r;exact⟨.int _ _,rfl⟩
 ·obtain⟨t,rfl⟩:=r;exact⟨.str _ _,rfl⟩
theorem qS2 (I:Inv X Ab σ H s):∀(n:Nat) {x:V} {d:PyData} {v:Value},DatN H n x d->RelV x v->∃as,Reads s.heap v d as/\d.depth<=n:=by
 intro n
 induction n with
 |zero=>
  intro x d v h r;obtain⟨a,b⟩:=qLM (s:=s) h r;exact⟨[],a,by lia⟩
 |succ n ih=>
  rintro x d v (h|⟨b,a,xs,ds,rfl,rfl,h1,hl,h⟩) r
  ·obtain⟨a,b⟩:=qLM (s:=s) h r;exact⟨[],a,by lia⟩
  ·cases r;have c:∀{us:List Value} {ys:List V} {es:List PyData},Vals ys us->ys.length=es.length->(∀(i:Nat) (x':V) (d':PyData),ys[i]?=some x'->es[i]?=some d'->DatN H n x' d')->(∃as,ReadsAll s.heap us es as)/\∀e∈es,e.depth<=n:=by
    intro us ys es q
    induction q generalizing es with
    |nil=>
     intro hl _;cases es with
     |nil=>exact⟨⟨[],.nil⟩,λ_ z=>nomatch z⟩
     |cons _ _=>cases hl
    |cons r t ih2=>
     intro hl h;cases es with
     |nil=>cases hl
     |cons e es=>
      obtain⟨as,f,k⟩:=ih (h 0 _ _ rfl rfl) r;obtain⟨⟨bs,q3⟩,q4⟩:=ih2 (by simpa using hl) λi x' d' g j=>h (i+1) x' d' g j
      refine⟨⟨as++bs,.cons f q3⟩,λd' u=>?_⟩;rcases C0.mp u with z|z
      ·rw[z];exact k
      ·exact q4 d' z
   cases b with
   |false=>
    obtain⟨l,m,⟨o,w,g,j,p,y⟩,_⟩:=I.list (a:=a) (xs:=xs) (Ab2 h1);obtain⟨⟨as,f⟩,k⟩:=c m hl h;refine⟨a::as,.list g j y (by simpa using f),?_⟩
    show A07 ds+1<=n+1;have:=qGN k
    lia
   |true=>
    obtain⟨l,m,⟨o,g,j,w,p⟩,_⟩:=I.tuple (a:=a) (xs:=xs) (Ac0 h1);obtain⟨⟨as,f⟩,k⟩:=c m hl h;refine⟨as,.tuple g j p (by simpa using f),?_⟩
    show A07 ds+1<=n+1;have:=qGN k
    lia
theorem qP0 (c:X.A.guards=some []) (t:X.A.units+64<cLine):qDX X (.type "str") (λxs H Q=>∃(a:Addr) (n:Nat) (d:PyData),xs=[.ref a]/\DatN H n (.ref a) d/\n<=40/\d.showable=true/\d.hasDict=false/\d.shown.length<=B75/\Q (.str d.shown) H):=by
 intro p s σ H xs v Q I r h;obtain⟨a,n,d,rfl,g,o,b,i,l,q⟩:=h;obtain⟨u,rfl,f⟩:=qEI r;cases f;obtain⟨m,k,x⟩:=qS2 I n g (show RelV (.ref a) (.ref a) from rfl);exact str_of_reads k b (PyData.noDict_hsm i) c (by lia) (λ_ _ e=>e) (λw u y j=>⟨.str d.shown,H,I.kept j,⟨_,rfl⟩,q⟩) l
end
open PySem PySem.Spec PyProof.Rows
theorem qIO:fillsNumberSlot (.type "tuple") "mul" = pure false:=
 PySem.fillsNumberSlot_seq (id:="tuple.__mul__") (r:=some (.builtin "tuple.__rmul__")) A44.lookup (by decide +kernel) B09.lookup (by decide +kernel)
theorem qNW:seqRepeat? (.type "tuple")=pure (some (.builtin "tuple.__mul__")):=by
 unfold seqRepeat?;rw[B27 (T:="tuple") (name:="__mul__") (id:="tuple.__mul__") A44.lookup (by decide +kernel),B27 (T:="tuple") (name:="__rmul__") (id:="tuple.__rmul__") B09.lookup (by decide +kernel)]
 rfl
section
variable{X:Cx}
def qb1 (K:Ab1):R2:=λx y H Q=>∃(a:Addr) (k:Int) (xs:List V),x=.ref a/\y=.int k/\SqT K H a xs/\xs≠[]/\1<=k/\k<=1000/\xs.length<=1000/\(k=1->Q (.ref a) H)/\(k≠1->∀p,H p=none->Q (.ref p) (Ag H p (.tup (F1 k.toNat xs).flatten)))
theorem qMJ:OpR X (C13 .Mult) (qb1 X.K):=by
 intro Ab s σ H x y v u Q I rx ry h;obtain⟨a,k,j,rfl,rfl,hq,e,k1,k2,hl,q1,q2⟩:=h;cases rx;obtain⟨t,rfl⟩:=ry;obtain⟨its,i,c,hz⟩:=I.tuple hq;have d:=i.length;obtain⟨o,ho,a0,n,p⟩:=id c;refine wpAny_binaryOp_repeat_ref (T:="tuple") (U:="int") (by decide) c.typeIs (λr=>typeIs_int r k t) qIO F.fills_int_mul y9 qNW B20.lookup ?_
 refine B86 y9 (typeIs_int s k t) B21 ?_ (B03 _ _);show wpAny _ _ (asInt? (.ref a) >>= _) _ _ s;unfold asInt?;refine B73 (B73 (wpAny_load ho ?_));rw[p];refine B74 ?_;refine B73 (B98 ?_);refine B74 (xR rfl ⟨rfl,c.typeIs,?_⟩);refine B86 A44 c.typeIs F.entry_tuple_mul ?_ (F.args_tuple_mul_2 _ _);show wpAny _ _ (asIndex (.int k t) >>= _) _ _ s;refine B73 (C25 (a:=k) rfl ?_);rw[if_neg (by simp;lia)]
 refine B73 (tupleItemsOf_ c ?_);have z:its.toArray.isEmpty=false:=by
  cases its with
  |nil=>cases j with
   |nil=>exact absurd rfl e
   |cons _ _=>cases d
  |cons _ _=>rfl
 rw[z];have nl:(its.length:Int)*k<=1000000:=by
  have m:(its.length:Int)<=1000:=by lia
  have h0:0<=(its.length:Int):=by lia
  have:=Int.mul_le_mul m k2 (by lia) (by lia)
  lia
 dsimp only;by_cases g:k=1
 ·subst g;rw[if_pos (by rfl)]
  unfold A14;refine B73 (B73 (C43 c.typeIs (B74 ?_)));rw[if_pos (by rfl)]
  exact B73 (B98 (B74 (xR rfl ⟨.ref a,H,I,rfl,q1 rfl⟩)))
 ·rw[if_neg (by simp[g]),if_neg (by simp;lia),if_neg (by rw[C3];lia),if_neg (by unfold Builtin.Tuple.tupleTooMany;rw[B80,C3];simp;lia)]
  have l:=qK6 its k.toNat [];rw[a8] at l;have ef:B02 (λw x2=>w++x2) #[] (F1 k.toNat its.toArray)=(F1 k.toNat its).flatten.toArray:=l;rw[ef];unfold O6;have f:(F1 k.toNat its).flatten.length<=1000000:=by
   rw[List.length_flatten,List.map_replicate,List.sum_replicate_nat];have e1:((k.toNat*its.length:Nat):Int)=(its.length:Int)*k:=by rw[Int.natCast_mul,Int.toNat_of_nonneg (by lia),Int.mul_comm]
   lia
  refine B73 (B82 (B74 (xR rfl ?_)) ?_)
  ·have lx:(F1 k.toNat j).flatten.length<=1000000:=by
    rw[(i.rep k.toNat).length];exact f
   refine⟨.ref s.heap.objs.size,_,I.laid (t':=s.toks) (o:=.tup (F1 k.toNat j).flatten) (λb ob q=>A1 _ q) (B4 _) ?_,rfl,q2 g _ (I.hok.fresh (B4 _))⟩;exact⟨by rw[B80];lia,_,i.rep k.toNat,IsTup.new _ _⟩
  ·size_fits
@[irreducible] def cxc (c:Const)(p:Pos):Expr:=.Constant c 0 p
end
section
variable{X:Cx}{e:Expr}{te:TE}{st:Option Expr}{tst:TO}{pos p2:Pos}
def qd5:V->Option Int->Option Int->Hp->VK->Prop:=λx lo hi H Q=>∃a xs,x=.ref a/\H a=some (.tup xs)/\∀p H',Same H H'->H' p=some (.tup (cutV xs lo hi))->Q (.ref p) H'
theorem qF7:SlR X qd5:=by
 intro z s σ H x v w y j g sl Q I m n o t h;obtain⟨a,c,rfl,k,q⟩:=h;by_cases f:HT.sIx c.length 0 j=0/\HT.sIx c.length c.length g=c.length
 ·cases m;obtain⟨i,r,l,hz⟩:=I.tuple (Ac0 k);have d:i.toArray.size=c.length:=by rw[C3];exact r.length.symm
  refine⟨"tuple",_,M7.lookup,l.typeIs,?_⟩;refine HT.getItem_tuple_whole l n o t (by rw[d];exact f) ⟨.ref a,H,I,rfl,q a H (λ_ _ e=>e) ?_⟩
  have:cutV c j g=c:=by
   unfold cutV;rw[f.1,f.2,Z6,A19,O1]
  rw[this];exact k
 ·exact qNS z s σ H (.ref a) v w y j g sl Q I m n o t ⟨a,c,rfl,Ac0 k,f,λp hp=>q p _ (λb u e=>by rw[qAB (qA7 e hp)];exact e) qA1⟩
end
end _L
namespace _F
open PySem _L
theorem qHY {α β:Type} {F:α->β->Prop} {a c:List α} {b d:List β} (h:Paired F a b)(k:Paired F c d):Paired F (a++c) (b++d):=by
 induction h with
 |nil=>exact k
 |cons r t ih=>exact .cons r ih
noncomputable def wd (Ae:Aa0)(st:List Int)(Aa:Int)(m:Str×Int):V:=qaG ((Ae[m.2.toNat]?).getD []) st Aa m.1 m.2
theorem qIS {α:Type} {l:List α} {n:Nat} (h:l.length=n):l.take n=l:=D3 (by lia)
theorem qFE {p:Int->Bool} {l:List Int} {i:Nat} :((l.take i).filter p).length<=i:=by
 have:=T1 p (l.take i);rw[C9] at this
 lia
structure Cnt (n:Nat)(cs:List Int)(seen:List Int):Prop where
 len:cs.length=n
 at_:∀x:Nat,x<n->∃c,cs[x]?=some c/\0<=c/\(c=0↔(x:Int)∉seen)
theorem qAQ {n:Nat} (h:n<=1000000):n<B75:=by rw[B80];lia
inductive Nd (Ae:Aa0)(Ad:List Int):Int->Prop
 |ask {x:Int}:x∈Ad->Nd Ae Ad x
 |need {w y:Int} {zs:List Int}:Nd Ae Ad w->Ae[w.toNat]?=some zs->y∈zs->Nd Ae Ad y
structure KeysI (Af:List (Key×V))(ks:List Int):Prop where
 keys:Af.map (·.1)=ks.map d7
 nd:ks.Nodup
theorem KeysI.len {Af:List (Key×V)} {ks:List Int} (h:KeysI Af ks):Af.length=ks.length:=by
 have:=congrArg Z1 h.keys;simpa using this
theorem KeysI.nil:KeysI [] []:=⟨rfl,.nil⟩
theorem qQ9 (k:Key):∀Af:List (Key×V),(Af.any λkv=>decide (kv.1=k))=true↔k∈Af.map (·.1)
 |[]=>by simp
 |p::r=>by
  rw[c8,D8,A01,qQ9 k r,C0,decide_eq_true_eq];exact or_congr_left ⟨Eq.symm,Eq.symm⟩
theorem KeysI.mem {Af:List (Key×V)} {ks:List Int} (h:KeysI Af ks)(x:Int):(d7 x:Key)∈Af.map (·.1)↔x∈ks:=by
 rw[h.keys,J8];exact⟨λ⟨y,b,e⟩=>B32 e▸b,λa=>⟨x,a,rfl⟩⟩
theorem KeysI.has {Af:List (Key×V)} {ks:List Int} (h:KeysI Af ks)(x:Int):(valV Af (d7 x)).isSome=decide (x∈ks):=by
 rw[<- qIR];have:=(qQ9 (d7 x) Af).trans (h.mem x);by_cases e:x∈ks
 ·rw[decide_eq_true e];exact this.mpr e
 ·rw[decide_eq_false e];exact V7.mpr λz=>e (this.mp z)
theorem qR3 (k:Key)(v:V):∀Af:List (Key×V),(Af.map λkv=>if kv.1=k then(kv.1,v) else kv).map (·.1)=Af.map (·.1)
 |[]=>rfl
 |p::r=>by
  rw[D8,D8,D8,qR3 k v r];congr 1
  split<;>rfl
theorem KeysI.put {Af:List (Key×V)} {ks:List Int} (h:KeysI Af ks)(x:Int)(v:V):KeysI (putK Af (d7 x) v) (addI ks x):=by
 have a:=(qQ9 (d7 x) Af).trans (h.mem x);unfold putK addI;by_cases e:x∈ks
 ·rw[if_pos (a.mpr e),if_pos e];exact⟨by rw[qR3];exact h.keys,h.nd⟩
 ·rw[if_neg λz=>e (a.mp z),if_neg e];refine⟨by rw[C4,C4,h.keys];rfl,qMO h.nd e⟩
structure Fnd (Ae:Aa0)(Ad ks:List Int)(j:Int):Prop where
 in_:∀x∈ks,(0<=x/\x<(Ae.length:Int))/\Nd Ae Ad x
 ask:∀x∈Ad,x∈ks
 clo:∀(w:Nat) zs,j<=(w:Int)->(w:Int)∈ks->Ae[w]?=some zs->∀y∈zs,y∈ks
abbrev Mv:=Str×Int
def nd (Ae:Aa0)(w:Int):List Int:=(Ae[w.toNat]?).getD []
def later (Ae:Aa0)(zs:List Int)(j:Nat)(x:Int):Prop:=∃v∈zs.drop j,x∈nd Ae v
instance (Ae:Aa0) (zs:List Int) (j:Nat) (x:Int):Decidable (later Ae zs j x):=by unfold later;infer_instance
inductive Run (Ae:Aa0)(Aa:Int):List Int->List Mv->List Int->Prop
 |nil {s:List Int}:Run Ae Aa s [] s
 |do_ {s s' t:List Int} {w:Int} {ms:List Mv}:w∉s->(∀y∈nd Ae w,y∈s)->(s.length:Int)<Aa->s'.Perm (s++[w])->s'.Pairwise (·<·)->Run Ae Aa s' ms t->Run Ae Aa s (("do",w)::ms) t
 |clear {s t:List Int} {w:Int} {ms:List Mv}:w∈s->Run Ae Aa (s.filter λx=>decide (x≠w)) ms t->Run Ae Aa s (("clear",w)::ms) t
def qTE:Sp:=λvs H Q _=>∃d c t ns a Ae,vs=[.ref d,.ref a]/\StAt H d c t ns/\t<=TB-100/\NetAt H a Ae/\WFn Ae/\1<=Ae.length/\Ae.length<=400/\
 ∀r ws t' ns' H',StAt H' d c t' ns'->t<=t'->t'<=t+10->Keep d c H H'->H' r=some (.tup (ws.map V.int))->Rise (Ae.length:Int) ws->1<=ws.length->Q (.ref r) H'
noncomputable def xfs (n w:V):List (Str×V):=putF "word" w [("move",n)]
theorem qW8 {H:Hp} {x dx:Addr} {o c u:HO} (h:dx≠x):Ag (Ag (Ag H x o) dx u) x c=Ag (Ag H dx u) x c:=by
 funext b
 unfold Ag;by_cases a:b=x
 ·simp[a]
 ·simp[a]
theorem qT0 {H:Hp} {x dx:Addr} {o u d:HO} (h:dx≠x):Ag (Ag (Ag H dx u) x o) dx d=Ag (Ag H dx d) x o:=by
 funext b
 unfold Ag;by_cases a:b=dx
 ·subst a;simp[h]
 ·by_cases c:b=x
  ·subst c;simp[a]
  ·simp[a,c]
def qTA (C:Addr):Sp:=λvs H Q _=>∃(x:Addr) (a b:V),vs=[.ref x,a,b]/\H x=some (ExcN x C none)/\∀dx,H dx=none->dx≠x->Q .non (Ag (Ag H dx (XDic dx (xfs a b))) x (ExcN x C (some dx)))
def Beh (st st':List Int) (Ac:Str) (wk:Int):Prop:=(Ac = "do"->st'.Perm (st++[wk])/\st'.Pairwise (·<=·))/\(Ac = "clear"->st'=st.filter λx=>decide (x≠wk))
inductive Play (Ae:Aa0)(Aa:Int):List Int->List Mv->Aa0->V->Prop
 |nil {st}:Play Ae Aa st [] [] .non
 |stop {st m ms w0}:wd Ae st Aa m=.str w0->Play Ae Aa st (m::ms) [] (.str w0)
 |go {st st' m ms sts v}:wd Ae st Aa m=.non->Beh st st' m.1 m.2->Play Ae Aa st' ms sts v->Play Ae Aa st (m::ms) (st'::sts) v
theorem qPR {α β:Type} {F:α->β->Prop} :∀{l₁:List α} {l₂:List β} (k:Nat),Paired F l₁ l₂->Paired F (l₁.drop k) (l₂.drop k)
 |_,_,0,h=>h
 |_,_,_+1,.nil=>.nil
 |_,_,k+1,.cons _ t=>qPR k t
theorem qJN {α β:Type} {F:α->β->Prop} :∀{l₁:List α} {l₂:List β} (k:Nat),Paired F l₁ l₂->Paired F (l₁.take k) (l₂.take k)
 |_,_,0,_=>.nil
 |_,_,_+1,.nil=>.nil
 |_,_,k+1,.cons r t=>.cons r (qJN k t)
theorem qN0 {α:Type} {p:α->Bool} {l:List α} {i:Nat} :((l.take i).filter p).length<=i:=
 F4 (T1 _ _) (by rw[C9];lia)
def oV:Option Int->V
 |none=>.non
 |some i=>.int i
theorem qK0 (w:Int)(a:List (Option Int)):inV (.int w) (a.map oV)=decide (some w∈a):=by
 unfold inV
 induction a with
 |nil=>simp
 |cons z r ih=>
  rw[D8,c8,ih];cases z with
  |none=>simp[oV,eqV]
  |some z=>
   have e:eqV (oV (some z)) (.int w)=decide (w=z):=by
    show(z==w)=decide (w=z);by_cases h:z=w
    ·subst h;simp
    ·have b:¬w=z:=λq=>h q.symm;simp[h,b]
   rw[e];simp[C0]
theorem qHA (a:List (Option Int)):(a.map oV).all qMZ=true:=by
 rw[L7];intro x b;obtain⟨z,_,rfl⟩:=J8.mp b;cases z<;>rfl
structure Mo where
 dk:Bool
 wk:Int
 rm:Int
noncomputable def Mo.vs (m:Mo):List V:=match m.dk with|true=>[.str "do",.int m.wk,.int m.rm]|false=>[.str "clear",.int m.rm]
def Mo.res (m:Mo):Option Int:=match m.dk with|true=>some m.wk|false=>none
structure TIn (H:Hp)(a wd sz la mv:Addr)(Ae:Aa0)(wides sizes:List Int)(lay:List (Option Int))(m:Mo)(ns:List Int)(o:Option Int)(s w:Int):Prop where
 net_:NetAt H a Ae
 wides_:H wd=some (.tup (wides.map V.int))
 sizes_:H sz=some (.tup (sizes.map V.int))
 lay_:H la=some (.tup (lay.map oV))
 move:H mv=some (.tup m.vs)
 work:m.dk=true->0<=m.wk/\Ae[m.wk.toNat]?=some ns/\ns.length<=1000/\wides[m.wk.toNat]?=some w
 rm0:0<=m.rm
 at_:lay[m.rm.toNat]?=some o
 size:sizes[m.rm.toNat]?=some s
 len:lay.length<=1000
theorem TIn.same {H H':Hp} {a e c d f:Addr} {Ae:Aa0} {wides sizes:List Int} {b:List (Option Int)} {m:Mo} {ns:List Int} {o:Option Int} {s w:Int} (h:TIn H a e c d f Ae wides sizes b m ns o s w)(k:Same H H'):TIn H' a e c d f Ae wides sizes b m ns o s w:=
 ⟨h.net_.same k,k _ _ h.wides_,k _ _ h.sizes_,k _ _ h.lay_,k _ _ h.move,h.work,h.rm0,h.at_,h.size,h.len⟩
noncomputable def thDo (ns:List Int) (b:List (Option Int)) (wk:Int) (o:Option Int) (s w:Int):V:=if some wk∈b then .str "there" else if∀x∈ns,some x∈b then(match o with|some _=>.str "taken" |none=>if s<w then .str "small" else .non) else .str "needs"
noncomputable def qT3 (o:Option Int):V:=match o with|some _=>.non|none=>.str "empty"
noncomputable def thW (m:Mo)(ns:List Int)(b:List (Option Int))(o:Option Int)(s w:Int):V:=match m.dk with|true=>thDo ns b m.wk o s w|false=>qT3 o
theorem qM6 (m:Mo)(ns:List Int)(b:List (Option Int))(o:Option Int)(s w:Int):thW m ns b o s w=.non\/∃y,thW m ns b o s w=.str y:=by
 unfold thW;cases m.dk with
 |false=>cases o<;>simp[qT3]
 |true=>
  show thDo ns b m.wk o s w=.non\/_;unfold thDo
  split
  ·exact .inr ⟨_,rfl⟩
  ·split
   ·cases o with
    |some x=>exact .inr ⟨_,rfl⟩
    |none=>
     dsimp only
     split
     ·exact .inr ⟨_,rfl⟩
     ·exact .inl rfl
   ·exact .inr ⟨_,rfl⟩
noncomputable abbrev TV (a:Addr)(wd sz la mv:Addr):List V:=[.ref a,.ref wd,.ref sz,.ref la,.ref mv]
def qEL:Sp:=λvs H Q _=>∃(la r:Addr) (lay:List (Option Int)) (ns:List Int),vs=[.ref la,.ref r]/\H la=some (.tup (lay.map oV))/\H r=some (.tup (ns.map V.int))/\ns.length<=1000/\∀H',Same H H'->Q (.bl (decide (∀x∈ns,some x∈lay))) H'
def spTh (dk:Bool):Sp:=λvs H Q _=>∃(a wd sz la mv:Addr) (Ae:Aa0) (wides sizes:List Int) (lay:List (Option Int)) (m:Mo) (ns:List Int) (o:Option Int) (s w:Int),vs=TV a wd sz la mv/\TIn H a wd sz la mv Ae wides sizes lay m ns o s w/\(dk=true->m.dk=true)/\∀H',Same H H'->Q (thW m ns lay o s w) H'
def qLJ:Sp:=λvs H Q _=>∃(la mv:Addr) (lay:List (Option Int)) (m:Mo),vs=[.ref la,.ref mv]/\H la=some (.tup (lay.map oV))/\H mv=some (.tup m.vs)/\0<=m.rm/\m.rm.toNat<lay.length/\lay.length<=1000/\∀r H',Same H H'->H' r=some (.tup ((lay.set m.rm.toNat m.res).map oV))->Q (.ref r) H'
def qNP (cB:Addr):Sp:=λvs H Q E=>∃(a wd sz la mv:Addr) (Ae:Aa0) (wides sizes:List Int) (lay:List (Option Int)) (m:Mo) (ns:List Int) (o:Option Int) (s w:Int),vs=TV a wd sz la mv/\TIn H a wd sz la mv Ae wides sizes lay m ns o s w/\
 (thW m ns lay o s w=.non->∀r H',Same H H'->H' r=some (.tup ((lay.set m.rm.toNat m.res).map oV))->Q (.ref r) H')/\
 (∀w0,thW m ns lay o s w=.str w0->∀dx H',Same H H'->H' dx=some (XDic dx (xfs (.int 0) (.str w0)))->E (.ref cB) (some dx) H')
noncomputable def qBN (n k:Int):List Mo:=(qB6 0 k).flatMap λrm=>((qB6 0 n).map λwk=>⟨true,wk,rm⟩)++[⟨false,0,rm⟩]
def MosL (H:Hp)(rs:List Addr)(ms:List Mo):Prop:=Paired (λr (m:Mo)=>H r=some (.tup m.vs)) rs ms
def qcD (H:Hp)(l:Addr)(ms:List Mo):Prop:=∃rs,H l=some (.lst (rs.map V.ref))/\MosL H rs ms
theorem MosL.same {H H':Hp} {rs:List Addr} {ms:List Mo} (h:MosL H rs ms)(k:Same H H'):MosL H' rs ms:=qCB h λr m e=>k _ _ e
theorem MosL.put {H:Hp} {p:Addr} {xs:List V} {o:HO} {rs:List Addr} {ms:List Mo} (h:MosL H rs ms)(a:H p=some (.lst xs)):MosL (Ag H p o) rs ms:=qCB h λr m e=>by
 rw[qAB (qFB e a (by intro z;cases z))]
 exact e
theorem qUA {n k:Int} {m:Mo} (h:m∈qBN n k):0<=m.rm/\m.rm<k/\(m.dk=true->0<=m.wk/\m.wk<n):=by
 obtain⟨rm,c,b⟩:=u8.mp h;have a:=mem_rangeI.mp c;rcases B7.mp b with z|z
 ·obtain⟨wk,d,rfl⟩:=J8.mp z;exact⟨a.1,a.2,λ_=>mem_rangeI.mp d⟩
 ·rw[B3.mp z];exact⟨a.1,a.2,λe=>nomatch e⟩
def LayOk (n:Int)(lay:List (Option Int)):Prop:=∀x,some x∈lay->0<=x/\x<n
theorem LayOk.set {n:Int} {a:List (Option Int)} {m:Mo} (h:LayOk n a)(b:m.dk=true->0<=m.wk/\m.wk<n):LayOk n (a.set m.rm.toNat m.res):=λx c=>by
 rcases X7 c with z|z
 ·exact h x z
 ·unfold Mo.res at z;cases e:m.dk with
  |false=>rw[e] at z;cases z
  |true=>rw[e] at z;cases z;exact b e
structure TKit (H:Hp)(a wd sz:Addr)(Ae:Aa0)(wides sizes:List Int):Prop where
 net_:NetAt H a Ae
 wf:WFn Ae
 n1:1<=Ae.length
 n6:Ae.length<=6
 wides_:H wd=some (.tup (wides.map V.int))
 lw:wides.length=Ae.length
 w9:∀x∈wides,0<=x/\x<=99
 sizes_:H sz=some (.tup (sizes.map V.int))
 k1:1<=sizes.length
 k5:sizes.length<=5
 s9:∀x∈sizes,0<=x/\x<=99
theorem TKit.same {H H':Hp} {a c b:Addr} {Ae:Aa0} {wides sizes:List Int} (T:TKit H a c b Ae wides sizes)(k:Same H H'):TKit H' a c b Ae wides sizes:=
 ⟨T.net_.same k,T.wf,T.n1,T.n6,k _ _ T.wides_,T.lw,T.w9,k _ _ T.sizes_,T.k1,T.k5,T.s9⟩
theorem TKit.keep {H H':Hp} {d c a e b:Addr} {t:Int} {ns:List Int} {Ae:Aa0} {wides sizes:List Int} (T:TKit H a e b Ae wides sizes)(S:StAt H d c t ns)(k:Keep d c H H'):TKit H' a e b Ae wides sizes:=
 ⟨T.net_.keep S k,T.wf,T.n1,T.n6,k _ _ T.wides_ (S.tup T.wides_).1 (S.tup T.wides_).2,T.lw,T.w9,k _ _ T.sizes_ (S.tup T.sizes_).1 (S.tup T.sizes_).2,T.k1,T.k5,T.s9⟩
theorem TKit.tin {H:Hp} {a l g i q:Addr} {Ae:Aa0} {wides sizes:List Int} {b:List (Option Int)} {m:Mo} (T:TKit H a l g Ae wides sizes)(j:H i=some (.tup (b.map oV)))(y:b.length=sizes.length)(k:H q=some (.tup m.vs))(d:m∈qBN (Ae.length:Int) (sizes.length:Int)):
  ∃ns o s w,TIn H a l g i q Ae wides sizes b m ns o s w:=by
 obtain⟨f,x,r⟩:=qUA d;have k5:=T.k5;have h:m.rm.toNat<b.length:=by lia
 have p:m.rm.toNat<sizes.length:=by lia
 by_cases e:m.dk=true
 ·obtain⟨u,v⟩:=r e;have n:m.wk.toNat<Ae.length:=by lia
  have t:m.wk.toNat<wides.length:=by rw[T.lw];exact n
  have c:=B0 n;have ln:=(T.wf _ _ c).len;have n6:=T.n6;exact⟨_,_,_,_,T.net_,T.wides_,T.sizes_,j,k,λ_=>⟨u,c,by lia,B0 t⟩,f,B0 h,B0 p,by lia⟩
 ·exact⟨[],_,_,0,T.net_,T.wides_,T.sizes_,j,k,λz=>absurd z e,f,B0 h,B0 p,by lia⟩
def qPG:Sp:=λvs H Q _=>∃(a sz:Addr) (Ae:Aa0) (sizes:List Int),vs=[.ref a,.ref sz]/\NetAt H a Ae/\Ae.length<=6/\H sz=some (.tup (sizes.map V.int))/\sizes.length<=5/\
 ∀l H',Same H H'->H l=none->qcD H' l (qBN (Ae.length:Int) (sizes.length:Int))->Q (.ref l) H'
structure Sm (W:Nat)(d:PyData):Prop where
 sh:d.showable=true
 nd:d.hasDict=false
 ls:d.leavesShort 8=true
 wt:d.weight<=W
noncomputable def layD (lay:List (Option Int)):PyData:=.tuple (lay.map λo=>match o with|some x=>B54 x|none=>PyData.none)
theorem qZZ {H:Hp} {a:Addr} {b:List (Option Int)} (h:H a=some (.tup (b.map oV))):DatN H 1 (.ref a) (layD b):=by
 refine .inr ⟨true,a,_,xR rfl ⟨rfl,h,by rw[A0,A0],λi f e c d=>?_⟩⟩
 rw[C6] at c d;cases hz:b[i]? with
 |none=>rw[hz] at c;cases c
 |some o=>
  rw[hz] at c d;cases c;cases d;cases o with
  |none=>exact .inl ⟨rfl,rfl⟩
  |some z=>exact .inr (.inr (.inl ⟨z,rfl,rfl⟩))
def numB:PyData->Bool|.int _=>true|_=>false
def qNE:PyData->Bool|.bool _=>true|_=>false
def tupB:PyData->Bool|.tuple _=>true|_=>false
noncomputable def qCK (e:Int):PyData->Bool|.int i=>decide (0<=i)&&decide (i<e)|_=>false
section
variable{K:Ab1}{H:Hp}
theorem qJF {n:Nat} {x:V} {d:PyData} (h:DatN H n x d):∃t,TyOf K H x t/\K0 K t (.type "int")=some (numB d||qNE d)/\K0 K t (.type "bool")=some (qNE d)/\K0 K t (.type "tuple")=some (tupB d):=by
 have c:qEZ x d->∃t,TyOf K H x t/\K0 K t (.type "int")=some (numB d||qNE d)/\K0 K t (.type "bool")=some (qNE d)/\K0 K t (.type "tuple")=some (tupB d):=by
  rintro(⟨rfl,rfl⟩|⟨b,rfl,rfl⟩|⟨i,rfl,rfl⟩|⟨y,rfl,rfl⟩)
  ·exact⟨_,.non,rfl,rfl,rfl⟩
  ·exact⟨_,.bl b,rfl,rfl,rfl⟩
  ·exact⟨_,.int i,rfl,rfl,rfl⟩
  ·exact⟨_,.str y,rfl,rfl,rfl⟩
 cases n with
 |zero=>exact c h
 |succ n=>
  rcases h with h|⟨b,a,xs,ds,rfl,rfl,h1,_⟩
  ·exact c h
  ·cases b
   ·exact⟨_,.lst h1,rfl,rfl,rfl⟩
   ·exact⟨_,.tup h1,rfl,rfl,rfl⟩
theorem qI5 {n:Nat} {x:V} {d:PyData} (h:DatN H n x d)(e:numB d=true):∃i,x=.int i/\d=.int i:=by
 have c:qEZ x d->∃i,x=.int i/\d=.int i:=by
  rintro(⟨rfl,rfl⟩|⟨b,rfl,rfl⟩|⟨i,rfl,rfl⟩|⟨y,rfl,rfl⟩)
  ·cases e
  ·cases e
  ·exact⟨i,rfl,rfl⟩
  ·cases e
 cases n with
 |zero=>exact c h
 |succ n=>
  rcases h with h|⟨b,a,xs,ds,rfl,rfl,h1,_⟩
  ·exact c h
  ·cases b<;>cases e
theorem qDV {n:Nat} {x:V} {d:PyData} (h:DatN H n x d)(e:tupB d=true):∃m a xs ds,n=m+1/\x=.ref a/\d=.tuple ds/\H a=some (.tup xs)/\xs.length=ds.length/\∀(i:Nat) (x':V) (d':PyData),xs[i]?=some x'->ds[i]?=some d'->DatN H m x' d':=by
 have c:qEZ x d->False:=by
  rintro(⟨rfl,rfl⟩|⟨b,rfl,rfl⟩|⟨i,rfl,rfl⟩|⟨y,rfl,rfl⟩)<;>cases e
 cases n with
 |zero=>exact(c h).elim
 |succ n=>
  rcases h with h|⟨b,a,xs,ds,rfl,rfl,h1,h2,h3⟩
  ·exact(c h).elim
  ·cases b
   ·cases e
   ·exact⟨n,a,xs,ds,rfl,rfl,rfl,h1,h2,h3⟩
end
def qT7:Sp:=λvs H Q _=>∃x n d,vs=[x]/\DatN H n x d/\Q (.bl (numB d)) H
def qMA:Sp:=λvs H Q _=>∃x n d e,vs=[x,.int e]/\DatN H n x d/\Q (.bl (qCK e d)) H
end _F
namespace HT
open PySem PyProof.Rows
section
open PySem.SeqAt
open PySem.AutoSeq1 (wpAny_loadPart')
open PySem.MeetsSeq PySem.MeetsSeq2 PySem.MeetsSeq3
theorem qOB (l b:Addr)(j f:Array Value)(n n2:Nat)(dd a0:Option Addr)(sl a2:Array (Option Value)):∀(vs ws:List Value) (ns ms:List Int) (i:Nat),j.toList.drop i=vs->f.toList.drop i=ws->i<=j.size->i<=f.size->C01 vs ns->C01 ws ms->
  Meets (Builtin.«list.__eq__.loop» ⟨[.ref l,.ref b,rawInt i,rawInt 0],[]⟩)
   (fun A R s=>s.heap.get? l=some { cls:=.type "list",dict:=dd,data:=.seq j n,slots:=sl }/\s.heap.get? b=some { cls:=.type "list",dict:=a0,data:=.seq f n2,slots:=a2 }/\
    R (.ok (.ret (.bool (lexLt ns ms)))) s):=by
 intro vs
 induction vs with
 |nil=>
  intro ws ns ms i y x l1 l2 ha hb m w A R s h;obtain⟨hp,g,d,tk,os⟩:=s;obtain⟨r,k,h⟩:=h
  wp_walk using B97 r,B97 k
  have z1:j.size<=i:=by have:=congrArg Z1 y;simp at this;lia
  have p:j[((i:Nat):Int).toNat]?=none:=by simp;lia
  rw[p]
  wp_walk using B97 r,B97 k
  show R (.ok (.ret (.bool (decide (j.size<f.size))))) _;cases ha;have e:lexLt [] ms=decide (j.size<f.size):=by
   have hs:ws.length=f.size-i:=by rw[<- x];simp
   cases hb with
   |nil=>rw[lexLt_nil_nil];simp at hs;exact(decide_eq_false (by lia)).symm
   |cons c u t=>rw[qL0];simp at hs;exact(decide_eq_true (by lia)).symm
  rw[<- e];exact h
 |cons v vs ih=>
  intro ws ns ms i y x l1 l2 ha hb m w A R s h;obtain⟨hp,g,d,tk,os⟩:=s;obtain⟨r,k,h⟩:=h;have z1:i<j.size:=by have:=congrArg Z1 y;simp at this;lia
  have p:j[((i:Nat):Int).toNat]?=some v:=by
   have:=congrArg (·[0]?) y;simp at this;simpa using this
  have d1:j.toList.drop (i+1)=vs:=by rw[<- i8,y];rfl
  wp_walk using B97 r,B97 k
  rw[p];cases ha with
  |cons a t ha'=>
  cases hb with
  |nil=>
   have z2:f.size<=i:=by have:=congrArg Z1 x;simp at this;lia
   have o:f[((i:Nat):Int).toNat]?=none:=by simp;lia
   rw[o]
   wp_walk using B97 r,B97 k
   show R (.ok (.ret (.bool (decide (j.size<f.size))))) _;rw[qL1] at h;rw[decide_eq_false (by lia)];exact h
  |cons c u hb2=>
   have o:f[((i:Nat):Int).toNat]?=some (.int c u):=by
    have:=congrArg (·[0]?) x;simp at this;simpa using this
   have z2:i<f.size:=by have:=congrArg Z1 x;simp at this;lia
   rw[o];rw[lexLt_cons] at h;obtain⟨e,he,q⟩:=qXC A.in1 ⟨hp,g,d,tk,os⟩ a t c u;refine B73 (he m w _ _ ?_);cases e with
   |true=>
    rw[if_pos (q.mp rfl)] at h
    wp_walk
    have hc:((i:Int)+1)=((i+1:Nat):Int):=by push_cast;rfl
    rw [hc];exact ⟨C04 plain_eq_loop _,B92 entry_eq_loop (by
     rw[L9 plain_eq_loop _];exact ih _ _ _ (i+1) d1 (by rw[<- i8,x];rfl) z1 z2 ha' hb2 m w A R _ ⟨r,k,h⟩)⟩
   |false=>
    rw[if_neg (λz=>by have:=q.mpr z;cases this)] at h
    wp_walk using B97 r,B97 k
    rw[p,o];have a1:=rcLt_int A.in1 ⟨hp,g,d,tk,os⟩ a t c u m w
    wp_walk using a1
    exact h
theorem list_lt_ints (l b:Addr)(c a:Array Value)(n j:Nat)(p e:Option Addr)(m f:Array (Option Value))(ns ms:List Int)(hi:C01 c.toList ns)(q:C01 a.toList ms):
  Meets (Builtin.«list.__lt__» ⟨[.ref l,.ref b],[]⟩)
   (fun _ R s=>s.heap.get? l=some { cls:=.type "list",dict:=p,data:=.seq c n,slots:=m }/\s.heap.get? b=some { cls:=.type "list",dict:=e,data:=.seq a j,slots:=f }/\
    R (.ok (.ret (.bool (lexLt ns ms)))) s):=by
 intro i w A R s h;obtain⟨v,g,d,u,r⟩:=s;obtain⟨o,k,h⟩:=h;have t:=AutoSeq1.sub_list_list
 wp_walk using B97 o,B97 k
 exact ⟨C04 plain_eq_loop _,B92 entry_eq_loop (by
  rw[L9 plain_eq_loop _];exact qOB l b c a n j p e m f _ _ ns ms 0 rfl rfl (J5 _) (J5 _) hi q i w A R _ ⟨o,k,h⟩)⟩
end
end HT
namespace _L.G
open PySem PySem.Spec PyProof.Rows PySem.W
def IsLs (h:Heap) (a:Addr) (items:Array Value):Prop:=∃o,h.get? a=some o/\o.cls=.type "list"/\∃n,o.data=.seq items n
section
variable{prog:B76}{w:World}{A:Around}{E:Aa1}{s:Shared}
theorem qU4 {x y:Addr} {xs ys:Array Value} {ns ms:List Int} {Q:Bool->Shared->Prop} (m:A.units<cLine)(v:IsLs s.heap x xs)(p:IsLs s.heap y ys)(t:C01 xs.toList ns)(z:C01 ys.toList ms)(h:Q (HT.lexLt ns ms) s):wpAny (model prog w) A (oneLt' true (.ref x) (.ref y)) Q E s:=by
 rw[oneLt'_eq];simp only[if_true];obtain⟨⟨u,o,k,r⟩,g,i,n,j⟩:=id v;obtain⟨⟨l,c,e,f⟩,d,b,q,a⟩:=id p;simp only at i j b a;subst i j b a;refine B73 (wpAny_cRoomFor m ?_);refine B73 (wpAny_callSpecialIfBound?_slot ⟨_,g,rfl⟩ A62 (C45 A62 ⟨_,g,rfl⟩ PySem.F.entry_list_lt (PySem.F.args_list_lt_2 _ _) (HT.list_lt_ints x y xs ys n q o c r f ns ms t z) ⟨g,d,?_⟩));exact B91 h
theorem qWX {rs:List Addr} {Q:C34->Shared->Prop} (h:∀r∈rs,∃xs:Array Value,IsLs s.heap r xs)(c:2<=rs.length)(q:Q oneType' s):wpAny (model prog w) A (keyKind' (rs.map C7).toArray) Q E s:=by
 refine PySem.W.kas_kind (T:=.type "list") (by simpa using c) (λv b=>?_) (by decide) (by decide) q
 obtain⟨r,d,rfl⟩:=J8.mp b;obtain⟨xs,o,e,a,n,f⟩:=h r d;rw[<- a];exact(A42 e).andThen .now
end
def qL2 (H:Hp):Value->List Int
 |.ref r=>match H r with
  |some (.lst xs)=>qUT xs
  |_=>[]
 |_=>[]
@[reducible] def lstNM (H:Hp)(L:Aa0):NM:=⟨λv=>qHU L (qL2 H v),λv=>∃r t,v=.ref r/\H r=some (.lst (t.map V.int))/\t∈L⟩
theorem qH1 {H:Hp} {r:Addr} {t:List Int} (h:H r=some (.lst (t.map V.int))):qL2 H (.ref r)=t:=by
 show(match H r with|some (.lst xs)=>qUT xs|_=>[])=t
 rw[h];exact qUS t
section
variable{X:Cx}
abbrev qRQ (H:Hp)(rs:List Addr)(ts:Aa0):Prop:=Paired (λ(r:Addr) (t:List Int)=>H r=some (.lst (t.map V.int))) rs ts
theorem qMQ {H:Hp} :∀{rs:List Addr} {ts:Aa0},qRQ H rs ts->∀{r:Addr},r∈rs->∃t,t∈ts/\H r=some (.lst (t.map V.int))
 |_,_,.nil,_,h=>nomatch h
 |_,_,.cons (b:=t) g T,r,h=>by
  rcases C0.mp h with e|e
  ·exact⟨t,by simp,by rw[e];exact g⟩
  ·obtain⟨t,h1,h2⟩:=qMQ T e;exact⟨t,C2 _ h1,h2⟩
end
section
variable{X:Cx}{Ab:Aa2}{σ:St}{k0:Nat}{f:Addr}{fd:B88}{p:Str}{sp:Sp}{H0:Hp}{xs:List V}{ks:Aa0}{Q:VK}{l:Addr}
structure KeyDf (sp:Sp)(H0:Hp)(xs:List V)(ks:Aa0):Prop where
 len:ks.length=xs.length
 key:∀(i:Nat) (x:V) (k:List Int),xs[i]?=some x->ks[i]?=some k->∀H,Sm0 H0 H->sp [x] H (λy H'=>Sm0 H H'/\∃r,y=.ref r/\H' r=some (.lst (k.map V.int))) E0
theorem qWY {A:Around} {H:Hp} {a S:Addr} {i:Nat} {x:V} {k:List Int} {u:Value} (F:FnOk X.prog X.w X.K X.mg X.base CX0 k0 f fd [p] sp)(rm:Room k0 A)(hA:A.frames=some X.stack)(n:Binds X.K fd [p] [])
  (KA:KeyDf sp H0 xs ks) (I:Inv X Ab σ H s) (z:Sm0 H0 H) (hx:xs[i]?=some x) (hk:ks[i]?=some k) (rx:RelV x u) (g:FpOk X Ab H a) (m:FpOk X Ab H S) {j l:Obj} (t:s.heap.get? a=some j) (q:s.heap.get? S=some l) {Q':Aa1} {E:Aa1}
  (h:∀v y H' s',Inv X Ab σ H' s'->Sm0 H H'->RelV y v->(∃r,y=.ref r/\H' r=some (.lst (k.map V.int)))->FpOk X Ab H' a->FpOk X Ab H' S->s'.heap.get? a=some j->s'.heap.get? S=some l->Q' v s'):wpAny (model X.prog X.w) A (call (.ref f) [u]) Q' E s:=by
 have e0:Env0 X.prog X.w X.K X.mg X.base A X.stack s H:=⟨hA,I.ok.mod,I.bs,F4 I.ok.bsz I.sz,I.stack,I.stkFree,I.hok,I.bare⟩;refine C19 (B99 (F.run A X.stack s H ⟨[u],[]⟩ [u] [x] _ _ rm e0 (n s [u] I.kIn rfl) (.cons rx .nil) (KA.key i x k hx hk H z)) λr s' c=>?_);cases r with
 |error e=>exact c.elim
 |ok fl=>
  cases fl with
  |ret v=>
   obtain⟨y,H',os,bare,d,hok,ry,o,kr⟩:=c;have I':Inv X Ab σ H' s':=I.call' (ch:=[]) os d hok bare (λb n=>absurd n (by simp))
   exact h v y H' s' I' o ry kr (g.to (d.free a j t g.1 (by simp))) (m.to (d.free S l q m.1 (by simp))) (d.keep a j t g.1 (I.fpStk g) (by simp)) (d.keep S l q m.1 (I.fpStk m) (by simp))
  |next=>exact c.elim
  |brk=>exact c.elim
  |cont=>exact c.elim
def qYG (X:Cx)(Ab:Aa2)(σ:St)(H0:Hp)(ks:Aa0)(kS D:Addr)(oD:Obj)(j:Nat)(s:Shared):Prop:=
 ∃(H:Hp) (rs:List Addr) (c:Nat),Inv X Ab σ H s/\Sm0 H0 H/\FpOk X Ab H kS/\FpOk X Ab H D/\s.heap.get? kS=some (seqObj "list" (rs.map C7).toArray c)/\s.heap.get? D=some oD/\qRQ H rs (ks.take j)
theorem qPH {A:Around} {d:List Value} {kS D:Addr} {e1:Nat} {P:Fin->Shared->Prop} (F:FnOk X.prog X.w X.K X.mg X.base CX0 k0 f fd [p] sp)(rm:Room k0 A)(hA:A.frames=some X.stack)(hb:Binds X.K fd [p] [])(KA:KeyDf sp H0 xs ks)(rv:Vals xs d)(hz:d.length<=20000)(a7:kS≠D)
  (h0:qYG X Ab σ H0 ks kS D (seqObj "list" #[] e1) 0 s)
  (h:∀(H:Hp) (s':Shared) (zs:List (List Int×V)) (out:List Value) (n:Nat),Inv X Ab σ H s'->Sm0 H0 H->FpOk X Ab H D->zs.Perm (ks.zip xs)->zs.Pairwise (λa b=>HT.lexLt b.1 a.1=false)->Vals (zs.map (·.2)) out->s'.heap.get? D=some (seqObj "list" out.toArray n)->P (.done (.ret .none)) s'):
  wpAny (model X.prog X.w) A (ksk_rest D (.ref f) false d.toArray e1 (.ref kS)) P E s:=by
 have lu:=rv.length;have lk:=KA.len;unfold ksk_rest;refine B73 (B98 ?_)
 first
  |rw[List.forIn_toArray]
  |(rw[<- j8];simp only[List.toList_toArray])
  |rw[<- j8]
 refine B73 (ksk_fold (λj s'=>qYG X Ab σ H0 ks kS D (seqObj "list" #[] e1) j s') d 0 s h0 (λj u s' hu hK=>?_) λs' hK=>?_)
 ·rw[B16] at hK ⊢;obtain⟨H,rs,c,I,sm,fk,fD,gk,gD,T⟩:=hK;have hj:j<d.length:=(B5.mp hu).1;have ab:j<xs.length:=by lia
  have ad:j<ks.length:=by lia
  have hx:=B0 ab;have hk:=B0 ad;obtain⟨u',a4,ru⟩:=rv.get hx;rw[hu] at a4;cases a4;have lT:rs.length=(ks.take j).length:=C5 T;rw[C9] at lT;refine B73 (C10 (qWY F rm hA hb KA I sm hx hk ru fk fD gk gD λv y H' s2 I2 sm2 ry ⟨r,ey,gr⟩ fk2 fD2 gk2 gD2=>?_));subst ey;cases ry;have ea:((rs.map C7).toArray).push (.ref r)=((rs++[r]).map C7).toArray:=by simp
  obtain⟨c2,af⟩:∃c2,(s2.heap.update kS (P2 (·.push (.ref r)))).get? kS=some (seqObj "list" ((rs++[r]).map C7).toArray c2):=⟨_,by rw[<- ea];exact get?_update_seq gk2 (·.push (.ref r))⟩
  try dsimp only
  refine B73 (listUpdate_at gk2 rfl ?_ (by rw[C3,A0,B80];lia) (F4 (Nat.le_of_eq (Array.size_push ..)) (by rw[C3,A0,B80];lia)))
  refine B74 ⟨rfl,H',rs++[r],c2,Inv.off I2 fk2 (λb o hb e=>(D5 _ _ (J4 hb)).trans e),λb o e=>sm2 b o (sm b o e),fk2,fD2,af,(D5 _ _ a7).trans gD2,?_⟩;rw[E8,hk,E9];have T2:qRQ H' rs (ks.take j):=Paired.mapP T λ_ _ z=>sm2 _ _ z;exact Q5 T2 gr
 ·rw[B16] at hK;obtain⟨H,rs,c,I,sm,fk,fD,gk,gD,T⟩:=hK;rw[D3 (by lia)] at T
  have lr:rs.length=ks.length:=C5 T
  try dsimp only
  refine B73 (listItems_at gk rfl ?_);unfold ksk_end;dsimp only;simp only[G0,if_false]
  -- the triples
  have ez:((rs.map C7).toArray.zip d.toArray).toList=(rs.zip (xs.zip d)).map λt=>((C7 t.1,t.2.2):Keyed):=by
   rw[Array.toList_zip];show(rs.map C7).zip d=_;have:∀(rs:List Addr) (xs:List V) (d:List Value),rs.length=xs.length->xs.length=d.length->(rs.map C7).zip d=(rs.zip (xs.zip d)).map λt=>((C7 t.1,t.2.2):Keyed):=by
    intro rs
    induction rs with
    |nil=>intro xs d _ _;rfl
    |cons r rs ih=>
     intro xs d m l
     match xs,d,m,l with
     |x::xs,u::d,m,l=>
      rw[D8,O5,O5,O5,D8,ih xs d (by simpa using m) (by simpa using l)]
     |[],_,m,_=>simp at m
     |_::_,[],_,l=>simp at l
   exact this rs xs d (by lia) (by lia)
  have tz:(rs.zip (xs.zip d)).map (λt=>(qL2 H (.ref t.1),t.2.1))=ks.zip xs:=by
   have:∀(rs:List Addr) (ks:Aa0) (xs:List V) (d:List Value),qRQ H rs ks->rs.length=xs.length->xs.length=d.length->(rs.zip (xs.zip d)).map (λt=>(qL2 H (.ref t.1),t.2.1))=ks.zip xs:=by
    intro rs ks xs d T
    induction T generalizing xs d with
    |nil=>intro _ _;rfl
    |@cons r k l1 l2 g _ ih=>
     intro m l
     match xs,d,m,l with
     |x::xs,u::d,m,l=>
      rw[O5,O5,O5,D8,qH1 g,ih xs d (by simpa using m) (by simpa using l)]
     |[],_,m,_=>simp at m
     |_::_,[],_,l=>simp at l
   exact this rs ks xs d T (by lia) (by lia)
  have a8:∀t∈rs.zip (xs.zip d),RelV t.2.1 t.2.2:=by
   intro t ht;obtain⟨i,hi⟩:=V0 ht;rw[X8] at hi;have l:=hi.2;rw[X8] at l;obtain⟨u,hu,ru⟩:=rv.get l.1;rw[hu] at l;have:=D7 l.2;rw[<- this];exact ru
  have a0:∀t∈rs.zip (xs.zip d),∃k,k∈ks/\H t.1=some (.lst (k.map V.int)):=λt ht=>qMQ T (y8 ht).1
  letI:NM:=lstNM H ks
  have ai:∀arr:Array Keyed,arr.Perm ((rs.map C7).toArray.zip d.toArray)->qH8 arr arr.size->wpAny (model X.prog X.w) A (ksk_tail D false e1 (.ref kS) (SortSt.mk' (oneType') arr #[] 7 none)) P E s'->True:=λ_ _ _ _=>trivial;have a1:∀(st:SortSt),(arrOf st).Perm ((rs.map C7).toArray.zip d.toArray)->qH8 (arrOf st) (arrOf st).size->C49 st=none->wpAny (model X.prog X.w) A (ksk_tail D false e1 (.ref kS) st) P E s':=by
   intro st pm so fl;obtain⟨L',p1,p2⟩:=perm_map_inv (d6.mp pm) (rs.zip (xs.zip d)) ez;unfold ksk_tail;dsimp only;refine B73 (listUpdate_at gk rfl ?_ (by rw[C3,A0,B80];lia) (J5 _))
   refine B73 (C26 ?_);have gD2:(s'.heap.update kS (P2 λ_=>(#[]:Array Value))).get? D=some (seqObj "list" #[] e1):=(D5 _ _ a7).trans gD;have I2:=Inv.off (h':=s'.heap.update kS (P2 λ_=>(#[]:Array Value))) I fk (λb o hb e=>(D5 _ _ (J4 hb)).trans e);refine B73 (seqEpoch_at gD2 rfl ?_);have la:(arrOf st).size=d.length:=by
    have:=pm.size_eq;rw[this];simp
    lia
   refine B73 (listUpdate_at gD2 rfl ?_ (J5 _) (by simp only[G0,if_false];rw[Array.size_map,la,B80];lia))
   simp only[G0,if_false];rw[fl];simp only[bne_self_eq_false,G0,if_false];obtain⟨n2,a5⟩:∃n2,((s'.heap.update kS (P2 λ_=>(#[]:Array Value))).update D (P2 λ_=>(arrOf st).map (·.2))).get? D=some (seqObj "list" ((arrOf st).map (·.2)) n2):=⟨_,get?_update_seq gD2 λ_=>(arrOf st).map (·.2)⟩;have eo:(arrOf st).map (·.2)=(L'.map (·.2.2)).toArray:=by
    apply Array.toList_inj.mp;rw[Array.toList_map,p2,X3]
    rfl
   rw[show seqObj "list" ((arrOf st).map (·.2)) n2=seqObj "list" (L'.map (·.2.2)).toArray n2 by rw[eo]] at a5
   have I3:=Inv.off (s:={s' with heap:=s'.heap.update kS (P2 λ_=>(#[]:Array Value))}) (h':=(s'.heap.update kS (P2 λ_=>(#[]:Array Value))).update D (P2 λ_=>(arrOf st).map (·.2))) I2 fD (λb o hb e=>(D5 _ _ (J4 hb)).trans e);refine B74 (h H _ (L'.map λt=>(qL2 H (.ref t.1),t.2.1)) (L'.map (·.2.2)) n2 I3 sm fD ?_ ?_ ?_ a5)
   ·rw[<- tz];exact p1.map _
   ·rw[Y7];have a9:(arrOf st).toList.Pairwise (λa b=>gkv a<=gkv b):=by
     rw[R3];intro i j hi hj aa;have ac:i<(arrOf st).size:=by simpa using hi
     have a6:j<(arrOf st).size:=by simpa using hj
     have a:=so i j (F5 aa) a6;rw[qZO ac,qZO a6] at a;rw[d9,d9];exact a
    rw[p2,Y7] at a9;refine a9.imp_of_mem λ{a b} ha hb le=>?_;obtain⟨k1,m1,g1⟩:=a0 a (p1.mem_iff.mp ha);obtain⟨k2,m2,g2⟩:=a0 b (p1.mem_iff.mp hb);have le:qHU ks (qL2 H (.ref a.1))<=qHU ks (qL2 H (.ref b.1)):=le;rw[qH1 g1,qH1 g2] at le ⊢;dsimp only;rw[<- qQN m2 m1];exact decide_eq_false (by lia)
   ·have:∀L:List (Addr×V×Value),(∀t∈L,RelV t.2.1 t.2.2)->Vals ((L.map λt=>(qL2 H (.ref t.1),t.2.1)).map (·.2)) (L.map (·.2.2)):=by
     intro L
     induction L with
     |nil=>intro _;exact .nil
     |cons t L ih=>intro hL;exact .cons (hL t (by simp)) (ih λt ht=>hL t (C2 _ ht))
    exact this L' λt ht=>a8 t (p1.mem_iff.mp ht)
  by_cases a2:d.toArray.size<2
  ·simp only[if_pos a2];refine B73 (B74 ?_);rw[StateT.run_pure];refine B73 (B74 (a1 _ (.refl _) (λi j aa hj=>?_) rfl));have sz:(arrOf (SortSt.mk' general' ((rs.map C7).toArray.zip d.toArray) #[] 7 none)).size<=1:=by
    show((rs.map C7).toArray.zip d.toArray).size<=1;rw[Array.size_zip]
    lia
   have ah:j<(arrOf (SortSt.mk' general' ((rs.map C7).toArray.zip d.toArray) #[] 7 none)).size:=hj;have ij:i=j:=by lia
   rw[ij];exact T8 _
  ·simp only[if_neg a2];rw[C3] at a2;have a3:∀(r:Addr) (t:List Int),H r=some (.lst (t.map V.int))->∃ys:Array Value,IsLs s'.heap r ys/\C01 ys.toList t:=by
    intro r t g;obtain⟨ae,r1,pl,_⟩:=I.list (Ab2 g);obtain⟨o,ho,hc,n,hd⟩:=pl.isList;exact⟨ae.toArray,⟨o,ho,hc,n,hd⟩,qSL r1⟩
   have ag:LtOk X.prog X.w A s' oneType':=by
    refine⟨λ{x y Q E} hx hy h=>?_⟩;obtain⟨r1,t1,rfl,g1,m1⟩:=hx;obtain⟨r2,t2,rfl,g2,m2⟩:=hy;obtain⟨ya,i1,j1⟩:=a3 r1 t1 g1;obtain⟨yb,i2,j2⟩:=a3 r2 t2 g2;rw[keyLt'_oneType];refine qU4 (by have:=rm.un;lia) i1 i2 j1 j2 ?_
    have e1:NM.nm (C7 r1)=qHU ks t1:=by show qHU ks (qL2 H (.ref r1))=_;rw[qH1 g1]
    have e2:NM.nm (C7 r2)=qHU ks t2:=by show qHU ks (qL2 H (.ref r2))=_;rw[qH1 g2]
    rw[e1,e2,qQN m1 m2] at h;exact h
   have ik:qC7 ((rs.map C7).toArray.zip d.toArray):=λpq hp=>by
    rw[ez] at hp;obtain⟨t,ht,rfl⟩:=J8.mp hp;obtain⟨k,mk,g⟩:=a0 t ht;exact⟨t.1,k,rfl,g,mk⟩
   refine B73 (qWX (rs:=rs) (λr hr=>let⟨t,_,g⟩:=qMQ T hr;let⟨ys,i,_⟩:=a3 r t g;⟨ys,i⟩) (by lia) ?_)
   refine B73 (B83 (qUV (κ0:=oneType') (a₀:=(rs.map C7).toArray.zip d.toArray) (Q:=λ_ q=>gSG (oneType') ((rs.map C7).toArray.zip d.toArray) q/\qH8 (arrOf q) ((rs.map C7).toArray.zip d.toArray).size) ik ⟨.refl _,rfl,rfl⟩ rfl λq g u=>⟨g,u⟩) ?_ λ_ _ x=>x);rintro⟨_,q⟩ s2 ⟨es,g,u⟩;cases(show s2=_ from es);exact a1 q g.perm (by rw[g.perm.size_eq];exact u) g.failed
theorem sortk_callD {H:Hp} (F:FnOk X.prog X.w X.K X.mg X.base CX0 k0 f fd [p] sp)(rm:Room (k0+2) X.A)(hA:X.A.in1.in1.frames=some X.stack)(hb:Binds X.K fd [p] [])(KA:KeyDf sp H xs ks)(I:Inv X Ab σ H s)(hz:xs.length<=20000)
  (a3:∃(its:List Value),Vals xs its/\∀(P:List Value->Shared->Prop),(∀h' tk,(∀b o,s.heap.get? b=some o->h'.get? b=some o)->P its {s with heap:=h',toks:=tk})->wpAny (model X.prog X.w) X.A.in1 (collect (.ref l)) P X.xe s)
  (hQ:∀(H':Hp) (D:Addr) (zs:List (List Int×V)),Sm0 H H'->H' D=none->zs.Perm (ks.zip xs)->zs.Pairwise (λa b=>HT.lexLt b.1 a.1=false)->Q (.ref D) (Ag H' D (.lst (zs.map (·.2))))):
  wpAny (model X.prog X.w) X.A (call (.builtin "sorted") [.ref l] [(B1 "key",.ref f)]) (EP X Ab σ Q) X.xe s:=by
 refine call_function_entry_kw kind_sorted plain_sorted entry_sorted (qRY _ _) ?_;unfold Builtin.«sorted»;refine B73 (m:=checkCount "sorted" 1 1 _) (B74 ?_);obtain⟨its,rv,a2⟩:=a3;have li:=rv.length;refine B73 (a2 _ λd c k1=>?_);have v:Inv X Ab σ H {s with toks:=c,heap:=d}:=I.kept (t':=c) k1;refine B73 (wpAny_newList ?_ (by show its.length<=_;rw[B80];lia))
 have k:FpOk X Ab H d.objs.size:=v.fpOk (B4 _) (v.hok.fresh (B4 _));have i:=v.sz;have q:(d.push (seqObj "list" its.toArray 0)).get? d.objs.size=some (seqObj "list" its.toArray 0):=B8 _ rfl;have I2:Inv X Ab σ H {s with toks:=c,heap:=d.push (seqObj "list" its.toArray 0)}:=v.kept (t':=c) λb o e=>A1 _ e;have t:d.objs.size<(d.push (seqObj "list" its.toArray 0)).objs.size:=B9 q;show wpAny _ _ _ _ _ {s with toks:=c,heap:=d.push (seqObj "list" its.toArray 0)};show wpAny _ _ (C36 [.ref d.objs.size] (call (.builtin "list.sort") [.ref d.objs.size] [(B1 "key",.ref f)]) >>= _) _ _ _;generalize d.push (seqObj "list" its.toArray 0)=y at q I2 t ⊢;have i:X.s₀.heap.objs.size<=d.objs.size:=i;generalize d.objs.size=D at k i q t ⊢;refine B73 (B84 (wpAny_call_entry_kw slot_list_sort ⟨_,q,rfl⟩ entry_list_sort ?_ (ksk_l1 _ _)));show wpAny (model X.prog X.w) X.A.in1.in1 (Builtin.«list.sort» ⟨[.ref D],[(B1 "key",.ref f)]⟩) _ _ _;rw[ksk_t1];unfold ksk_tree;refine B73 (listItems_at q rfl ?_);refine B73 (listUpdate_at q rfl ?_ (by rw[C3,B80];lia) (J5 _))
 obtain⟨e1,h⟩:∃e1,(y.update D (P2 λ_=>(#[]:Array Value))).get? D=some (seqObj "list" #[] e1):=⟨_,get?_update_seq q λ_=>#[]⟩;have x:=Inv.off (h':=y.update D (P2 λ_=>(#[]:Array Value))) I2 k (λb o hb e=>(D5 _ _ (J4 hb)).trans e);have j:D<(y.update D (P2 λ_=>(#[]:Array Value))).objs.size:=B9 h;refine B73 (seqEpoch_at h rfl ?_);generalize y.update D (P2 λ_=>(#[]:Array Value))=r at h x j ⊢;refine B73 (wpAny_newTuple ?_ (by show its.length<=_;rw[B80];lia))
 refine B73 (wpAny_newList ?_ (J5 _));refine B84 ?_;have u:(r.push (seqObj "tuple" its.toArray 0)).objs.size=r.objs.size+1:=O4 ..;have I4:Inv X Ab σ H {s with toks:=c,heap:=(r.push (seqObj "tuple" its.toArray 0)).push (seqObj "list" #[] 0)}:=x.kept (t':=c) λb o e=>A1 _ (A1 _ e);have fk:FpOk X Ab H (r.push (seqObj "tuple" its.toArray 0)).objs.size:=by rw[u];exact x.fpOk (X5 _) (x.hok.fresh (X5 _))
 refine qPH (kS:=(r.push (seqObj "tuple" its.toArray 0)).objs.size) (D:=D) F (rm.in1.in1) hA hb KA rv (by lia) (by rw[u];exact V4 (Y5 j)) ⟨H,[],0,I4,λ_ _ e=>e,fk,k,B8 _ rfl,A1 _ (A1 _ h),?_⟩ λH' s' zs a1 n I5 sm g pm so z a0=>(xR rfl ?_)
 ·rw[A69];exact .nil
 ·refine B74 (xR rfl ⟨.ref D,Ag H' D (.lst (zs.map (·.2))),I5.track g.1 i g.2.1 g.2.2.2.2.1 g.2.2.2.2.2 ⟨?_,a1,n,z,a0⟩,rfl,hQ H' D zs sm g.1 pm so⟩);have:=pm.length_eq;rw[A0,this,A05,B80]
  lia
end
end _L.G
namespace _L
open PySem PySem.Spec PyProof.Rows
abbrev qRR (H:Hp)(rs:List Addr)(Af:List (List KI×V)):Prop:=Paired (λ(r:Addr) (kv:List KI×V)=>H r=some (.tup (kv.1.map kI))) rs Af
theorem Inv.keysT {X:Cx} {Ab:Aa2} {σ:St} {H2:Hp} {d:Addr} {o:Obj} {Af:List (List KI×V)} (I2:Inv X Ab σ H2 s)(m:H2 d=some (.frz o (.dT Af))):
  ∃es ep rs,s.heap.get? d=some o/\(d==C00)=false/\o.cls=.type "dict"/\o.data=.dict es ep/\es.size=Af.length/\qRR H2 rs Af/\∀(acc:Array Value),acc.size=es.size->(∀(i:Nat) (v:Value),acc[i]?=some v->∃h:i<es.size,v=es[i].key)->acc.toList=rs.map C7:=by
 obtain⟨e1,e2,y,es,ep,u,x,get⟩:=I2.heldT m;have f:∀(n:Nat),n<=Af.length->∃rs:List Addr,qRR H2 rs (Af.take n)/\(∀i,i<n->∃r,rs[i]?=some r/\∃h:i<es.size,es[i].key=.ref r):=by
  intro n
  induction n with
  |zero=>intro _;exact⟨[],.nil,λi c=>absurd c (l9 _)⟩
  |succ n ih=>
   intro hn;obtain⟨rs,T,g⟩:=ih (by lia)
   have c:n<es.size:=by lia
   obtain⟨k,v,r,g1,q,t⟩:=get n c;have j:rs.length=n:=by have:=C5 T;rw[C9] at this;lia
   refine⟨rs++[r],?_,λi l=>?_⟩
   ·rw[E8,g1,E9];exact Q5 T t
   ·by_cases e:i=n
    ·subst e;exact⟨r,by rw[L4 (by lia),j];simp,c,q⟩
    ·obtain⟨z,a,b⟩:=g i (by lia)
     exact⟨z,by rw[O2 (by lia)];exact a,b⟩
 obtain⟨rs,T,p⟩:=f Af.length (B4 _);rw[D3 (B4 _)] at T;have j:rs.length=Af.length:=C5 T;refine⟨es,ep,rs,e1,e2,y,u,x,T,λacc l1 w=>?_⟩;refine B10 λi=>?_;by_cases c:i<acc.size
 ·obtain⟨h3,e6⟩:=w i acc[i] (C8 c);obtain⟨r,a,h4,b⟩:=p i (by lia)
  rw[F9,C8 c,e6,C6,a,b]
  rfl
 ·rw[F9,A48 (by lia),R8 (by rw[A0];lia)]
def qaK (sp:Sp)(ta:TA):TE:=λσ H Q=>ta σ H λvs H1=>∃(d:Addr) (o:Obj) (Af:List (List KI×V)) (ks:Aa0),vs=[.ref d]/\H1 d=some (.frz o (.dT Af))/\Af.length<=20000/\
 ∀rs,qRR H1 rs Af->G.KeyDf sp H1 (rs.map V.ref) ks/\∀(H':Hp) (D:Addr) (zs:List (List Int×V)),Sm0 H1 H'->H' D=none->zs.Perm (ks.zip (rs.map V.ref))->zs.Pairwise (λa b=>HT.lexLt b.1 a.1=false)->Q (.ref D) (Ag H' D (.lst (zs.map (·.2))))
section
variable{X:Cx}
theorem qWN {e:Expr} {q:TA} {np y pos kpos:Pos} {k0:Nat} {f:Addr} {fd:B88} {x p:Str} {sp:Sp} (F:FnOk X.prog X.w X.K X.mg X.base CX0 k0 f fd [p] sp)(rm:Room (k0+2) X.A)(hb:Binds X.K fd [p] [])(i:Gl X x)(n:X.mg x=some (.ref f))
  (hg:Gl X "sorted") (hm:X.mg "sorted" = none) (hv:B81 "sorted" = some (.builtin "sorted")) (ha:PA X [e] q) (hs:B85 [e] X.env=[(false,eval e X.env)]:=by rfl) (m:(x==("__debug__" : Str))=false:=by decide):
  PE X (.Call (.Name "sorted" np) [e] [⟨some "key",.Name x y,kpos⟩] pos) (qaK sp q):=by
 intro t s σ H Q I h;refine C06 (qIG I hg hm hv ?_ (by decide) (by decide))
 refine A33 (thn (ha pos t s σ H _ I h) λus s1 ⟨vs,H1,I1,r1,q1⟩=>?_) (by rw[hs];rfl) (by rw[hs];rfl)
 obtain⟨d,o,Af,ks,rfl,hd,hz,q2⟩:=q1;obtain⟨u,rfl,rx⟩:=qEI r1;cases rx;refine thn (qTR (kpos:=kpos) (nm:=some "key") (qZ6 (pos:=y) i n (v:=.ref f) rfl m) qXS pos t s1 σ H1 (λz k=>z=[.ref f]/\k=H1) I1 ⟨rfl,rfl⟩) λws s2 ⟨z,k,I2,rz,ez,eh⟩=>?_;subst ez eh;obtain⟨u2,rfl,r2⟩:=qEI rz;cases r2;have hA:X.A.in1.in1.frames=some X.stack:=I2.ok.frames;obtain⟨es,ep,a,e1,e2,e3,e4,e5,T,g⟩:=I2.keysT hd;have lr:a.length=Af.length:=C5 T;obtain⟨KA,q3⟩:=q2 a T;refine G.sortk_callD (H:=k) (l:=d) F rm hA hb KA I2 (by rw[A0,lr];exact hz) ⟨a.map C7,?_,λP h=>?_⟩ q3
 ·have:∀a:List Addr,Vals (a.map V.ref) (a.map C7):=λa=>by
   induction a with
   |nil=>exact .nil
   |cons r a ih=>exact .cons rfl ih
  exact this a
 ·refine A75 (A:=X.A.in1) (G.src_dT e2 e3 e4) rm.hd e1 (by rw[e5,B80];lia) λh' tk j c b=>?_
  obtain⟨l1,l2⟩:=b;rw[g j l1 l2];exact h h' tk c
end
def KR0 (H:Hp)(y:V)(k:List Int):Prop:=∃n,y=.int n/\k=[n]
theorem qdK {X:Cx} :KCmp X KR0:=by
 refine⟨λH a y k b h=>h,?_⟩;intro Ab σ s H y y' u u' k k' Q E I ry ry' ⟨n,e,g⟩ ⟨n',e',g'⟩ h;subst e e' g g';obtain⟨t,rfl⟩:=(show∃t,u=V8 n t from ry);obtain⟨d,rfl⟩:=(show∃t,u'=V8 n' t from ry');refine HT.rcLt_int _ _ _ _ _ _ _ _ _ _ ?_;have e:HT.lexLt [n] [n']=decide (n<n'):=by
  rw[HT.lexLt_cons];by_cases c:n=n'
  ·rw[if_pos c,HT.lexLt_nil_nil];exact(decide_eq_false (by lia)).symm
  ·rw[if_neg c]
 rw[<- e];exact h
theorem qdG {X:Cx} {a:Scope} {p:Str} {fv:List Nat} {q:Str} (z:LmZ):(lmCx X a p fv q z).A.units+2<cLine:=by
 have:=z.rm.un;show z.A.units+3+2<cLine
 lia
end _L
namespace _F
open PySem _L
abbrev La:=List (Option Int)
def cntO (l:La):Nat:=l.countP Option.isSome
def beO (l:La)(m:Mo):La:=l.set m.rm.toNat m.res
def dN (m:Mo):Nat:=match m.dk with|true=>1|false=>0
def fwO (Ae:Aa0)(wides sizes:List Int)(l:La)(m:Mo):V:=thW m (Ae.getD m.wk.toNat []) l (l.getD m.rm.toNat none) (sizes.getD m.rm.toNat 0) (wides.getD m.wk.toNat 0)
def prMo (n k:Int):List Mo:=((qB6 0 k).map λrm=>⟨false,0,rm⟩)++(qB6 0 n).flatMap λwk=>(qB6 0 k).map λrm=>⟨true,wk,rm⟩
def nxO (Ae:Aa0)(wides sizes:List Int)(l:La):List Mo:=(prMo (Ae.length:Int) (sizes.length:Int)).filter λm=>decide (fwO Ae wides sizes l m=.non)
def l0 (sizes:List Int):La:=F1 sizes.length none
theorem mem_prMo {n k:Int} {m:Mo} :m∈prMo n k↔(0<=m.rm/\m.rm<k)/\((m.dk=false/\m.wk=0)\/m.dk=true/\0<=m.wk/\m.wk<n):=by
 obtain⟨b,w,r⟩:=m;unfold prMo;rw[B7,J8,u8]
 constructor
 ·rintro(⟨x,hx,e⟩|⟨x,hx,hy⟩)
  ·cases e;exact⟨mem_rangeI.mp hx,.inl ⟨rfl,rfl⟩⟩
  ·obtain⟨y,hy,e⟩:=J8.mp hy;cases e;exact⟨mem_rangeI.mp hy,.inr ⟨rfl,mem_rangeI.mp hx⟩⟩
 ·rintro⟨h,⟨a,c⟩|⟨a,d⟩⟩
  ·have a:b=false:=a;have c:w=0:=c;subst a c;exact .inl ⟨r,mem_rangeI.mpr h,rfl⟩
  ·have a:b=true:=a;subst a;exact .inr ⟨w,mem_rangeI.mpr d,J8.mpr ⟨r,mem_rangeI.mpr h,rfl⟩⟩
inductive Po (Ae:Aa0)(wides sizes:List Int):Nat->La->Prop
 |zero:Po Ae wides sizes 0 (l0 sizes)
 |step {t:Nat} {l:La} {m:Mo}:Po Ae wides sizes t l->m∈nxO Ae wides sizes l->Po Ae wides sizes (t+1) (beO l m)
section
variable{Ae:Aa0}{wides sizes:List Int}
theorem qMM {l:La} {m:Mo} (h:m∈nxO Ae wides sizes l):(0<=m.rm/\m.rm<sizes.length)/\(m.dk=true->0<=m.wk/\m.wk<Ae.length)/\fwO Ae wides sizes l m=.non:=by
 obtain⟨d,c⟩:=Q4.mp h;obtain⟨a,b⟩:=mem_prMo.mp d;refine⟨a,λe=>?_,of_decide_eq_true c⟩;rcases b with⟨z,_⟩|⟨_,z⟩
 ·rw[z] at e;cases e
 ·exact z
theorem qc5 {l:La} {m:Mo} (d:m.dk=true):fwO Ae wides sizes l m=.non↔some m.wk∉l/\(∀x∈Ae.getD m.wk.toNat [],some x∈l)/\l.getD m.rm.toNat none=none/\¬sizes.getD m.rm.toNat 0<wides.getD m.wk.toNat 0:=by
 unfold fwO thW;rw[d];dsimp only;unfold thDo;by_cases c:some m.wk∈l
 ·rw[if_pos c];exact⟨λz=>(nomatch z),λz=>absurd c z.1⟩
 rw[if_neg c];by_cases b:∀x∈Ae.getD m.wk.toNat [],some x∈l
 ·rw[if_pos b];cases l.getD m.rm.toNat none with
  |some y=>exact⟨λz=>(nomatch z),λz=>(nomatch z.2.2.1)⟩
  |none=>
   dsimp only;by_cases a:sizes.getD m.rm.toNat 0<wides.getD m.wk.toNat 0
   ·rw[if_pos a];exact⟨λz=>(nomatch z),λz=>absurd a z.2.2.2⟩
   ·rw[if_neg a];exact⟨λ_=>⟨c,b,rfl,a⟩,λ_=>rfl⟩
 ·rw[if_neg b];exact⟨λz=>(nomatch z),λz=>absurd z.2.1 b⟩
theorem qdS {l:La} {m:Mo} (a:m.dk=false):fwO Ae wides sizes l m=.non↔∃x,l.getD m.rm.toNat none=some x:=by
 unfold fwO thW;rw[a];dsimp only;unfold qT3;cases l.getD m.rm.toNat none with
 |some y=>exact⟨λ_=>⟨y,rfl⟩,λ_=>rfl⟩
 |none=>exact⟨λz=>(nomatch z),λ⟨_,z⟩=>nomatch z⟩
theorem qa2 {l:La} {k:Nat} (h:k<l.length)(o:Option Int):cntO (l.set k o)+(if(l.getD k none).isSome then 1 else 0)=cntO l+if o.isSome then 1 else 0:=by
 unfold cntO
 induction l generalizing k with
 |nil=>exact absurd h (l9 _)
 |cons a l ih=>
  cases k with
  |zero=>
   rw[List.set_cons_zero,u9,u9];show _+(if a.isSome=true then 1 else 0)=_
   lia
  |succ k=>
   have:=ih (k:=k) (by simpa using h)
   rw[List.set_cons_succ,u9,u9];have e:(a::l).getD (k+1) none=l.getD k none:=by simp[List.getD]
   rw[e]
   lia
theorem Po.len {t:Nat} {l:La} (h:Po Ae wides sizes t l):l.length=sizes.length:=by
 induction h with
 |zero=>exact Z9
 |step _ _ ih=>unfold beO;rw[W2];exact ih
theorem Po.ok {t:Nat} {l:La} (h:Po Ae wides sizes t l):LayOk (Ae.length:Int) l:=by
 induction h with
 |zero=>intro x a;exact nomatch(Y8 a)
 |step _ hm ih=>exact ih.set (qMM hm).2.1
theorem qVU {t:Nat} {l:La} {m:Mo} (h:Po Ae wides sizes t l)(b:m∈nxO Ae wides sizes l):(m.dk=true/\cntO (beO l m)=cntO l+1)\/m.dk=false/\cntO (beO l m)+1=cntO l:=by
 obtain⟨d,c,a⟩:=qMM b;have k:=qa2 (l:=l) (k:=m.rm.toNat) (by rw[h.len];lia) m.res
 cases hd:m.dk with
 |true=>
  have e:=((qc5 hd).mp a).2.2.1;refine .inl ⟨rfl,?_⟩;have r:m.res=some m.wk:=by unfold Mo.res;rw[hd]
  rw[e,r] at k;unfold beO;rw[r];simpa using k
 |false=>
  obtain⟨x,e⟩:=(qdS hd).mp a;refine .inr ⟨rfl,?_⟩;have r:m.res=none:=by unfold Mo.res;rw[hd]
  rw[e,r] at k;unfold beO;rw[r];simpa using k
def Mto (Ae:Aa0)(wides sizes:List Int)(t:Nat)(l:La):Prop:=Po Ae wides sizes t l/\∀u,u<t->¬Po Ae wides sizes u l
theorem Mto.one {t u:Nat} {l:La} (h:Mto Ae wides sizes t l)(h':Mto Ae wides sizes u l):t=u:=by
 rcases A34 t u with c|c|c
 ·exact absurd h.1 (h'.2 t c)
 ·exact c
 ·exact absurd h'.1 (h.2 u c)
structure BFO (Ae:Aa0)(wides sizes:List Int)(t:Nat)(ks due ly:List La)(f:La->Nat)(i k:Nat):Prop where
 nd:ks.Nodup
 snd:∀s∈ks,∃u,u<=t+1/\Mto Ae wides sizes u s/\2*f s=u+cntO s
 full:∀u s,u<=t->Po Ae wides sizes u s->s∈ks
 duem:∀s,s∈due↔Mto Ae wides sizes t s
 lym:∀s,s∈ly↔s∈ks/\Mto Ae wides sizes (t+1) s
 done:∀j s,due[j]?=some s->j<i->∀m∈nxO Ae wides sizes s,beO s m∈ks
 dk:∀s,due[i]?=some s->∀m∈(nxO Ae wides sizes s).take k,beO s m∈ks
theorem qYB (sizes:List Int):cntO (l0 sizes)=0:=by
 unfold cntO l0;rw[List.countP_eq_zero];intro x a;rw[Y8 a];exact B6
theorem BFO.start:BFO Ae wides sizes 0 [l0 sizes] [l0 sizes] [] (λ_=>0) 0 0:=by
 have z:∀s,Po Ae wides sizes 0 s->s=l0 sizes:=λs h=>by cases h;rfl
 have a:Mto Ae wides sizes 0 (l0 sizes):=⟨.zero,λu b=>absurd b (l9 _)⟩;refine⟨by simp,λs f=>?_,λu s b p=>?_,λs=>?_,λs=>?_,λj s _ c=>absurd c (l9 _),λs _ m d=>by simp at d⟩
 ·rw[B3.mp f];exact⟨0,by lia,a,by rw[qYB]⟩
 ·have:u=0:=by lia
  subst this;rw[z s p];simp
 ·rw[B3];exact⟨λe=>e▸a,λh=>z s h.1⟩
 ·constructor
  ·intro h;cases h
  ·rintro⟨h,m⟩;rw[B3.mp h] at m;exact absurd (Mto.one m a) (by lia)
section
variable{t:Nat}{ks due ly:List La}{f:La->Nat}{i k:Nat}
theorem BFO.hit (h:BFO Ae wides sizes t ks due ly f i k){s:La}{m:Mo}(b:due[i]?=some s)(c:(nxO Ae wides sizes s)[k]?=some m)(d:beO s m∈ks):BFO Ae wides sizes t ks due ly f i (k+1):=by
 refine⟨h.nd,h.snd,h.full,h.duem,h.lym,h.done,λj e g a=>?_⟩;rw[b] at e;cases e;rw[E8,c,E9,B7,B3] at a;rcases a with z|z
 ·exact h.dk s b g z
 ·rw[z];exact d
def fsO (f:La->Nat)(x:La)(v:Nat):La->Nat:=λy=>if y=x then v else f y
theorem qRB (f:La->Nat)(x:La)(v:Nat):fsO f x v x=v:=if_pos rfl
theorem qRC {f:La->Nat} {x y:La} {v:Nat} {ks:List La} (h:y∈ks)(a:x∉ks):fsO f x v y=f y:=if_neg λe=>a (by rw[<- e];exact h)
theorem qJH {ks:List La} {x:La} (f:ks.Nodup)(h:x∉ks):(ks++[x]).Nodup:=by
 rw[List.nodup_append];exact⟨f,by simp,λa c b d e=>h (by rw[B3.mp d] at e;exact e▸c)⟩
theorem BFO.val (h:BFO Ae wides sizes t ks due ly f i k){s:La}(c:s∈due):s∈ks/\2*f s=t+cntO s:=by
 have m:=(h.duem s).mp c;have a:=h.full t s (B4 _) m.1;obtain⟨u,_,b,e⟩:=h.snd s a;rw[Mto.one b m] at e;exact⟨a,e⟩
theorem BFO.add (h:BFO Ae wides sizes t ks due ly f i k){s:La}{m:Mo}(d:due[i]?=some s)(n:(nxO Ae wides sizes s)[k]?=some m)(c:beO s m∉ks):
  BFO Ae wides sizes t (ks++[beO s m]) due (ly++[beO s m]) (fsO f (beO s m) (f s+dN m)) i (k+1):=by
 have b:=D4 d;have q:=(h.duem s).mp b;obtain⟨a0,ev⟩:=h.val b;have r:=D4 n;have v:Mto Ae wides sizes (t+1) (beO s m):=⟨.step q.1 r,λu o p=>c (h.full u _ (by lia) p)⟩
 refine⟨qJH h.nd c,λx hx=>?_,λu x o p=>B7.mpr (.inl (h.full u x o p)),h.duem,λx=>?_,λj x e y g a=>B7.mpr (.inl (h.done j x e y g a)),λx e g a=>?_⟩
 ·rcases B7.mp hx with z|z
  ·rw[qRC z c];exact h.snd x z
  ·rw[B3.mp z,qRB];refine⟨t+1,B4 _,v,?_⟩;unfold dN;rcases qVU q.1 r with⟨w,l⟩|⟨w,l⟩
   ·rw[w];dsimp only;lia
   ·rw[w];dsimp only;lia
 ·rw[B7,B7,B3,h.lym x]
  constructor
  ·rintro(z|z)
   ·exact⟨.inl z.1,z.2⟩
   ·exact⟨.inr z,z▸v⟩
  ·rintro⟨z|z,e⟩
   ·exact .inl ⟨z,e⟩
   ·exact .inr z
 ·rw[d] at e;cases e;rw[E8,n,E9,B7,B3] at a;rcases a with z|z
  ·exact B7.mpr (.inl (h.dk s d g z))
  ·rw[z];simp
theorem BFO.next (h:BFO Ae wides sizes t ks due ly f i k){s:La}(b:due[i]?=some s)(c:(nxO Ae wides sizes s).length<=k):BFO Ae wides sizes t ks due ly f (i+1) 0:=by
 refine⟨h.nd,h.snd,h.full,h.duem,h.lym,λj x e g m a=>?_,λs _ m a=>by simp at a⟩
 by_cases d:j=i
 ·subst d;rw[b] at e;cases e;exact h.dk s b m (by rw[D3 c];exact a)
 ·exact h.done j x e (by lia) m a
theorem BFO.level (h:BFO Ae wides sizes t ks due ly f i k)(hi:due.length<=i):BFO Ae wides sizes (t+1) ks ly [] f 0 0:=by
 have full:∀u s,u<=t+1->Po Ae wides sizes u s->s∈ks:=λu s g p=>by
  cases p with
  |zero=>exact h.full 0 _ (by lia) .zero
  |@step u st m p hm=>
   have b:=h.full u st (by lia) p
   obtain⟨v,q,d,_⟩:=h.snd st b;have n:v<=u:=by
    apply Classical.byContradiction;intro z;exact d.2 u (by lia) p
   by_cases e:v=t
   ·subst e;obtain⟨j,a,o⟩:=Q2 ((h.duem st).mpr d);exact h.done j st (by rw[B0 a,o]) (by lia) m hm
   ·exact h.full (v+1) _ (by lia) (.step d.1 hm)
 refine⟨h.nd,λs c=>?_,full,λs=>?_,λs=>?_,λj s _ a=>absurd a (l9 _),λs _ m hm=>by simp at hm⟩
 ·obtain⟨u,g,r⟩:=h.snd s c;exact⟨u,by lia,r⟩
 ·rw[h.lym s];exact⟨λz=>z.2,λz=>⟨full _ _ (B4 _) z.1,z⟩⟩
 ·constructor
  ·intro z;cases z
  ·rintro⟨c,m⟩;obtain⟨u,g,l,_⟩:=h.snd s c;exact absurd (Mto.one l m) (by lia)
structure RcO (Ae:Aa0)(wides sizes:List Int)(ks:List La)(f:La->Nat):Prop where
 nd:ks.Nodup
 snd:∀s∈ks,∃u,Mto Ae wides sizes u s/\2*f s=u+cntO s
 all:∀u s,Po Ae wides sizes u s->s∈ks
theorem BFO.rch (h:BFO Ae wides sizes t ks [] [] f i k):RcO Ae wides sizes ks f:=by
 have c:∀s∈ks,∃u,u<t/\Mto Ae wides sizes u s:=λs a=>by
  obtain⟨u,m,b,_⟩:=h.snd s a;have j:u≠t:=λe=>nomatch(h.duem s).mpr (e▸b);have g:u≠t+1:=λe=>nomatch(h.lym s).mpr ⟨a,e▸b⟩;exact⟨u,by lia,b⟩
 refine⟨h.nd,λs a=>let⟨u,_,r⟩:=h.snd s a;⟨u,r⟩,λu s p=>?_⟩
 induction p with
 |zero=>exact h.full 0 _ (by lia) .zero
 |step p hm ih=>
  obtain⟨v,l,d⟩:=c _ ih;exact h.full (v+1) _ (by lia) (.step d.1 hm)
end
def encO (n:Nat):La->Nat
 |[]=>0
 |none::l=>(n+1)*encO n l
 |some x::l=>(n+1)*encO n l+(x.toNat+1)
theorem qY5 {n:Nat} :∀{l:La},LayOk (n:Int) l->encO n l<(n+1)^l.length
 |[],_=>by show 0<1;lia
 |o::l,h=>by
  have ih:=qY5 (n:=n) (l:=l) λx hx=>h x (C2 _ hx);rw[J7,Nat.pow_succ,Nat.mul_comm];have m:(n+1)*encO n l+(n+1)<=(n+1)*(n+1)^l.length:=by
   rw[<- Nat.mul_succ];exact Nat.mul_le_mul_left _ ih
  cases o with
  |none=>show(n+1)*encO n l<_;lia
  |some x=>
   have:=h x (by simp)
   show(n+1)*encO n l+(x.toNat+1)<_
   lia
theorem qVA {n:Nat} :∀{a b:La},a.length=b.length->LayOk (n:Int) a->LayOk (n:Int) b->encO n a=encO n b->a=b
 |[],[],_,_,_,_=>rfl
 |[],_::_,e,_,_,_=>by simp at e
 |_::_,[],e,_,_,_=>by simp at e
 |x::a,y::b,e,ha,hb,h=>by
  have head:∀(o:Option Int) (l:La),LayOk (n:Int) (o::l)->∃r,r<n+1/\encO n (o::l)=r+(n+1)*encO n l/\r=(match o with|none=>0|some x=>x.toNat+1):=λo l h=>by
   cases o with
   |none=>exact⟨0,by lia,by show(n+1)*encO n l=_;lia,rfl⟩
   |some x=>have:=h x (by simp);exact⟨x.toNat+1,by lia,by show(n+1)*encO n l+(x.toNat+1)=_;lia,rfl⟩
  obtain⟨r,r1,r2,r3⟩:=head x a ha;obtain⟨u,u1,u2,u3⟩:=head y b hb;rw[r2,u2] at h;have e1:r=u:=by
   have:=congrArg (· % (n+1)) h
   rwa[A23,A23,B28 r1,B28 u1] at this
  subst e1;have e2:encO n a=encO n b:=Nat.eq_of_mul_eq_mul_left (by lia:0<n+1) (by lia)
  have ih:=qVA (by simpa using e) (λz hz=>ha z (C2 _ hz)) (λz hz=>hb z (C2 _ hz)) e2
  rw[ih];congr 1;rw[r3] at u3;cases x with
  |none=>cases y with
   |none=>rfl
   |some y=>have u3:0=y.toNat+1:=u3;lia
  |some x=>cases y with
   |none=>have u3:x.toNat+1=0:=u3;lia
   |some y=>
    have u3:x.toNat+1=y.toNat+1:=u3;have h1:=ha x (by simp)
    have h2:=hb y (by simp)
    rw[show x=y by lia]
theorem qa3 {ks:List Nat} {n:Nat} (c:ks.Nodup)(h:∀b∈ks,b<n):ks.length<=n:=by
 have p:ks.Perm ((Y1 n).filter λx=>decide (x∈ks)):=(A15 c (List.nodup_range.filter _)).mpr λx=>by
  rw[Q4,decide_eq_true_eq,V3];exact⟨λa=>⟨h x a,a⟩,λa=>a.2⟩
 rw[p.length_eq];exact F4 (T1 _ _) (by rw[List.length_range];exact B4 n)
theorem qJX {n k:Nat} {ks:List La} (j:ks.Nodup)(h:∀s∈ks,s.length=k/\LayOk (n:Int) s):ks.length<=(n+1)^k:=by
 have f:(ks.map (encO n)).Nodup:=
  Y7.mpr (j.imp_of_mem λ{a b} i c d e=>d (qVA ((h a i).1.trans (h b c).1.symm) (h a i).2 (h b c).2 e))
 have:=qa3 (n:=(n+1)^k) f λb c=>by
  obtain⟨s,g,rfl⟩:=J8.mp c;have:=qY5 (h s g).2
  rwa[(h s g).1] at this
 rwa[A0] at this
theorem BFO.len {t:Nat} {ks a b:List La} {f:La->Nat} {i k:Nat} (h:BFO Ae wides sizes t ks a b f i k):ks.length<=(Ae.length+1)^sizes.length:=
 qJX h.nd λs c=>let⟨_,_,m,_⟩:=h.snd s c;⟨m.1.len,m.1.ok⟩
end
def kO:Option Int->KI
 |none=>none
 |some i=>some (.inl i)
def keyO (l:La):List KI:=l.map kO
theorem qdM (o:Option Int):kI (kO o)=oV o:=by cases o<;>rfl
theorem qC8 (l:La):(keyO l).map kI=l.map oV:=by
 unfold keyO;rw[X3];exact W6 λx _=>qdM x
theorem qc1 {a b:Option Int} (e:kO a=kO b):a=b:=by
 cases a<;>cases b
 ·rfl
 ·exact nomatch e
 ·exact nomatch e
 ·have:=B32 (D7 (show some (d7 _:Key)=some (d7 _) from e));rw[this]
theorem qH0:∀{a b:La},keyO a=keyO b->a=b
 |[],[],_=>rfl
 |[],_::_,e=>by simp[keyO] at e
 |_::_,[],e=>by simp[keyO] at e
 |x::a,y::b,e=>by
  unfold keyO at e;rw[D8,D8] at e
  injection e with e1 e2
  rw[qc1 e1,qH0 e2]
abbrev PrO:=Option (La×Mo)
def ValO (H:Hp)(v:V)(n:Nat):PrO->Prop
 |none=>∃r,v=.ref r/\H r=some (.tup [.int (n:Int),.non,.non])
 |some (p,m)=>∃r rp rm,v=.ref r/\H r=some (.tup [.int (n:Int),.ref rp,.ref rm])/\H rp=some (.tup (p.map oV))/\H rm=some (.tup m.vs)
theorem ValO.same {H H':Hp} {v:V} {n:Nat} {o:PrO} (h:ValO H v n o)(a:Same H H'):ValO H' v n o:=by
 cases o with
 |none=>obtain⟨r,e,g⟩:=h;exact⟨r,e,a _ _ g⟩
 |some pm=>obtain⟨r,c,f,e,i,b,d⟩:=h;exact⟨r,c,f,e,a _ _ i,a _ _ b,a _ _ d⟩
theorem qC2 {H:Hp} {d r:Addr} {o u:HO} {xs:List V} (g:H r=some (.tup xs))(b:H d=some o)(a:∀xs,o≠.tup xs):(Ag H d u) r=some (.tup xs):=by
 rw[qAB (qFB g b λz=>a _ z.symm)];exact g
theorem ValO.put {H:Hp} {v:V} {n:Nat} {q:PrO} {d:Addr} {o u:HO} (h:ValO H v n q)(a:H d=some o)(b:∀xs,o≠.tup xs):ValO (Ag H d u) v n q:=by
 cases q with
 |none=>obtain⟨r,e,g⟩:=h;exact⟨r,e,qC2 g a b⟩
 |some pm=>obtain⟨r,f,j,e,k,c,i⟩:=h;exact⟨r,f,j,e,qC2 k a b,qC2 c a b,qC2 i a b⟩
theorem ValO.at {H:Hp} {v:V} {n:Nat} {o:PrO} (h:ValO H v n o):∃r x y,v=.ref r/\H r=some (.tup [.int (n:Int),x,y]):=by
 cases o with
 |none=>obtain⟨r,e,g⟩:=h;exact⟨r,_,_,e,g⟩
 |some pm=>obtain⟨r,b,a,e,g,_⟩:=h;exact⟨r,_,_,e,g⟩
abbrev KvO:=List (List KI×V)
def EntO (H:Hp)(Af:KvO)(ks:List La)(f:La->Nat)(g:La->PrO):Prop:=Paired (λ(kv:List KI×V) s=>kv.1=keyO s/\ValO H kv.2 (f s) (g s)) Af ks
def gsO (g:La->PrO)(x:La)(v:PrO):La->PrO:=λy=>if y=x then v else g y
section
variable{H H':Hp}{Af:KvO}{ks:List La}{f:La->Nat}{g:La->PrO}
theorem EntO.same (h:EntO H Af ks f g)(a:Same H H'):EntO H' Af ks f g:=Paired.mapP h λ_ _ z=>⟨z.1,z.2.same a⟩
theorem EntO.put {d:Addr} {o u:HO} (h:EntO H Af ks f g)(b:H d=some o)(a:∀xs,o≠.tup xs):EntO (Ag H d u) Af ks f g:=Paired.mapP h λ_ _ z=>⟨z.1,z.2.put b a⟩
theorem EntO.len (h:EntO H Af ks f g):Af.length=ks.length:=C5 h
theorem EntO.val:∀{Af:KvO} {ks:List La},EntO H Af ks f g->∀{s:La},s∈ks->∃v,valV Af (keyO s)=some v/\ValO H v (f s) (g s)
 |_,_,.nil,s,hs=>nomatch hs
 |_,_,.cons (a:=kv) (b:=s0) ⟨e,v3⟩ t,s,hs=>by
  by_cases c:s0=s
  ·subst c;exact⟨kv.2,qEJ e,v3⟩
  ·rw[qEK (λz=>c (qH0 (e.symm.trans z)))];exact EntO.val t ((C0.mp hs).resolve_left λz=>c z.symm)
theorem EntO.none:∀{Af:KvO} {ks:List La},EntO H Af ks f g->∀{s:La},s∉ks->valV Af (keyO s)=none
 |_,_,.nil,s,hs=>rfl
 |_,_,.cons (a:=kv) (b:=s0) ⟨e,v3⟩ t,s,hs=>by
  have c:¬s0=s:=λz=>hs (by rw[z];simp)
  rw[qEK (λz=>c (qH0 (e.symm.trans z)))];exact EntO.none t λz=>hs (C2 _ z)
theorem EntO.snoc (h:EntO H Af ks f g){s:La}(b:s∉ks){v:V}{n:Nat}{o:PrO}(c:ValO H v n o):EntO H (putK Af (keyO s) v) (ks++[s]) (fsO f s n) (gsO g s o):=by
 rw[qWJ v (h.none b)];refine Q5 (?_:EntO H Af ks (fsO f s n) (gsO g s o)) ⟨rfl,by rw[show fsO f s n s=n from if_pos rfl,show gsO g s o s=o from if_pos rfl];exact c⟩
 clear c
 induction h with
 |nil=>exact .nil
 |@cons kv s0 l1 l2 a t ih=>exact .cons ⟨a.1,by rw[show fsO f s n s0=f s0 from if_neg λz=>b (by rw[z];simp),show gsO g s o s0=g s0 from if_neg λz=>b (by rw[z];simp)];exact a.2⟩ (ih λz=>b (C2 _ z))
end
section
variable{Ae:Aa0}{wides sizes:List Int}{ks:List La}{f:La->Nat}{g:La->PrO}
def PvO (Ae:Aa0)(wides sizes:List Int)(ks:List La)(f:La->Nat)(g:La->PrO):Prop:=
 ∀s∈ks,(s=l0 sizes/\g s=none/\f s=0)\/∃p m,g s=some (p,m)/\p∈ks/\m∈nxO Ae wides sizes p/\s=beO p m/\f s=f p+dN m
theorem PvO.start:PvO Ae wides sizes [l0 sizes] (λ_=>0) (λ_=>none):=λs a=>.inl ⟨B3.mp a,rfl,rfl⟩
theorem PvO.snoc {s:La} {m:Mo} {z:Nat} (b:s∈ks)(d:m∈nxO Ae wides sizes s)(c:beO s m∉ks)(k:z=dN m)(h:PvO Ae wides sizes ks f g):PvO Ae wides sizes (ks++[beO s m]) (fsO f (beO s m) (f s+z)) (gsO g (beO s m) (some (s,m))):=by
 have i:∀y∈ks,gsO g (beO s m) (some (s,m)) y=g y:=λy l=>if_neg λe=>c (by rw[<- e];exact l)
 intro x j;rcases B7.mp j with w|w
 ·rw[qRC w c,i x w];rcases h x w with a|⟨p,mm,a1,a2,a3,a4,a5⟩
  ·exact .inl a
  ·exact .inr ⟨p,mm,a1,B7.mpr (.inl a2),a3,a4,by rw[qRC a2 c];exact a5⟩
 ·rw[B3.mp w];refine .inr ⟨s,m,if_pos rfl,B7.mpr (.inl b),d,rfl,?_⟩;rw[qRB,qRC b c,k]
inductive RunO (Ae:Aa0)(wides sizes:List Int):La->List Mo->La->Prop
 |nil {l:La}:RunO Ae wides sizes l [] l
 |cons {l l':La} {m:Mo} {ms:List Mo}:m∈nxO Ae wides sizes l->RunO Ae wides sizes (beO l m) ms l'->RunO Ae wides sizes l (m::ms) l'
theorem RunO.app {a b c:La} {x y:List Mo} (h:RunO Ae wides sizes a x b)(k:RunO Ae wides sizes b y c):RunO Ae wides sizes a (x++y) c:=by
 induction h with
 |nil=>exact k
 |cons m _ ih=>exact .cons m (ih k)
def dosO (ms:List Mo):Nat:=(ms.filter λm=>m.dk).length
theorem qRH (m:Mo):dosO [m]=dN m:=by
 unfold dosO dN;rw[W9,B39];cases m.dk<;>rfl
theorem qXD (a b:List Mo):dosO (a++b)=dosO a+dosO b:=by
 unfold dosO;rw[A20,A6]
def qG4 (g:La->PrO):Nat->La->List Mo
 |0,_=>[]
 |n+1,s=>match g s with
  |none=>[]
  |some (p,m)=>qG4 g n p++[m]
theorem qJG (R:RcO Ae wides sizes ks f){p:La}{m:Mo}(b:p∈ks)(c:m∈nxO Ae wides sizes p){u:Nat}(e:2*(f p+dN m)=u+cntO (beO p m)):∃v,u=v+1/\2*f p=v+cntO p:=by
 obtain⟨v,d,a⟩:=R.snd p b;refine⟨v,?_,a⟩;unfold dN at e;rcases qVU d.1 c with⟨w,l⟩|⟨w,l⟩
 ·rw[w] at e;dsimp only at e;lia
 ·rw[w] at e;dsimp only at e;lia
theorem qZG {a b:List La} (d:a.Nodup)(h:∀x∈a,x∈b)(e:b.Nodup):a.length<=b.length:=by
 have p:a.Perm (b.filter λx=>decide (x∈a)):=(A15 d (e.filter _)).mpr λx=>by
  rw[Q4,decide_eq_true_eq];exact⟨λc=>⟨h x c,c⟩,λc=>c.2⟩
 rw[p.length_eq];exact T1 _ _
theorem qO2 (R:RcO Ae wides sizes ks f)(pv:PvO Ae wides sizes ks f g):∀(u:Nat) (s:La),s∈ks->2*f s=u+cntO s->RunO Ae wides sizes (l0 sizes) (qG4 g u s) s/\dosO (qG4 g u s)=f s/\(qG4 g u s).length=u/\
  ∃L:List La,L.length=u+1/\L.Nodup/\∀x∈L,x∈ks/\∃v,v<=u/\2*f x=v+cntO x
 |0,s,hs,e=>by
  rcases pv s hs with⟨a1,a2,a3⟩|⟨p,m,a1,a2,a3,a4,a5⟩
  ·subst a1;exact⟨.nil,by rw[a3];rfl,rfl,[l0 sizes],rfl,by simp,λx hx=>by rw[B3.mp hx];exact⟨hs,0,B4 _,e⟩⟩
  ·rw[a5,a4] at e;obtain⟨v,z,_⟩:=qJG R a2 a3 e
   lia
 |u+1,s,hs,e=>by
  rcases pv s hs with⟨a1,a2,a3⟩|⟨p,m,a1,a2,a3,a4,a5⟩
  ·rw[a3,a1,qYB] at e
   lia
  ·have e2:=e;rw[a5,a4] at e2;obtain⟨v,z1,z2⟩:=qJG R a2 a3 e2;have:v=u:=by lia
   subst this;obtain⟨i1,i2,i4,L,i5,i6,i7⟩:=qO2 R pv v p a2 z2;have ep:qG4 g (v+1) s=qG4 g v p++[m]:=by show(match g s with|none=>[]|some (p,m)=>qG4 g v p++[m])=_;rw[a1]
   rw[ep];refine⟨i1.app (.cons a3 (by rw[<- a4];exact .nil)),by rw[qXD,i2,qRH,a5],by rw[A6,i4];rfl,L++[s],by rw[A6,i5];rfl,qJH i6 λhz=>?_,λx hx=>?_⟩
   ·obtain⟨_,w,w1,w2⟩:=i7 s hz
    lia
   ·rcases B7.mp hx with z|z
    ·obtain⟨j1,w,w1,w2⟩:=i7 x z;exact⟨j1,w,by lia,w2⟩
    ·rw[B3.mp z];exact⟨hs,v+1,B4 _,e⟩
def pthO (f:La->Nat)(g:La->PrO)(s:La):List Mo:=qG4 g (2*f s-cntO s) s
theorem qQO (R:RcO Ae wides sizes ks f)(b:PvO Ae wides sizes ks f g){s:La}(a:s∈ks):RunO Ae wides sizes (l0 sizes) (pthO f g s) s/\dosO (pthO f g s)=f s/\(pthO f g s).length+1<=ks.length:=by
 obtain⟨u,_,e⟩:=R.snd s a;have c:2*f s-cntO s=u:=by lia
 obtain⟨d,i,l,L,m,h,k⟩:=qO2 R b u s a e;unfold pthO;rw[c];refine⟨d,i,?_⟩;have:=qZG h (λx j=>(k x j).1) R.nd
 lia
end
theorem qFU {n k:Int} {m:Mo} (h:m∈prMo n k):m∈qBN n k:=by
 obtain⟨a,b⟩:=mem_prMo.mp h;obtain⟨d,w,r⟩:=m;refine u8.mpr ⟨r,mem_rangeI.mpr a,B7.mpr ?_⟩;rcases b with⟨c,e⟩|⟨c,e⟩
 ·have c:d=false:=c;have e:w=0:=e;subst c e;exact .inr (by simp)
 ·have c:d=true:=c;subst c;exact .inl (J8.mpr ⟨w,mem_rangeI.mpr e,rfl⟩)
theorem TKit.tinO {H:Hp} {a g d f h:Addr} {Ae:Aa0} {wides sizes:List Int} {b:La} {m:Mo} (T:TKit H a g d Ae wides sizes)(q:H f=some (.tup (b.map oV)))(r:b.length=sizes.length)(k:H h=some (.tup m.vs))(c:m∈qBN (Ae.length:Int) (sizes.length:Int)):
  ∃ns o s w,TIn H a g d f h Ae wides sizes b m ns o s w/\fwO Ae wides sizes b m=thW m ns b o s w:=by
 obtain⟨ns,o,s,w,I⟩:=T.tin q r k c;refine⟨ns,o,s,w,I,?_⟩;unfold fwO thW;have e:b.getD m.rm.toNat none=o:=by rw[J9,I.at_];rfl
 have p:sizes.getD m.rm.toNat 0=s:=by rw[J9,I.size];rfl
 cases hd:m.dk with
 |false=>dsimp only;rw[e]
 |true=>
  obtain⟨_,j,_,l⟩:=I.work hd;have i:Ae.getD m.wk.toNat []=ns:=by rw[J9,j];rfl
  have n:wides.getD m.wk.toNat 0=w:=by rw[J9,l];rfl
  dsimp only;rw[e,p,i,n]
theorem qWG (k:Nat):(F1 k [V.non]).flatten=(F1 k (none:Option Int)).map oV:=by
 induction k with
 |zero=>rfl
 |succ k ih=>rw[O7,V5,ih,O7];rfl
theorem qFS {K:Ab1} {H:Hp} {a:Addr} {sizes:List Int} {Q:VK} (b:H a=some (.tup [.non]))(f:1<=sizes.length)(d:sizes.length<=1000)(h:∀r H',Same H H'->H' r=some (.tup ((l0 sizes).map oV))->Q (.ref r) H'):qb1 K (.ref a) (.int (sizes.length:Int)) H Q:=by
 refine⟨a,_,[.non],rfl,rfl,Ac0 b,by simp,by lia,by lia,by decide,λe=>?_,λe p c=>?_⟩
 ·refine h a H (.refl _) ?_;unfold l0;rw[b,show sizes.length=1 from by lia]
  rfl
 ·refine h p _ (qA4 c _) ?_;unfold l0;rw[qA1,qWG,show((sizes.length:Int)).toNat=sizes.length from by lia]
theorem qR0 {H:Hp} {rs:List Addr} {ms:List Mo} {d:Addr} {o u:HO} (h:MosL H rs ms)(b:H d=some o)(a:∀xs,o≠.tup xs):MosL (Ag H d u) rs ms:=qCB h λr m e=>qC2 e b a
theorem qR5:∀a:List Int,HT.lexLt a a=false
 |[]=>rfl
 |x::a=>by rw[HT.lexLt_cons,if_pos rfl];exact qR5 a
theorem qGH:∀a b c:List Int,HT.lexLt a b=false->HT.lexLt b c=false->HT.lexLt a c=false
 |[],[],c,_,h=>h
 |[],_::_,c,h,_=>by cases h
 |x::a,[],[],_,_=>rfl
 |x::a,[],_::_,_,h=>by cases h
 |x::a,y::b,[],_,_=>rfl
 |x::a,y::b,z::c,h1,h2=>by
  rw[HT.lexLt_cons] at h1 h2 ⊢;by_cases e1:x=y
  ·subst e1;rw[if_pos rfl] at h1;by_cases e2:x=z
   ·rw[if_pos e2] at h2 ⊢;exact qGH a b c h1 h2
   ·rw[if_neg e2] at h2 ⊢;exact h2
  ·rw[if_neg e1] at h1;have h1:=of_decide_eq_false h1;by_cases e2:y=z
   ·subst e2;rw[if_neg e1];exact decide_eq_false h1
   ·rw[if_neg e2] at h2;have h2:=of_decide_eq_false h2;rw[if_neg (by lia)]
    exact decide_eq_false (by lia)
theorem qOD:∀a b:List Int,HT.lexLt a b=true->HT.lexLt b a=false
 |[],[],_=>rfl
 |[],_::_,_=>rfl
 |_::_,[],h=>by cases h
 |x::a,y::b,h=>by
  rw[HT.lexLt_cons] at h ⊢;by_cases e:x=y
  ·subst e;rw[if_pos rfl] at h ⊢;exact qOD a b h
  ·rw[if_neg e] at h;have h:=of_decide_eq_true h;rw[if_neg (by lia)]
   exact decide_eq_false (by lia)
theorem qHW:∀(r:List (V×List Int)) (b:V×List Int),∃k,(qF3 b r,k)∈b::r/\∀q∈b::r,HT.lexLt q.2 k=false
 |[],b=>⟨b.2,by simp[qF3],λq hq=>by rw[B3.mp hq];exact qR5 _⟩
 |x::r,b=>by
  by_cases e:HT.lexLt x.2 b.2=true
  ·obtain⟨k,h1,h2⟩:=qHW r x;have ep:qF3 b (x::r)=qF3 x r:=by rw[qF3,if_pos e]
   rw[ep];refine⟨k,C2 _ h1,λq hq=>?_⟩;rcases C0.mp hq with z|z
   ·rw[z];exact qGH _ _ _ (qOD _ _ e) (h2 x (by simp))
   ·exact h2 q z
  ·obtain⟨k,h1,h2⟩:=qHW r b;have ep:qF3 b (x::r)=qF3 b r:=by rw[qF3,if_neg e]
   rw[ep];refine⟨k,?_,λq hq=>?_⟩
   ·rcases C0.mp h1 with z|z
    ·rw[z];simp
    ·exact C2 _ (C2 _ z)
   ·rcases C0.mp hq with z|z
    ·exact h2 q (by rw[z];simp)
    ·rcases C0.mp z with z|z
     ·rw[z];exact qGH _ _ _ (V7.mpr e) (h2 b (by simp))
     ·exact h2 q (C2 _ z)
def qM9:Sp:=λvs H Q _=>∃(a wd sz la:Addr) (Ae:Aa0) (wides sizes:List Int) (lay:La),vs=[.ref a,.ref wd,.ref sz,.ref la]/\TKit H a wd sz Ae wides sizes/\H la=some (.tup (lay.map oV))/\lay.length=sizes.length/\
 ∀l rs H',Same H H'->H l=none->H' l=some (.lst (rs.map V.ref))->MosL H' rs (nxO Ae wides sizes lay)->Q (.ref l) H'
def qM7:Sp:=λvs H Q _=>∃(l:Addr) (rs:List Addr) (ms:List Mo),vs=[.ref l]/\H l=some (.lst (rs.map V.ref))/\MosL H rs ms/\ms.length<=20000/\∀H',Same H H'->Q (.int (dosO ms:Int)) H'
def qQD:Sp:=λvs H Q _=>∃(a wd sz:Addr) (Ae:Aa0) (wides sizes:List Int),vs=[.ref a,.ref wd,.ref sz]/\TKit H a wd sz Ae wides sizes/\
 ∀d o Af ks f g H',Same H H'->H d=none->H' d=some (.frz o (.dT Af))->EntO H' Af ks f g->RcO Ae wides sizes ks f->PvO Ae wides sizes ks f g->Q (.ref d) H'
def qT6:Sp:=λvs H Q _=>∃(d t:Addr) (o:Obj) (Af:KvO) (Ae:Aa0) (wides sizes:List Int) (ks:List La) (f:La->Nat) (g:La->PrO) (s:La),vs=[.ref d,.ref t]/\H d=some (.frz o (.dT Af))/\EntO H Af ks f g/\RcO Ae wides sizes ks f/\PvO Ae wides sizes ks f g/\ks.length<=20000/\H t=some (.tup (s.map oV))/\s∈ks/\
 ∀l rs H',Same H H'->H l=none->H' l=some (.lst (rs.map V.ref))->MosL H' rs (pthO f g s)->Q (.ref l) H'
def rk1:Option Int->Int
 |none=>-1
 |some x=>x
def rkO (l:La):List Int:=l.map rk1
def qT5:Sp:=λvs H Q _=>∃(la:Addr) (lay:La),vs=[.ref la]/\H la=some (.tup (lay.map oV))/\lay.length<=1000/\∀l H',Same H H'->H l=none->H' l=some (.lst ((rkO lay).map V.int))->Q (.ref l) H'
def TabO (H:Hp) (Pt:Addr):Prop:=H Pt=some (.tbl (.tab "least_there.<locals>.<lambda>"))
def LaysAt (H:Hp)(rs:List Addr)(L:List La):Prop:=Paired (λ(r:Addr) (s:La)=>H r=some (.tup (s.map oV))) rs L
theorem LaysAt.same {H H':Hp} {rs:List Addr} {L:List La} (h:LaysAt H rs L)(k:Same H H'):LaysAt H' rs L:=qCB h λr m e=>k _ _ e
theorem LaysAt.put {H:Hp} {rs:List Addr} {L:List La} {d:Addr} {o u:HO} (h:LaysAt H rs L)(b:H d=some o)(a:∀xs,o≠.tup xs):LaysAt (Ag H d u) rs L:=qCB h λr m e=>qC2 e b a
theorem LaysAt.snoc {H:Hp} {rs:List Addr} {L:List La} (h:LaysAt H rs L){r:Addr}{s:La}(g:H r=some (.tup (s.map oV))):LaysAt H (rs++[r]) (L++[s]):=Q5 h g
def qQF (Pt:Addr):Sp:=λvs H Q _=>∃(a wd sz t:Addr) (Ae:Aa0) (wides sizes Ad:List Int),vs=[.ref a,.ref wd,.ref sz,.ref t]/\TabO H Pt/\TKit H a wd sz Ae wides sizes/\H t=some (.tup (Ad.map V.int))/\Ad.length<=1000/\
 ∀ks f H',Same H H'->RcO Ae wides sizes ks f->
  ((∀s∈ks,¬ ∀x∈Ad,some x∈s)->∀T p rs L,H T=none->H' T=some (.tup [.str "none",.ref p])->H p=none->H' p=some (.lst (rs.map V.ref))->LaysAt H' rs L->L.Perm ks->L.Pairwise (λx y=>HT.lexLt (rkO y) (rkO x)=false)->Q (.ref T) H')/\
  ∀s,s∈ks->(∀x∈Ad,some x∈s)->(∀s'∈ks,(∀x∈Ad,some x∈s')->f s<=f s')->∀T p rs ms,H T=none->H' T=some (.tup [.str "plan",.ref p,.int (f s:Int)])->H p=none->H' p=some (.lst (rs.map V.ref))->MosL H' rs ms->RunO Ae wides sizes (l0 sizes) ms s->dosO ms=f s->ms.length<=16806->Q (.ref T) H'
theorem qQ3 (i j:Int):decide (V.int i=V.int j)=decide (i=j):=decide_eq_decide.mpr ⟨λz=>V.int.inj z,λz=>by rw[z]⟩
theorem qQ2 (i j:Str):decide (V.str i=V.str j)=decide (i=j):=decide_eq_decide.mpr ⟨λz=>V.str.inj z,λz=>by rw[z]⟩
theorem qM1 (n:Int)(j:Nat):(qBN n (j:Int)).length=j*(n.toNat+1):=by
 have s:∀j:Nat,qB6 0 ((j+1:Nat):Int)=qB6 0 (j:Int)++[0+(j:Int)]:=λj=>by
  unfold qB6;rw[show((((j+1:Nat):Int)-0).toNat)=j+1 from by lia,show(((j:Int)-0).toNat)=j from by lia,A56,C4]
  rfl
 induction j with
 |zero=>show(qBN n (0:Int)).length=0*(n.toNat+1);simp[qBN,qB6]
 |succ j ih=>
  have e:qBN n ((j+1:Nat):Int)=qBN n (j:Int)++(((qB6 0 n).map λa=>⟨true,a,0+(j:Int)⟩)++[⟨false,0,0+(j:Int)⟩]):=by
   unfold qBN;rw[s,A08];simp
  rw[e,A6,ih,A6,A0,qBZ,C1,B15]
  lia
def mvO (Ae:Aa0)(sizes:List Int)(k:Nat):Mo:=(qBN (Ae.length:Int) (sizes.length:Int)).getD k ⟨false,0,0⟩
def orO (Ae:Aa0)(sizes:List Int)(b:La)(k:Nat):La:=beO b (mvO Ae sizes k)
def canO (Ae:Aa0)(wides sizes:List Int)(b:La)(k:Nat):Prop:=k<(qBN (Ae.length:Int) (sizes.length:Int)).length/\(mvO Ae sizes k).dk=true/\fwO Ae wides sizes b (mvO Ae sizes k)=.non
inductive RmO (Ae:Aa0)(wides sizes:List Int):Nat->La->Prop
 |zero:RmO Ae wides sizes 0 (l0 sizes)
 |clr {m:Nat} {b:La} {k:Nat}:RmO Ae wides sizes m b->k<sizes.length->RmO Ae wides sizes m (b.set k none)
 |do_ {m:Nat} {b:La} {k:Nat}:RmO Ae wides sizes m b->canO Ae wides sizes b k->RmO Ae wides sizes (m+1) (orO Ae sizes b k)
def MnO (Ae:Aa0)(wides sizes:List Int)(m:Nat)(b:La):Prop:=RmO Ae wides sizes m b/\∀m',m'<m->¬RmO Ae wides sizes m' b
structure FdO (Ae:Aa0)(wides sizes:List Int)(many:Nat)(ks:List La)(f:La->Nat):Prop where
 nd:ks.Nodup
 snd:∀b∈ks,f b<=many/\MnO Ae wides sizes (f b) b
 zero:l0 sizes∈ks
 full:∀m,m<many->∀b,RmO Ae wides sizes m b->b∈ks
section
variable{Ae:Aa0}{wides sizes:List Int}{many:Nat}{ks cl ly:List La}{f:La->Nat}{at_ wk:Nat}
structure A1O (Ae:Aa0)(wides sizes:List Int)(many:Nat)(ks:List La)(f:La->Nat)(cl:List La)(at_ wk:Nat):Prop where
 fd:FdO Ae wides sizes many ks f
 dos:∀m b k,m+1=many->RmO Ae wides sizes m b->canO Ae wides sizes b k->(orO Ae sizes b k)∈ks
 clm:∀b,b∈cl↔b∈ks/\f b=many
 nd:cl.Nodup
 done:∀i b,cl[i]?=some b->i<at_->∀k,k<sizes.length->(b.set k none)∈ks
 dk:∀b,cl[at_]?=some b->∀k,k<wk->(b.set k none)∈ks
structure A2O (Ae:Aa0)(wides sizes:List Int)(many:Nat)(ks:List La)(f:La->Nat)(cl ly:List La)(at_ wk:Nat):Prop where
 fd:FdO Ae wides sizes (many+1) ks f
 clm:∀b,b∈cl↔b∈ks/\f b=many
 lym:∀b,b∈ly↔b∈ks/\f b=many+1
 nd:ly.Nodup
 done:∀i b,cl[i]?=some b->i<at_->∀k,canO Ae wides sizes b k->(orO Ae sizes b k)∈ks
 dk:∀b,cl[at_]?=some b->∀k,k<wk->canO Ae wides sizes b k->(orO Ae sizes b k)∈ks
structure ComeO (Ae:Aa0)(wides sizes:List Int)(ks:List La)(f:La->Nat):Prop where
 nd:ks.Nodup
 snd:∀b∈ks,MnO Ae wides sizes (f b) b
 all:∀m b,RmO Ae wides sizes m b->b∈ks
end
def wksO (l:La):List Int:=l.filterMap id
def FitO (wides sizes:List Int)(l:La):Prop:=(wksO l).Nodup/\∀(i:Nat) (w:Int),l[i]?=some (some w)->wides.getD w.toNat 0<=sizes.getD i 0
def JO (Ae:Aa0)(wides sizes Ad:List Int)(L:List La):Prop:=l0 sizes∈L/\∀l∈L,FitO wides sizes l/\(¬ ∀x∈Ad,some x∈l)/\∀m∈nxO Ae wides sizes l,beO l m∈L
noncomputable def lstB:PyData->Bool|.list _=>true|_=>false
def qS7:PyData->Bool|.tuple ds=>decide (ds.length=2)|_=>false
def qUE:PyData->Bool|.none=>true|.int _=>true|.bool _=>true|.str _=>true|_=>false
def isS (s:Str):PyData->Bool|.str t=>decide (t=s)|_=>false
def movD (n k:Int):PyData->Bool
 |.tuple [a,b]=>isS (B1 "clear") a&&qCK k b
 |.tuple [a,b,c]=>isS (B1 "do") a&&(qCK n b&&qCK k c)
 |_=>false
def laD (o:Option Int):PyData:=match o with|some i=>.int i|none=>.none
def layS (n:Int)(wides:List Int):List Int->List Int->List PyData->Bool
 |th,s::ss,.none::ds=>layS n wides th ss ds
 |th,s::ss,.int i::ds=>(decide (0<=i)&&decide (i<n))&&(decide (wides.getD i.toNat 0<=s)&&(decide (i∉th)&&layS n wides (th++[i]) ss ds))
 |_,_::_,_::_=>false
 |_,_,_=>true
def qFC (n:Int)(wides sizes:List Int):PyData->Bool|.tuple ds=>decide (ds.length=sizes.length)&&layS n wides [] sizes ds|_=>false
def unD:PyData->Option Int|.int i=>some i|_=>none
def dLa:PyData->La|.tuple ds=>ds.map unD|_=>[]
def qM2 (Ae:Aa0)(wides sizes Ad:List Int):PyData->Prop
 |.list ds=>ds.all (qFC (Ae.length:Int) wides sizes)=true/\JO Ae wides sizes Ad (ds.map dLa)
 |_=>False
def qVZ (Ae:Aa0)(wides sizes Ad:List Int):PyData->Prop
 |.tuple [a,b]=>isS (B1 "none") a=true/\qM2 Ae wides sizes Ad b
 |_=>False
def fstB:PyData->Bool|.tuple (d::_)=>qUE d|_=>true
def qV2:PyData->Bool|.list ds=>ds.all fstB|_=>true
noncomputable def lenB:PyData->Prop|.list ds=>ds.length<=20000|_=>True
def qPE:Sp:=λvs H Q _=>∃x n d,vs=[x]/\DatN H n x d/\Q (.bl (qS7 d)) H
def qT8:Sp:=λvs H Q _=>∃(a sz:Addr) (Ae:Aa0) (sizes:List Int) (x:V) (n:Nat) (d:PyData),vs=[.ref a,.ref sz,x]/\NetAt H a Ae/\H sz=some (.tup (sizes.map V.int))/\DatN H n x d/\fstB d=true/\∀H',Same H H'->Q (.bl (movD (Ae.length:Int) (sizes.length:Int) d)) H'
def qQH:Sp:=λvs H Q _=>∃(a wd sz:Addr) (Ae:Aa0) (wides sizes:List Int) (x:V) (n:Nat) (d:PyData),vs=[.ref a,.ref wd,.ref sz,x]/\TKit H a wd sz Ae wides sizes/\DatN H n x d/\∀H',Same H H'->Q (.bl (qFC (Ae.length:Int) wides sizes d)) H'
def qQE:Sp:=λvs H Q _=>∃(a wd sz t:Addr) (Ae:Aa0) (wides sizes Ad:List Int) (x:V) (n:Nat) (d:PyData),vs=[.ref a,.ref wd,.ref sz,.ref t,x]/\TKit H a wd sz Ae wides sizes/\H t=some (.tup (Ad.map V.int))/\Ad.length<=1000/\DatN H n x d/\lenB d/\
 ∀b H',Same H H'->(b=true↔qM2 Ae wides sizes Ad d)->Q (.bl b) H'
def qQB:Sp:=λvs H Q _=>∃(d c:Addr) (t:Int) (ns:List Int),vs=[.ref d]/\StAt H d c t ns/\t<=TB-20000/\
 ∀T a wd sz Ae wides sizes t' ns' H',StAt H' d c t' ns'->t<=t'->t'<=t+200->Keep d c H H'->H' T=some (.tup [.ref a,.ref wd,.ref sz])->TKit H' a wd sz Ae wides sizes->Q (.ref T) H'
theorem qHF {H:Hp} {n:Nat} {x:V} {d:PyData} (h:DatN H n x d)(l:qUE d=true):qEZ x d:=by
 cases n with
 |zero=>exact h
 |succ n=>
  rcases h with h|⟨b,a,xs,ds,rfl,rfl,_⟩
  ·exact h
  ·cases b<;>cases l
theorem qIY {x:V} {d:PyData} (s:Str)(h:qEZ x d):scal x (.str s)=true/\decide (x=.str s)=isS s d:=by
 rcases h with⟨rfl,rfl⟩|⟨b,rfl,rfl⟩|⟨i,rfl,rfl⟩|⟨y,rfl,rfl⟩
 ·exact⟨rfl,rfl⟩
 ·exact⟨rfl,rfl⟩
 ·exact⟨rfl,rfl⟩
 ·exact⟨rfl,decide_eq_decide.mpr ⟨V.str.inj,λe=>by rw[e]⟩⟩
theorem qK3 {α:Type} {xs:List α} (h:xs.length=2):∃a b,xs=[a,b]:=by
 match xs,h with
 |[a,b],_=>exact⟨a,b,rfl⟩
theorem qFD {α:Type} {xs:List α} (h:xs.length=3):∃a b c,xs=[a,b,c]:=by
 match xs,h with
 |[a,b,c],_=>exact⟨a,b,c,rfl⟩
theorem qbH {n k:Int} {ds:List PyData} (a:ds.length≠2)(b:ds.length≠3):movD n k (.tuple ds)=false:=by
 match ds,a,b with
 |[],_,_=>rfl
 |[_],_,_=>rfl
 |[_,_],h,_=>exact absurd rfl h
 |[_,_,_],_,h=>exact absurd rfl h
 |_::_::_::_::_,_,_=>rfl
theorem qPC {K:Ab1} {H:Hp} {n:Nat} {x:V} {d:PyData} (h:DatN H n x d):∃t,TyOf K H x t/\K0 K t (.type "list")=some (lstB d):=by
 have c:qEZ x d->∃t,TyOf K H x t/\K0 K t (.type "list")=some (lstB d):=by
  rintro(⟨rfl,rfl⟩|⟨b,rfl,rfl⟩|⟨i,rfl,rfl⟩|⟨y,rfl,rfl⟩)
  ·exact⟨_,.non,rfl⟩
  ·exact⟨_,.bl b,rfl⟩
  ·exact⟨_,.int i,rfl⟩
  ·exact⟨_,.str y,rfl⟩
 cases n with
 |zero=>exact c h
 |succ n=>
  rcases h with h|⟨b,a,xs,ds,rfl,rfl,h1,_⟩
  ·exact c h
  ·cases b
   ·exact⟨_,.lst h1,rfl⟩
   ·exact⟨_,.tup h1,rfl⟩
theorem qN7 {H:Hp} {n:Nat} {x:V} {d:PyData} (h:DatN H n x d)(e:lstB d=true):∃m a xs ds,n=m+1/\x=.ref a/\d=.list ds/\H a=some (.lst xs)/\xs.length=ds.length/\∀(i:Nat) (x':V) (d':PyData),xs[i]?=some x'->ds[i]?=some d'->DatN H m x' d':=by
 have c:¬qEZ x d:=by
  rintro(⟨rfl,rfl⟩|⟨b,rfl,rfl⟩|⟨i,rfl,rfl⟩|⟨y,rfl,rfl⟩)<;>cases e
 cases n with
 |zero=>exact absurd h c
 |succ n=>
  rcases h with h|⟨b,a,xs,ds,rfl,rfl,h1,h2,h3⟩
  ·exact absurd h c
  ·cases b
   ·exact⟨n,a,xs,ds,rfl,rfl,rfl,h1,h2,h3⟩
   ·cases e
theorem qQ4 {H:Hp} {n:Nat} {x:V} {d:PyData} (h:DatN H n x d):x=.non↔d=.none:=by
 have c:qEZ x d->(x=.non↔d=.none):=by
  rintro(⟨rfl,rfl⟩|⟨b,rfl,rfl⟩|⟨i,rfl,rfl⟩|⟨y,rfl,rfl⟩)
  ·exact⟨λ_=>rfl,λ_=>rfl⟩
  ·exact⟨λz=>(by cases z),λz=>(by cases z)⟩
  ·exact⟨λz=>(by cases z),λz=>(by cases z)⟩
  ·exact⟨λz=>(by cases z),λz=>(by cases z)⟩
 cases n with
 |zero=>exact c h
 |succ n=>
  rcases h with h|⟨b,a,xs,ds,rfl,rfl,_⟩
  ·exact c h
  ·exact⟨λz=>(by cases z),λz=>(by cases b<;>cases z)⟩
theorem qMR {n:Int} {wides th a:List Int} {s:Int} {d:PyData} {ds:List PyData} (h:d≠.none)(b:qCK n d=false):layS n wides th (s::a) (d::ds)=false:=by
 cases d with
 |none=>exact absurd rfl h
 |int i=>
  show((decide (0<=i)&&decide (i<n))&&_)=false;rw[show(decide (0<=i)&&decide (i<n))=false from b,O9]
 |_=>rfl
theorem qHL {n:Int} {d:PyData} (b:qCK n d=true):∃i,d=.int i/\0<=i/\i<n:=by
 cases d with
 |int i=>
  obtain⟨c,a⟩:=P4.mp (show(decide (0<=i)&&decide (i<n))=true from b);exact⟨i,rfl,of_decide_eq_true c,of_decide_eq_true a⟩
 |_=>cases b
theorem wks_mem {l:La} {w:Int} :w∈wksO l↔some w∈l:=by
 unfold wksO;rw[k7];exact⟨λ⟨a,h,e⟩=>by rw[show a=some w from e] at h;exact h,λh=>⟨_,h,rfl⟩⟩
def ItD (n:Int)(d:PyData):Prop:=d=.none\/∃i,d=.int i/\0<=i/\i<n
theorem qIZ {n:Int} {wides:List Int} :∀{ss:List Int} {ds:List PyData} {th:List Int},ds.length=ss.length->(layS n wides th ss ds=true↔(∀d∈ds,ItD n d)/\(wksO (ds.map unD)).Nodup/\(∀x∈wksO (ds.map unD),x∉th)/\∀(i:Nat) (w:Int),(ds.map unD)[i]?=some (some w)->wides.getD w.toNat 0<=ss.getD i 0)
 |[],[],th,_=>⟨λ_=>⟨λd h=>(nomatch h),A64,λx h=>(nomatch h),λi w h=>(nomatch h)⟩,λ_=>rfl⟩
 |s::ss,d::ds,th,h=>by
  have hl:ds.length=ss.length:=by simpa using h
  have shift:∀{o:Option Int},(∀w,o=some w->wides.getD w.toNat 0<=s)->((∀(i:Nat) (w:Int),(ds.map unD)[i]?=some (some w)->wides.getD w.toNat 0<=ss.getD i 0)↔∀(i:Nat) (w:Int),(o::ds.map unD)[i]?=some (some w)->wides.getD w.toNat 0<=(s::ss).getD i 0):=λ{o} h0=>by
   constructor
   ·intro h i w e;cases i with
    |zero=>exact h0 w (D7 e)
    |succ i=>exact h i w e
   ·intro h i w e;exact h (i+1) w e
  have bad:layS n wides th (s::ss) (d::ds)=false->¬ItD n d->(layS n wides th (s::ss) (d::ds)=true↔(∀d'∈d::ds,ItD n d')/\(wksO ((d::ds).map unD)).Nodup/\(∀x∈wksO ((d::ds).map unD),x∉th)/\∀(i:Nat) (w:Int),((d::ds).map unD)[i]?=some (some w)->wides.getD w.toNat 0<=(s::ss).getD i 0):=
   λe c=>⟨λz=>(by rw[e] at z;cases z),λz=>absurd (z.1 d (F6 ..)) c⟩
  cases d with
  |none=>
   refine(qIZ (n:=n) (wides:=wides) (th:=th) hl).trans ?_;refine and_congr ?_ (and_congr Iff.rfl (and_congr Iff.rfl (shift λw z=>nomatch z)));exact⟨λz d hd=>(C0.mp hd).elim (λe=>.inl e) (z d),λz d hd=>z d (C2 _ hd)⟩
  |int i=>
   have e:layS n wides th (s::ss) (.int i::ds)=((decide (0<=i)&&decide (i<n))&&(decide (wides.getD i.toNat 0<=s)&&(decide (i∉th)&&layS n wides (th++[i]) ss ds))):=rfl;have ew:wksO ((B54 i::ds).map unD)=i::wksO (ds.map unD):=rfl;rw[e,ew,L3,L3,L3,L3,decide_eq_true_eq,decide_eq_true_eq,decide_eq_true_eq,decide_eq_true_eq,qIZ (n:=n) (wides:=wides) hl,W1]
   constructor
   ·rintro⟨⟨a,b⟩,c,g,k,l,m,o⟩;refine⟨λd hd=>?_,⟨λz=>m i z (B7.mpr (.inr (B3.mpr rfl))),l⟩,λx hx=>?_,(shift λw z=>by rw[<- D7 z];exact c).mp o⟩
    ·rcases C0.mp hd with e|e
     ·exact .inr ⟨i,e,a,b⟩
     ·exact k d e
    ·rcases C0.mp hx with e|e
     ·rw[e];exact g
     ·exactλz=>m x e (B7.mpr (.inl z))
   ·rintro⟨a,⟨b,c⟩,g,k⟩;have hi:0<=i/\i<n:=by
     rcases a _ (F6 ..) with z|⟨j,z,r⟩
     ·cases z
     ·cases z;exact r
    have k0:=k 0 i rfl;refine⟨hi,k0,g i (F6 ..),λd hd=>a d (C2 _ hd),c,λx hx z=>?_,(shift λw z=>by rw[<- D7 z];exact k0).mpr k⟩
    rcases B7.mp z with z|z
    ·exact g x (C2 _ hx) z
    ·rw[B3.mp z] at hx;exact b hx
  |_=>exact bad rfl λz=>by rcases z with z|⟨j,z,_⟩<;>cases z
theorem qUH {n:Int} {wides sizes:List Int} {H:Hp} {m:Nat} {x:V} {d:PyData} (D:DatN H m x d)(h:qFC n wides sizes d=true):∃r,x=.ref r/\H r=some (.tup ((dLa d).map oV))/\(dLa d).length=sizes.length/\LayOk n (dLa d)/\FitO wides sizes (dLa d):=by
 have c:tupB d=true:=by cases d<;>first|rfl|cases h
 obtain⟨k,r,p,g,rfl,rfl,rfl,gr,lx,u⟩:=qDV D c;obtain⟨q,v⟩:=P4.mp (show(decide (g.length=sizes.length)&&layS n wides [] sizes g)=true from h);obtain⟨a,b,_,f⟩:=(qIZ (of_decide_eq_true q)).mp v;have ex:p=(g.map unD).map oV:=by
  refine B10 λi=>?_;rw[C6,C6];by_cases s:i<g.length
  ·have o:=B0 s;have t:=B0 (show i<p.length by lia)
   have l:=u i _ _ t o;rw[o,t];rcases a _ (Q9 s) with z|⟨j,z,_⟩
   ·rw[z] at l ⊢;rw[(qQ4 l).mpr rfl]
    rfl
   ·rw[z] at l ⊢;obtain⟨j2,e1,e2⟩:=qI5 l rfl;cases e2;rw[e1]
    rfl
  ·rw[R8 (by lia),R8 (by lia)]
   rfl
 refine⟨r,rfl,by rw[gr,ex];rfl,?_,λw y=>?_,b,f⟩
 ·show(g.map unD).length=_;rw[A0];exact of_decide_eq_true q
 ·obtain⟨d,o,e⟩:=J8.mp (show some w∈g.map unD from y);rcases a d o with z|⟨j,z,r⟩
  ·rw[z] at e;cases e
  ·rw[z] at e;cases e;exact r
theorem qXN (l:La):dLa (layD l)=l:=by
 show(l.map _).map unD=l;rw[X3]
 conv=>rhs;rw[<- A79 l]
 refine W6 λo _=>?_;cases o<;>rfl
theorem qXY (l:La):layD l=.tuple (l.map laD):=congrArg PyData.tuple (W6 λo _=>by cases o<;>rfl)
theorem qbP {n:Int} {wides sizes:List Int} {l:La} (a:l.length=sizes.length)(c:LayOk n l)(f:FitO wides sizes l):qFC n wides sizes (layD l)=true:=by
 have e:(l.map laD).map unD=l:=by have:=qXN l;rw[qXY] at this;exact this
 rw[qXY];refine P4.mpr ⟨decide_eq_true (by rw[A0];exact a),(qIZ (by rw[A0];exact a)).mpr ?_⟩
 rw[e];refine⟨λd g=>?_,f.1,λx _ z=>(nomatch z),f.2⟩;obtain⟨o,b,rfl⟩:=J8.mp g;cases o with
 |none=>exact .inl rfl
 |some x=>exact .inr ⟨x,rfl,c x b⟩
def addO (ks:List La)(s:La):List La:=if s∈ks then ks else ks++[s]
def kvB (ks:List La):KvO:=ks.map λs=>(keyO s,V.bl true)
theorem qUJ {s:La} :∀ks:List La,valV (kvB ks) (keyO s)=if s∈ks then some (.bl true) else none
 |[]=>rfl
 |x::ks=>by
  by_cases e:s=x
  ·subst e;rw[if_pos (F6 ..)];exact qEJ rfl
  ·have h:valV (kvB (x::ks)) (keyO s)=valV (kvB ks) (keyO s):=qEK λz=>e (qH0 z).symm;rw[h,qUJ ks];by_cases c:s∈ks
   ·rw[if_pos c,if_pos (C2 _ c)]
   ·rw[if_neg c,if_neg λz=>(C0.mp z).elim e c]
theorem qUK (ks:List La)(s:La):(valV (kvB ks) (keyO s)).isSome=decide (s∈ks):=by
 rw[qUJ];by_cases c:s∈ks
 ·rw[if_pos c,decide_eq_true c];rfl
 ·rw[if_neg c,decide_eq_false c];rfl
theorem qZK (ks:List La)(s:La):putK (kvB ks) (keyO s) (.bl true)=kvB (addO ks s):=by
 have d:((kvB ks).any λa=>decide (a.1=keyO s))=decide (s∈ks):=by
  rw[R4,decide_eq_true_eq,t9]
  constructor
  ·rintro⟨a,c,f⟩;obtain⟨y,b,rfl⟩:=J8.mp c;rw[<- qH0 (of_decide_eq_true f)];exact b
  ·intro g;exact⟨_,J8.mpr ⟨s,g,rfl⟩,decide_eq_true rfl⟩
 unfold putK addO;rw[d];by_cases e:s∈ks
 ·rw[decide_eq_true e,if_pos rfl,if_pos e]
  conv=>rhs;rw[<- A79 (kvB ks)]
  refine W6 λa h=>?_;obtain⟨y,b,rfl⟩:=J8.mp h;dsimp only[id]
  split<;>rfl
 ·rw[decide_eq_false e,if_neg (by decide),if_neg e]
  unfold kvB;rw[C4]
  rfl
theorem qXH {ks:List La} {s x:La} :x∈addO ks s↔x∈ks\/x=s:=by
 unfold addO;by_cases e:s∈ks
 ·rw[if_pos e];exact⟨.inl,λh=>h.elim id λz=>by rw[z];exact e⟩
 ·rw[if_neg e,B7,B3]
theorem qXI (ks:List La)(s:La):(addO ks s).length<=ks.length+1:=by
 unfold addO
 split
 ·lia
 ·rw[A6];exact B4 _
theorem adds_mem {x:La} :∀{L ks:List La},x∈L.foldl addO ks↔x∈ks\/x∈L
 |[],ks=>⟨.inl,λh=>h.elim id λz=>nomatch z⟩
 |s::L,ks=>by
  rw[W3,adds_mem (L:=L),qXH,C0,or_assoc]
theorem qRP:∀{L ks:List La},(L.foldl addO ks).length<=ks.length+L.length
 |[],ks=>B4 _
 |s::L,ks=>by
  have:=qRP (L:=L) (ks:=addO ks s);have:=qXI ks s;rw[W3,J7]
  lia
def qKV (L:List La):List La:=L.foldl addO []
theorem once_mem {L:List La} {x:La} :x∈qKV L↔x∈L:=adds_mem.trans ⟨λh=>h.elim (λz=>nomatch z) id,.inr⟩
theorem qQW (L:List La):(qKV L).length<=L.length:=by
 have:(qKV L).length<=([]:List La).length+L.length:=qRP;simpa using this
theorem qU5 {L:List La} {i:Nat} {s:La} (h:L[i]?=some s):qKV (L.take (i+1))=addO (qKV (L.take i)) s:=by
 unfold qKV;rw[E8,h,E9,B05]
 rfl
theorem qZM {Ae:Aa0} {wides sizes Ad:List Int} {L:List La} :JO Ae wides sizes Ad (qKV L)↔JO Ae wides sizes Ad L:=by
 unfold JO
 constructor
 ·rintro⟨a,b⟩;exact⟨once_mem.mp a,λl g=>let⟨c,d,e⟩:=b l (once_mem.mpr g);⟨c,d,λm f=>once_mem.mp (e m f)⟩⟩
 ·rintro⟨a,b⟩;exact⟨once_mem.mpr a,λl g=>let⟨c,d,e⟩:=b l (once_mem.mp g);⟨c,d,λm f=>once_mem.mpr (e m f)⟩⟩
def qdX (Ae:Aa0)(sizes:List Int)(L:List La):Prop:=∀s∈L,s.length=sizes.length/\LayOk (Ae.length:Int) s
theorem qEH {n k:Int} {m:Mo} (h:m∈qBN n k):m∈prMo n k:=by
 obtain⟨c,a,h⟩:=u8.mp h;rcases B7.mp h with h|h
 ·obtain⟨d,b,rfl⟩:=J8.mp h;exact mem_prMo.mpr ⟨mem_rangeI.mp a,.inr ⟨rfl,mem_rangeI.mp b⟩⟩
 ·rw[B3.mp h];exact mem_prMo.mpr ⟨mem_rangeI.mp a,.inl ⟨rfl,rfl⟩⟩
theorem qXE {H:Hp} {l:Addr} {rs:List Addr} {L:List La} (d:H l=some (.lst (rs.map V.ref)))(LA:LaysAt H rs L):DatN H 2 (.ref l) (.list (L.map layD)):=by
 refine .inr ⟨false,l,_,xR rfl ⟨rfl,d,by rw[A0,A0,C5 LA],λi h f c a=>?_⟩⟩
 obtain⟨r,b,rfl⟩:=qC3 c;obtain⟨z,e,g⟩:=qAN LA b;rw[C6,e] at a;cases a;exact qZZ g
theorem qZY {H:Hp} {T:Addr} {x y:V} {n:Nat} {dx b:PyData} (g:H T=some (.tup [x,y]))(d:DatN H n x dx)(e:DatN H n y b):DatN H (n+1) (.ref T) (.tuple [dx,b]):=by
 refine .inr ⟨true,T,_,xR rfl ⟨rfl,g,rfl,λi h f a c=>?_⟩⟩;rcases i with _|_|i
 ·cases a;cases c;exact d
 ·cases a;cases c;exact e
 ·cases a
theorem qTG {Ae:Aa0} {wides sizes Ad:List Int} {L:List La} (b:qdX Ae sizes L):qVZ Ae wides sizes Ad (.tuple [.str (B1 "none"),.list (L.map layD)])↔JO Ae wides sizes Ad L:=by
 have e:(L.map layD).map dLa=L:=by
  rw[X3]
  conv=>rhs;rw[<- A79 L]
  exact W6 λs _=>qXN s
 have k:qVZ Ae wides sizes Ad (.tuple [.str (B1 "none"),.list (L.map layD)])=(isS (B1 "none") (.str (B1 "none"))=true/\(L.map layD).all (qFC (Ae.length:Int) wides sizes)=true/\JO Ae wides sizes Ad ((L.map layD).map dLa)):=rfl;rw[k,e];refine⟨λz=>z.2.2,λz=>⟨show decide (B1 "none" = B1 "none")=true from decide_eq_true rfl,L7.mpr λd c=>?_,z⟩⟩;obtain⟨s,a,rfl⟩:=J8.mp c;exact qbP (b s a).1 (b s a).2 (z.2 s a).1
theorem StAt.own {H:Hp} {d c p:Addr} {t:Int} {ns:List Int} {u:HO} (S:StAt H d c t ns)(n:p≠d/\p≠c):StAt (Ag H p u) d c t ns:=
 ⟨by rw[qAB n.1.symm];exact S.dict,by rw[qAB n.2.symm];exact S.list,S.ne,S.len,S.pos⟩
theorem Keep.own {H H':Hp} {d c p:Addr} {u:HO} (k:Keep d c H H')(n:H p=none):Keep d c H (Ag H' p u):=λb o e f a=>by
 rw[qAB λz=>by rw[z,n] at e;cases e]
 exact k b o e f a
theorem qCT {α:Type} {xs:List α} {lo hi:Option Int} :(∀x∈cutI xs lo hi,x∈xs)/\(cutI xs lo hi).length<=xs.length:=by
 unfold cutI;refine⟨λx a=>Q7 (Q8 a),?_⟩;rw[C9,J2]
 lia
def At (H:Hp)(x:V)(d:PyData):Prop:=∃n,DatN H n x d
theorem At.leaf {H:Hp} {x:V} {d:PyData} (h:qEZ x d):At H x d:=⟨0,h⟩
theorem At.str {H:Hp} {s:Str} :At H (.str s) (.str s):=.leaf (.inr (.inr (.inr ⟨_,rfl,rfl⟩)))
theorem At.int {H:Hp} {i:Int} :At H (.int i) (.int i):=.leaf (.inr (.inr (.inl ⟨_,rfl,rfl⟩)))
theorem qY9 {H:Hp} {x:V} {d:PyData} {n m:Nat} (h:DatN H n x d)(l:n<=m):DatN H m x d:=by
 obtain⟨k,rfl⟩:=Nat.exists_eq_add_of_le l
 induction k with
 |zero=>exact h
 |succ k ih=>exact(ih (by lia)).up
theorem At.seq {H:Hp} {a:Addr} {b:Bool} {xs:List V} {ds:List PyData} (g:H a=some (seqO b xs))(h:Paired (λx d=>At H x d) xs ds):At H (.ref a) (seqD b ds):=by
 have f:∃n,Paired (λx d=>DatN H n x d) xs ds:=by
  clear g
  induction h with
  |nil=>exact⟨0,.nil⟩
  |cons x _ ih=>
   obtain⟨n,c⟩:=x;obtain⟨m,o⟩:=ih;exact⟨max n m,.cons (qY9 c (by lia)) (qCB o λ_ _ e=>qY9 e (by lia))⟩
 obtain⟨n,c⟩:=f;refine⟨n+1,.inr ⟨b,a,xs,ds,rfl,rfl,g,C5 c,λi r q p j=>?_⟩⟩;obtain⟨s,k,l⟩:=qAN c p;rw[k] at j;rw[<- D7 j];exact l
theorem At.tup {H:Hp} {a:Addr} {xs:List V} {ds:List PyData} (g:H a=some (.tup xs))(h:Paired (λx d=>At H x d) xs ds):At H (.ref a) (.tuple ds):=At.seq (b:=true) g h
theorem At.lst {H:Hp} {a:Addr} {xs:List V} {ds:List PyData} (g:H a=some (.lst xs))(h:Paired (λx d=>At H x d) xs ds):At H (.ref a) (.list ds):=At.seq (b:=false) g h
theorem qAI {H:Hp} {p:Addr} (h:H p=none)(o:HO):∃G,Ag H p o=G/\Same H G/\G p=some o:=⟨_,rfl,qA4 h o,qA1⟩
def moD (m:Mo):PyData:=match m.dk with|true=>.tuple [.str (B1 "do"),.int m.wk,.int m.rm]|false=>.tuple [.str (B1 "clear"),.int m.rm]
section
variable{n k:Int}{Ae:Aa0}{wides sizes Ad:List Int}
theorem qY2 {s:Str} {d:PyData} (h:isS s d=true):d=.str s:=by
 cases d with
 |str t=>exact congrArg B55 (of_decide_eq_true h)
 |_=>cases h
theorem qbG {d:PyData} (h:movD n k d=true):∃m∈qBN n k,d=moD m:=by
 match d,h with
 |.tuple [a,b],h=>
  obtain⟨f,e⟩:=P4.mp (show(isS (B1 "clear") a&&qCK k b)=true from h);obtain⟨i,rfl,l,g⟩:=qHL e;rw[qY2 f];exact⟨⟨false,0,i⟩,qFU (mem_prMo.mpr ⟨⟨l,g⟩,.inl ⟨rfl,rfl⟩⟩),rfl⟩
 |.tuple [a,b,c],h=>
  obtain⟨f,e⟩:=P4.mp (show(isS (B1 "do") a&&(qCK n b&&qCK k c))=true from h)
  obtain⟨e,p⟩:=P4.mp e;obtain⟨i,rfl,l,g⟩:=qHL e;obtain⟨j,rfl,q,o⟩:=qHL p;rw[qY2 f];exact⟨⟨true,i,j⟩,qFU (mem_prMo.mpr ⟨⟨q,o⟩,.inr ⟨rfl,l,g⟩⟩),rfl⟩
theorem qbI {m:Mo} (h:m∈qBN n k):movD n k (moD m)=true:=by
 obtain⟨⟨o,l⟩,w⟩:=mem_prMo.mp (qEH h);obtain⟨d,j,f⟩:=m;have p:∀s,isS s (.str s)=true:=λs=>decide_eq_true rfl;have g:∀{e i:Int},0<=i->i<e->qCK e (.int i)=true:=λ{e i} a b=>by
  show(decide (0<=i)&&decide (i<e))=true;rw[decide_eq_true a,decide_eq_true b];rfl
 rcases w with⟨c,q⟩|⟨c,q,r⟩
 ·have c:d=false:=c;subst c;have e:movD n k (moD ⟨false,j,f⟩)=(isS (B1 "clear") (.str (B1 "clear"))&&qCK k (.int f)):=rfl;rw[e,p,g o l];rfl
 ·have c:d=true:=c;subst c;have e:movD n k (moD ⟨true,j,f⟩)=(isS (B1 "do") (.str (B1 "do"))&&(qCK n (.int j)&&qCK k (.int f))):=rfl
  rw[e,p,g q r,g o l];rfl
theorem qR1 {m c:Mo} (h:m∈qBN n k)(h':c∈qBN n k)(e:moD m=moD c):m=c:=by
 obtain⟨_,w⟩:=mem_prMo.mp (qEH h);obtain⟨_,a⟩:=mem_prMo.mp (qEH h');obtain⟨d,j,g⟩:=m;obtain⟨i,f,b⟩:=c;dsimp only at w a;cases d<;>cases i
 ·injection e with e
  injection e with _ e
  injection e with e _
  injection e with e
  rcases w with⟨_,w⟩|⟨w,_⟩
  ·rcases a with⟨_,a⟩|⟨a,_⟩
   ·have e:g=b:=e;rw[e,w,a]
   ·cases a
  ·cases w
 ·injection e with e
  injection e with _ e
  injection e with _ e
  cases e
 ·injection e with e
  injection e with _ e
  injection e with _ e
  cases e
 ·injection e with e
  injection e with _ e
  injection e with e1 e
  injection e with e2 _
  injection e1 with e1
  injection e2 with e2
  have e1:j=f:=e1;have e2:g=b:=e2;rw[e1,e2]
theorem qIF {l:La} {m:Mo} (h:m∈nxO Ae wides sizes l):m∈qBN (Ae.length:Int) (sizes.length:Int):=qFU (Q4.mp h).1
theorem qTI {a b:La} {ms:List Mo} (h:RunO Ae wides sizes a ms b):∀m∈ms,m∈qBN (Ae.length:Int) (sizes.length:Int):=by
 induction h with
 |nil=>exactλm c=>nomatch c
 |cons hi _ ih=>exactλm c=>(C0.mp c).elim (λe=>e▸qIF hi) (ih m)
theorem qME {a b d:La} {ms c:List Mo} (h:RunO Ae wides sizes a ms b)(h':RunO Ae wides sizes a c d)(e:ms.map moD=c.map moD):ms=c/\b=d:=by
 induction h generalizing c with
 |nil=>
  cases h' with
  |nil=>exact⟨rfl,rfl⟩
  |cons _ _=>cases e
 |@cons l l' m ms hi _ ih=>
  cases h' with
  |nil=>cases e
  |@cons _ _ m' c hi' r'=>
   rw[D8,D8] at e
   injection e with e1 e2
   have:=qR1 (qIF hi) (qIF hi') e1;subst this;obtain⟨f,g⟩:=ih r' e2;exact⟨by rw[f],g⟩
theorem qQM {a b s:La} {ms c:List Mo} {d:PyData} {ds:List PyData} (h:RunO Ae wides sizes a ms b)(f:∀m∈nxO Ae wides sizes b,d≠moD m)(h':RunO Ae wides sizes a c s)(e:ms.map moD++d::ds=c.map moD):False:=by
 induction h generalizing c with
 |nil=>
  cases h' with
  |nil=>cases e
  |cons hi' _=>
   rw[D8] at e
   injection e with e1 _
   exact f _ hi' e1
 |@cons l l' m ms hi _ ih=>
  cases h' with
  |nil=>cases e
  |@cons _ _ m' c hi' r'=>
   rw[D8,D8,A43] at e
   injection e with e1 e2
   have:=qR1 (qIF hi) (qIF hi') e1;subst this;exact ih f r' e2
def qSU (Ae:Aa0)(wides sizes Ad:List Int)(ms:List Mo):Prop:=∃s,RunO Ae wides sizes (l0 sizes) ms s/\∀x∈Ad,some x∈s
def qdW (Ae:Aa0)(wides sizes Ad:List Int)(d:PyData):Prop:=∃ms,d=.list (ms.map moD)/\qSU Ae wides sizes Ad ms
def qKI (Ae:Aa0)(wides sizes Ad:List Int):PyData->Prop
 |.tuple [a,b]=>isS (B1 "none") a=true/\qM2 Ae wides sizes Ad b
 |.tuple [a,b,c]=>isS (B1 "plan") a=true/\∃ms,b=.list (ms.map moD)/\qSU Ae wides sizes Ad ms/\c=.int (dosO ms:Int)
 |_=>False
def OkP:PyData->Prop
 |.tuple [a,b]=>qUE a=true/\lenB b
 |.tuple [a,b,c]=>qUE a=true/\(isS (B1 "plan") a=true->qV2 b=true/\lenB b)
 |_=>True
theorem qJ4 {H:Hp} {j:Nat} {x:V} {s:Str} (h:DatN H j x (.str s)):x=.str s:=by
 rcases qHF h rfl with⟨_,z⟩|⟨_,_,z⟩|⟨_,_,z⟩|⟨_,e,z⟩
 ·cases z
 ·cases z
 ·cases z
 ·cases z;exact e
theorem qJ5 {H:Hp} {j:Nat} {x:V} {i:Int} (h:DatN H j x (.int i)):x=.int i:=by
 obtain⟨a,e,z⟩:=qI5 h rfl;cases z;exact e
theorem qVG {H:Hp} {j:Nat} {x:V} {m:Mo} (h:DatN H j x (moD m)):∃r,x=.ref r/\H r=some (.tup m.vs):=by
 obtain⟨d,o,p⟩:=m;cases d
 ·obtain⟨k,r,i,f,rfl,rfl,e,g,l,a⟩:=qDV h rfl
  injection e with e
  subst e;obtain⟨b,c,rfl⟩:=qK3 l;refine⟨r,rfl,?_⟩;rw[g,qJ4 (a 0 b _ rfl rfl),qJ5 (a 1 c _ rfl rfl)]
  rfl
 ·obtain⟨k,r,i,f,rfl,rfl,e,g,l,a⟩:=qDV h rfl
  injection e with e
  subst e;obtain⟨b,c,n,rfl⟩:=qFD l;refine⟨r,rfl,?_⟩;rw[g,qJ4 (a 0 b _ rfl rfl),qJ5 (a 1 c _ rfl rfl),qJ5 (a 2 n _ rfl rfl)]
  rfl
theorem qRJ {H:Hp} {j:Nat} {x:V} {ms:List Mo} (h:DatN H j x (.list (ms.map moD))):∃l rs,x=.ref l/\H l=some (.lst (rs.map V.ref))/\MosL H rs ms:=by
 obtain⟨k,l,c,p,rfl,rfl,e,g,n,d⟩:=qN7 h rfl
 injection e with e
 subst e;have f:∀(ms:List Mo) (c:List V),c.length=ms.length->(∀(i:Nat) (x':V) (m:Mo),c[i]?=some x'->ms[i]?=some m->DatN H k x' (moD m))->∃rs:List Addr,c=rs.map V.ref/\MosL H rs ms:=by
  intro ms
  induction ms with
  |nil=>exactλc l _=>⟨[],Q1 l,.nil⟩
  |cons m ms ih=>
   intro c l h;cases c with
   |nil=>cases l
   |cons x c=>
    obtain⟨r,rfl,g⟩:=qVG (h 0 _ _ rfl rfl);obtain⟨rs,rfl,M⟩:=ih c (Nat.succ.inj l) λi x' o a b=>h (i+1) x' o a b;exact⟨r::rs,rfl,.cons g M⟩
 obtain⟨rs,rfl,M⟩:=f ms c (by rw[n,A0]) λi x' m a b=>d i x' _ a (by rw[C6,b];rfl)
 exact⟨l,rs,rfl,g,M⟩
theorem qbE {l:La} {m:Mo} (h:m∈qBN (Ae.length:Int) (sizes.length:Int))(e:fwO Ae wides sizes l m=.non):m∈nxO Ae wides sizes l:=Q4.mpr ⟨qEH h,decide_eq_true e⟩
def qTB:Sp:=λvs H Q _=>∃(a wd sz t:Addr) (Ae:Aa0) (wides sizes Ad:List Int) (x:V) (n:Nat) (d:PyData),vs=[.ref a,.ref wd,.ref sz,.ref t,x]/\TKit H a wd sz Ae wides sizes/\H t=some (.tup (Ad.map V.int))/\Ad.length<=1000/\DatN H n x d/\qV2 d=true/\lenB d/\
 ∀b H',Same H H'->(b=true↔qdW Ae wides sizes Ad d)->Q (.bl b) H'
def qM8:Sp:=λvs H Q _=>∃(a wd sz t:Addr) (Ae:Aa0) (wides sizes Ad:List Int) (x:V) (n:Nat) (d:PyData),vs=[.ref a,.ref wd,.ref sz,.ref t,x]/\TKit H a wd sz Ae wides sizes/\H t=some (.tup (Ad.map V.int))/\Ad.length<=1000/\DatN H n x d/\OkP d/\
 ∀b H',Same H H'->(b=true↔qKI Ae wides sizes Ad d)->Q (.bl b) H'
def SmL (e:PyData):Prop:=(∃i,e=.int i)\/∃s,e=.str s
def SmD:Nat->PyData->Prop
 |0,e=>SmL e
 |n+1,e=>SmL e\/∃es,e=.tuple es/\es.length<=100000/\∀e'∈es,SmD n e'
def qcZ (n:Nat):Sp:=λvs H Q _=>∃(x y:V) (j k:Nat) (d e:PyData),vs=[x,y]/\DatN H j x d/\DatN H k y e/\SmD n e/\∀b H',Same H H'->(b=true↔d=e)->Q (.bl b) H'
theorem qd1 (m:Mo):SmD 1 (moD m):=by
 obtain⟨d,b,a⟩:=m;cases d
 ·refine .inr (xR rfl ⟨(by show 2<=100000;decide),λe he=>?_⟩)
  rcases C0.mp he with rfl|he
  ·exact .inr ⟨_,rfl⟩
  rw[B3.mp he];exact .inl ⟨_,rfl⟩
 ·refine .inr (xR rfl ⟨(by show 3<=100000;decide),λe he=>?_⟩)
  rcases C0.mp he with rfl|he
  ·exact .inr ⟨_,rfl⟩
  rcases C0.mp he with rfl|he
  ·exact .inl ⟨_,rfl⟩
  rw[B3.mp he];exact .inl ⟨_,rfl⟩
theorem qR2 {H:Hp} {r:Addr} {m:Mo} (g:H r=some (.tup m.vs)):DatN H 1 (.ref r) (moD m):=by
 obtain⟨d,f,h⟩:=m;cases d
 ·refine .inr ⟨true,r,_,xR rfl ⟨rfl,g,rfl,λi e c a b=>?_⟩⟩;rcases i with _|_|i
  ·cases a;cases b;exact .inr (.inr (.inr (xR rfl rfl)))
  ·cases a;cases b;exact .inr (.inr (.inl (xR rfl rfl)))
  ·cases a
 ·refine .inr ⟨true,r,_,xR rfl ⟨rfl,g,rfl,λi e c a b=>?_⟩⟩;rcases i with _|_|_|i
  ·cases a;cases b;exact .inr (.inr (.inr (xR rfl rfl)))
  ·cases a;cases b;exact .inr (.inr (.inl (xR rfl rfl)))
  ·cases a;cases b;exact .inr (.inr (.inl (xR rfl rfl)))
  ·cases a
def strB:PyData->Bool|.str _=>true|_=>false
theorem qYN {K:Ab1} {H:Hp} {n:Nat} {x:V} {d:PyData} (h:DatN H n x d):∃t,TyOf K H x t/\K0 K t (.type "str")=some (strB d):=by
 have c:qEZ x d->∃t,TyOf K H x t/\K0 K t (.type "str")=some (strB d):=by
  rintro(⟨rfl,rfl⟩|⟨b,rfl,rfl⟩|⟨i,rfl,rfl⟩|⟨y,rfl,rfl⟩)
  ·exact⟨_,.non,rfl⟩
  ·exact⟨_,.bl b,rfl⟩
  ·exact⟨_,.int i,rfl⟩
  ·exact⟨_,.str y,rfl⟩
 cases n with
 |zero=>exact c h
 |succ n=>
  rcases h with h|⟨b,a,xs,ds,rfl,rfl,h1,_⟩
  ·exact c h
  ·cases b
   ·exact⟨_,.lst h1,rfl⟩
   ·exact⟨_,.tup h1,rfl⟩
def qT9:Sp:=λvs H Q _=>∃(a wd sz l:Addr) (Ae:Aa0) (wides sizes:List Int) (n:Nat) (xs:List V) (ds:List PyData),vs=[.ref a,.ref wd,.ref sz,.ref l]/\TKit H a wd sz Ae wides sizes/\H l=some (.lst xs)/\xs.length=ds.length/\(∀(i:Nat) (x':V) (d':PyData),xs[i]?=some x'->ds[i]?=some d'->DatN H n x' d')/\
 (∀ms s,ds=ms.map moD->RunO Ae wides sizes (l0 sizes) ms s->∀r H',Same H H'->H' r=some (.tup (s.map oV))->s.length=sizes.length->Q (.ref r) H')/\
 ((∀ms s,ds=ms.map moD->¬RunO Ae wides sizes (l0 sizes) ms s)->∀H',Same H H'->Q .non H')
theorem qTF:∀{n:Nat} {e:PyData},SmD n e->SmD (n+1) e
 |0,_,h=>.inl h
 |n+1,_,.inl h=>.inl h
 |n+1,_,.inr ⟨es,h1,h2,h3⟩=>.inr ⟨es,h1,h2,λe he=>qTF (h3 e he)⟩
theorem qaS (m:Mo):SmD 3 (moD m):=qTF (qTF (qd1 m))
def PlnAt (H:Hp) (T l:Addr) (n:Nat) (ds:List PyData) (sv:V) (dv:PyData):Prop:=H T=some (.tup [.str "plan",.ref l,sv])/\DatN H n (.ref l) (.list ds)/\qEZ sv dv
def qNQ:Sp:=λvs H Q _=>∃(a wd sz t T l:Addr) (Ae:Aa0) (wides sizes Ad:List Int) (n:Nat) (ds:List PyData) (sv:V) (dv:PyData),vs=[.ref a,.ref wd,.ref sz,.ref t,.ref T]/\TKit H a wd sz Ae wides sizes/\H t=some (.tup (Ad.map V.int))/\Ad.length<=1000/\PlnAt H T l n ds sv dv/\ds.length<=20000/\
 ∀b H',Same H H'->(b=true↔∃ms,ds=ms.map moD/\qSU Ae wides sizes Ad ms/\dv=.int (dosO ms:Int))->Q (.bl b) H'
theorem qVF {H:Hp} {T:Addr} {x y z:V} {n:Nat} {dx d c:PyData} (g:H T=some (.tup [x,y,z]))(f:DatN H n x dx)(e:DatN H n y d)(h:DatN H n z c):DatN H (n+1) (.ref T) (.tuple [dx,d,c]):=by
 refine .inr ⟨true,T,_,xR rfl ⟨rfl,g,rfl,λi k j a b=>?_⟩⟩;rcases i with _|_|_|i
 ·cases a;cases b;exact f
 ·cases a;cases b;exact e
 ·cases a;cases b;exact h
 ·cases a
theorem qR6 {H:Hp} {x:V} {d:PyData} (h:qEZ x d):∀n,DatN H n x d
 |0=>h
 |_+1=>.inl h
theorem PlnAt.dat {H:Hp} {T l:Addr} {n:Nat} {ds:List PyData} {b:V} {a:PyData} (h:PlnAt H T l n ds b a):DatN H (n+1) (.ref T) (.tuple [.str (B1 "plan"),.list ds,a]):=
 qVF h.1 (qR6 (.inr (.inr (.inr ⟨_,rfl,rfl⟩))) n) h.2.1 (qR6 h.2.2 n)
theorem PlnAt.same {H H':Hp} {T l:Addr} {n:Nat} {ds:List PyData} {a:V} {b:PyData} (h:PlnAt H T l n ds a b)(s:Same H H'):PlnAt H' T l n ds a b:=⟨s _ _ h.1,h.2.1.same s,h.2.2⟩
theorem qLL {ds:List PyData} {a:PyData} :qKI Ae wides sizes Ad (.tuple [.str (B1 "plan"),.list ds,a])↔∃ms,ds=ms.map moD/\qSU Ae wides sizes Ad ms/\a=.int (dosO ms:Int):=by
 have e:qKI Ae wides sizes Ad (.tuple [.str (B1 "plan"),.list ds,a])=(isS (B1 "plan") (.str (B1 "plan"))=true/\∃ms,PyData.list ds=.list (ms.map moD)/\qSU Ae wides sizes Ad ms/\a=.int (dosO ms:Int)):=rfl;rw[e];exact⟨λ⟨_,ms,b,c⟩=>⟨ms,PyData.list.inj b,c⟩,λ⟨ms,b,c⟩=>⟨show decide (B1 "plan" = B1 "plan")=true from decide_eq_true rfl,ms,by rw[b],c⟩⟩
def qQC:Sp:=λvs H Q _=>∃(a wd sz t T l:Addr) (Ae:Aa0) (wides sizes Ad:List Int) (n:Nat) (ds:List PyData) (sv:V) (dv:PyData),vs=[.ref a,.ref wd,.ref sz,.ref t,.ref T]/\TKit H a wd sz Ae wides sizes/\H t=some (.tup (Ad.map V.int))/\Ad.length<=1000/\PlnAt H T l n ds sv dv/\ds.length<=20000/\qV2 (.list ds)=true/\
 ∀H',Same H H'->Q (.bl true) H'
structure Sb (W:Nat)(d:PyData):Prop where
 sh:d.showable=true
 nd:d.hasDict=false
 ls:d.leavesShort 13=true
 bk:d.bulk<=W
theorem Sb.mono {V W:Nat} {d:PyData} (h:Sb V d)(l:V<=W):Sb W d:=⟨h.sh,h.nd,h.ls,F4 h.bk l⟩
theorem qXQ {W:Nat} :∀{ds:List PyData},(∀d∈ds,Sb W d)->A97 ds=true/\B11 ds=false/\A57 13 ds=true/\B47 ds<=ds.length*(W+1)
 |[],_=>⟨rfl,rfl,rfl,J5 _⟩
 |d::ds,h=>by
  have h1:=h d (F6 ..);obtain⟨a,b,c,e⟩:=qXQ (ds:=ds) λd hd=>h d (C2 _ hd);refine⟨?_,?_,?_,?_⟩
  ·show(d.showable&&A97 ds)=true;rw[h1.sh,a];rfl
  ·show(d.hasDict||B11 ds)=false;rw[h1.nd,b];rfl
  ·show(d.leavesShort 13&&A57 13 ds)=true;rw[h1.ls,c];rfl
  ·show d.bulk+1+B47 ds<=(ds.length+1)*(W+1);have:=h1.bk;rw[Nat.add_mul]
   lia
theorem Sb.seq {W L:Nat} {b:Bool} {ds:List PyData} (h:∀d∈ds,Sb W d)(l:ds.length<=L):Sb (L*(W+1)) (seqD b ds):=by
 obtain⟨c,e,a,g⟩:=qXQ h;have f:ds.length*(W+1)<=L*(W+1):=Nat.mul_le_mul_right _ l;cases b
 ·exact⟨c,e,a,F4 g f⟩
 ·exact⟨c,e,a,F4 g f⟩
theorem Sb.shown {W:Nat} {d:PyData} (h:Sb W d)(l:W<=1048576):d.shown.length<=B75:=PyData.shown_fits_bulk (B:=13) (by decide) (by decide) h.ls (F4 h.bk l)
theorem Sb.int {i:Int} (b : -30000<=i)(a:i<=30000):Sb 5 (.int i):=by
 refine⟨?_,rfl,?_,J5 _⟩
 ·show decide (i.natAbs.log2<1920)=true;refine decide_eq_true ?_;by_cases c:i.natAbs=0
  ·rw[c];decide
  ·exact D9 ((Nat.log2_lt c).mpr (show i.natAbs<2^15 by lia)) (by decide)
 ·show decide ((B54 i).shown.length<=13)=true;exact decide_eq_true (PyData.shown_int_le2 (by lia) (by lia))
theorem Sb.bl {b:Bool} :Sb 5 (.bool b):=⟨rfl,rfl,rfl,J5 _⟩
theorem Sb.non:Sb 36 .none:=⟨rfl,rfl,rfl,J5 _⟩
def LfV (x:V):Prop:=∃d,qEZ x d/\Sb 5 d
theorem qCV {i:Int} (b : -30000<=i)(a:i<=30000):LfV (.int i):=⟨_,.inr (.inr (.inl ⟨_,rfl,rfl⟩)),Sb.int b a⟩
theorem qbL {b:Bool} :LfV (.bl b):=⟨_,.inr (.inl ⟨_,rfl,rfl⟩),Sb.bl⟩
theorem qbK:LfV (.str "do"):=⟨_,.inr (.inr (.inr ⟨_,rfl,rfl⟩)),by decide +kernel,by decide +kernel,by decide +kernel,by decide +kernel⟩
theorem qdH:LfV (.str "Do"):=⟨_,.inr (.inr (.inr ⟨_,rfl,rfl⟩)),by decide +kernel,by decide +kernel,by decide +kernel,by decide +kernel⟩
theorem qR4:LfV (.str "clear"):=⟨_,.inr (.inr (.inr ⟨_,rfl,rfl⟩)),by decide +kernel,by decide +kernel,by decide +kernel,by decide +kernel⟩
def ItV (H:Hp)(x:V):Prop:=∃d,DatN H 1 x d/\Sb 36 d/\fstB d=true
theorem ItV.same {H H':Hp} {x:V} (h:ItV H x)(s:Same H H'):ItV H' x:=let⟨d,a,b⟩:=h;⟨d,a.same s,b⟩
theorem qc2 {H:Hp} :ItV H .non:=⟨.none,.inl (.inl ⟨rfl,rfl⟩),Sb.non,rfl⟩
theorem qUD {x:V} {d:PyData} (h:qEZ x d):qUE d=true:=by
 rcases h with⟨_,rfl⟩|⟨_,_,rfl⟩|⟨_,_,rfl⟩|⟨_,_,rfl⟩<;>rfl
theorem qXX:∀{ys:List V},(∀y∈ys,LfV y)->∃ds,Paired (λy d=>qEZ y d/\Sb 5 d) ys ds
 |[],_=>⟨[],.nil⟩
 |y::ys,h=>by
  obtain⟨d,hd⟩:=h y (F6 ..);obtain⟨ds,hs⟩:=qXX (ys:=ys) λz hz=>h z (C2 _ hz);exact⟨d::ds,.cons hd hs⟩
theorem qGE {α β:Type} {F:α->β->Prop} {l:List α} {m:List β} (h:Paired F l m):∀b∈m,∃a∈l,F a b:=by
 induction h with
 |nil=>exactλb c=>nomatch c
 |cons x _ ih=>exactλb c=>(C0.mp c).elim (λe=>⟨_,F6 ..,e▸x⟩) λz=>let⟨a,h1,h2⟩:=ih b z;⟨a,C2 _ h1,h2⟩
theorem qH3 {H:Hp} {r:Addr} {b:Bool} {ys:List V} (g:H r=some (seqO b ys))(l:ys.length<=6)(h:∀y∈ys,LfV y):ItV H (.ref r):=by
 obtain⟨c,P⟩:=qXX h;have j:=C5 P;refine⟨seqD b c,.inr ⟨b,r,ys,c,rfl,rfl,g,j,λi o n k m=>?_⟩,Sb.seq (W:=5) (L:=6) (λd a=>let⟨_,_,z⟩:=qGE P d a;z.2) (by lia),?_⟩
 ·obtain⟨p,e,f⟩:=qAN P k;rw[m] at e;cases e;exact f.1
 ·cases b
  ·rfl
  ·cases P with
   |nil=>rfl
   |cons a _=>exact qUD a.1
def AllIt (H:Hp)(xs:List V):Prop:=∀x∈xs,ItV H x
theorem AllIt.same {H H':Hp} {xs:List V} (h:AllIt H xs)(s:Same H H'):AllIt H' xs:=λx a=>(h x a).same s
theorem AllIt.dat {H:Hp} :∀{xs:List V},AllIt H xs->∃ds,Paired (λx d=>DatN H 1 x d/\Sb 36 d/\fstB d=true) xs ds
 |[],_=>⟨[],.nil⟩
 |x::xs,h=>by
  obtain⟨d,hd⟩:=h x (F6 ..);obtain⟨ds,hs⟩:=AllIt.dat (xs:=xs) λz hz=>h z (C2 _ hz);exact⟨d::ds,.cons hd hs⟩
theorem qWS {m:Mo} (h:m∈qBN (Ae.length:Int) (sizes.length:Int))(k:Ae.length<=6)(g:sizes.length<=5):(∀y∈m.vs,LfV y)/\m.vs.length<=3/\2<=m.vs.length:=by
 obtain⟨⟨c,b⟩,w⟩:=mem_prMo.mp (qEH h);obtain⟨d,e,a⟩:=m;dsimp only at c b w;rcases w with⟨rfl,_⟩|⟨rfl,f,j⟩
 ·refine⟨λy hy=>?_,(by show 2<=3;decide),(by show 2<=2;decide)⟩
  rcases C0.mp hy with rfl|hy
  ·exact qR4
  rw[B3.mp hy];exact qCV (i:=a) (by lia) (by lia)
 ·refine⟨λy hy=>?_,(by show 3<=3;decide),(by show 2<=3;decide)⟩
  rcases C0.mp hy with rfl|hy
  ·exact qbK
  rcases C0.mp hy with rfl|hy
  ·exact qCV (i:=e) (by lia) (by lia)
  rw[B3.mp hy];exact qCV (i:=a) (by lia) (by lia)
theorem qZE {H:Hp} {r:Addr} {m:Mo} (g:H r=some (.tup m.vs))(h:m∈qBN (Ae.length:Int) (sizes.length:Int))(c:Ae.length<=6)(d:sizes.length<=5):ItV H (.ref r):=by
 obtain⟨a,b,_⟩:=qWS h c d;exact qH3 (b:=true) g (by lia) a
theorem qWE {a b:La} {ms:List Mo} (h:RunO Ae wides sizes a ms b):∀k,∃s,RunO Ae wides sizes a (ms.take k) s:=by
 induction h with
 |nil=>exactλk=>⟨_,by rw[A93];exact .nil⟩
 |cons hi r ih=>
  intro k;cases k with
  |zero=>exact⟨_,.nil⟩
  |succ k=>obtain⟨s,c⟩:=ih k;exact⟨s,.cons hi c⟩
def qTC:Sp:=λvs H Q _=>∃(d c a wd sz T p:Addr) (t:Int) (ns:List Int) (Ae:Aa0) (wides sizes:List Int) (rs:List Addr) (ms:List Mo) (s:La),vs=[.ref d,.ref a,.ref wd,.ref sz,.ref T]/\StAt H d c t ns/\t<=TB-1000/\TKit H a wd sz Ae wides sizes/\
 H T=some (.tup [.str "plan",.ref p,.int (dosO ms:Int)])/\H p=some (.lst (rs.map V.ref))/\MosL H rs ms/\RunO Ae wides sizes (l0 sizes) ms s/\ms.length<=16806/\
 ∀T' l' xs sv t' ns' H',StAt H' d c t' ns'->t<=t'->t'<=t+10->Keep d c H H'->H' T'=some (.tup [.str "plan",.ref l',sv])->H' l'=some (.lst xs)->AllIt H' xs->xs.length<=16810->LfV sv->Q (.ref T') H'
theorem MosL.keep {H H':Hp} {d c:Addr} {t:Int} {ns:List Int} {rs:List Addr} {ms:List Mo} (h:MosL H rs ms)(S:StAt H d c t ns)(k:Keep d c H H'):MosL H' rs ms:=qCB h λr m e=>k _ _ e (S.tup e).1 (S.tup e).2
structure BK (H Hc:Hp)(d c a wd sz l:Addr)(t:Int)(ns:List Int)(Ae:Aa0)(wides sizes:List Int)(rs:List Addr)(ms:List Mo):Prop where
 st:StAt Hc d c t ns
 keep:Keep d c H Hc
 gl:Hc l=some (.lst (rs.map V.ref))
 mos:MosL Hc rs ms
 tk:TKit Hc a wd sz Ae wides sizes
 nl:l≠d/\l≠c
theorem BK.same {H Hc H':Hp} {d c a e b l:Addr} {t:Int} {ns:List Int} {rs:List Addr} {ms:List Mo} (h:BK H Hc d c a e b l t ns Ae wides sizes rs ms)(s:Same Hc H'):BK H H' d c a e b l t ns Ae wides sizes rs ms:=
 ⟨h.st.same s,h.keep.trans (.of_same s),s _ _ h.gl,MosL.same h.mos s,h.tk.same s,h.nl⟩
theorem BK.take {H Hc H':Hp} {d c a f e l:Addr} {t t':Int} {ns b:List Int} {rs:List Addr} {ms:List Mo} (h:BK H Hc d c a f e l t ns Ae wides sizes rs ms)(S:StAt H' d c t' b)(k:Keep d c Hc H'):BK H H' d c a f e l t' b Ae wides sizes rs ms:=
 ⟨S,h.keep.trans k,k _ _ h.gl h.nl.1 h.nl.2,MosL.keep h.mos h.st k,h.tk.keep h.st k,h.nl⟩
theorem qYE {xs:List V} {i:Int} (a:0<=i)(b:i<(xs.length:Int)):∃x∈xs,atI xs i=some x:=by
 have h:=B0 (show i.toNat<xs.length by lia)
 exact⟨_,Q9 _,qE1 a h⟩
theorem BK.all {H Hc:Hp} {d c a q i l:Addr} {t:Int} {ns:List Int} {rs e:List Addr} {ms:List Mo} (h:BK H Hc d c a q i l t ns Ae wides sizes rs ms)(b:∀m∈ms,m∈qBN (Ae.length:Int) (sizes.length:Int))(k:∀r∈e,r∈rs):AllIt Hc (e.map V.ref):=λx p=>by
 obtain⟨r,n,rfl⟩:=J8.mp p;obtain⟨j,f⟩:=V0 (k r n);obtain⟨m,o,g⟩:=qAN h.mos f;exact qZE g (b m (D4 o)) h.tk.n6 h.tk.k5
theorem qQ0 {c:TT} {t u:TS} {D:Ends} {σ:St} {H:Hp} (h:∀U:St->Hp->Prop,(∀σ' H',u D σ' H'->U σ' H')->tIfS c t (λ_=>U) D σ H):tIfS c t u D σ H:=h (u D) λ_ _ z=>z
theorem qVJ {α:Type} {xs:List α} {k:Nat} :(cutI xs none (some (k:Int))).length=min k xs.length:=by
 unfold cutI;rw[HT.sIx_nat,HT.sIx_none,C9,J2];lia
theorem qVK {α:Type} {xs:List α} {k:Nat} :(cutI xs (some (k:Int)) none).length=xs.length-min k xs.length:=by
 unfold cutI;rw[HT.sIx_nat,HT.sIx_none,C9,J2];lia
theorem qQ5 {α:Type} {xs:List α} {k j:Nat} :(cutI xs (some (k:Int)) (some ((k+j:Nat):Int))).length<=j:=by
 unfold cutI;rw[HT.sIx_nat,HT.sIx_nat,C9,J2];lia
theorem BK.ne {H Hc:Hp} {d c a g f l e:Addr} {t:Int} {ns:List Int} {rs:List Addr} {ms:List Mo} (h:BK H Hc d c a g f l t ns Ae wides sizes rs ms)(b:Hc e=none):e≠d/\e≠c/\e≠l:=
 ⟨(λz=>by rw[z,h.st.dict] at b;cases b),(λz=>by rw[z,h.st.list] at b;cases b),(λz=>by rw[z,h.gl] at b;cases b)⟩
theorem qcJ {xs:List V} :(F1 (2:Int).toNat xs).flatten=xs++xs:=by
 show(F1 2 xs).flatten=xs++xs;rw[O7,V5,O7,V5];simp
theorem qJQ {H:Hp} {rs b:List Addr} {ms:List Mo} (M:MosL H rs ms)(a:∀m∈ms,m∈qBN (Ae.length:Int) (sizes.length:Int))(h:Ae.length<=6)(d:sizes.length<=5)(k:∀r∈b,r∈rs):AllIt H (b.map V.ref):=λx i=>by
 obtain⟨r,e,rfl⟩:=J8.mp i;obtain⟨j,c⟩:=V0 (k r e);obtain⟨m,f,g⟩:=qAN M c;exact qZE g (a m (D4 f)) h d
theorem BK.mo {H Hc:Hp} {d c a k e l r:Addr} {t:Int} {ns:List Int} {rs:List Addr} {ms:List Mo} (h:BK H Hc d c a k e l t ns Ae wides sizes rs ms)(f:r∈rs):∃m∈ms,Hc r=some (.tup m.vs):=by
 obtain⟨j,b⟩:=V0 f;obtain⟨m,i,g⟩:=qAN h.mos b;exact⟨m,D4 i,g⟩
theorem BK.at {H Hc:Hp} {d c a f b l:Addr} {t k:Int} {ns:List Int} {rs:List Addr} {ms:List Mo} (h:BK H Hc d c a f b l t ns Ae wides sizes rs ms)(g:0<=k)(i:k<(rs.length:Int)):∃mv,atI (rs.map V.ref) k=some (.ref mv)/\∃m∈ms,Hc mv=some (.tup m.vs):=by
 have e:=B0 (show k.toNat<rs.length by lia)
 exact⟨_,qE1 g (by rw[C6,e];rfl),h.mo (Q9 _)⟩
theorem BK.put {H Hc:Hp} {d c a b e l:Addr} {t:Int} {ns:List Int} {rs:List Addr} {ms:List Mo} (h:BK H Hc d c a b e l t ns Ae wides sizes rs ms)(f:H l=none)(u:HO):StAt (Ag Hc l u) d c t ns/\Keep d c H (Ag Hc l u)/\MosL (Ag Hc l u) rs ms:=⟨h.st.own h.nl,h.keep.own f,MosL.put h.mos h.gl⟩
theorem qJR {m:Mo} (h:m∈qBN (Ae.length:Int) (sizes.length:Int)) (c:Ae.length<=6) (e:sizes.length<=5):∃(w:Str) (i:Int),atI m.vs 0=some (.str w)/\LfV (.str w)/\atI m.vs 1=some (.int i)/\decide (V.str w=V.str "do")=m.dk:=by
 obtain⟨d,b,a⟩:=m;cases d
 ·exact⟨"clear",a,rfl,qR4,rfl,decide_eq_false λz=>qC9 (V.str.inj z)⟩
 ·exact⟨"do",b,rfl,qbK,rfl,decide_eq_true rfl⟩
theorem qHG {xs:List V} {lo hi:Option Int} :(∀x∈cutV xs lo hi,x∈xs)/\(cutV xs lo hi).length<=xs.length:=by
 have e:cutV xs lo hi=cutI xs lo hi:=by
  have:=qBG (λx:V=>x) xs lo hi
  rwa[List.map_id',List.map_id'] at this
 rw[e];exact qCT
theorem qI9:∀{l:La} {k:Nat},(wksO (l.set k none)).Sublist (wksO l)
 |[],_=>B12 _
 |o::l,0=>by
  show(wksO (none::l)).Sublist (wksO (o::l));cases o with
  |none=>exact B12 _
  |some w=>exact List.sublist_cons_self w (wksO l)
 |o::l,k+1=>by
  have ih:=qI9 (l:=l) (k:=k);cases o with
  |none=>exact ih
  |some w=>exact ih.cons_cons w
theorem qI8:∀{l:La} {k:Nat} {w:Int},l[k]?=some none->(wksO (l.set k (some w))).Perm (w::wksO l)
 |[],_,_,h=>by cases h
 |o::l,0,w,h=>by
  have h:o=none:=D7 h;subst h;exact B44 _
 |o::l,k+1,w,h=>by
  have ih:=qI8 (l:=l) (k:=k) (w:=w) h;cases o with
  |none=>exact ih
  |some x=>exact(ih.cons x).trans (B42 w x _)
theorem qc6:FitO wides sizes (l0 sizes):=by
 refine⟨?_,λi w h=>?_⟩
 ·have:wksO (l0 sizes)=[]:=by
   unfold wksO l0;rw[List.filterMap_eq_nil_iff];exactλo a=>Y8 a
  rw[this];exact A64
 ·have:=D4 h;cases Y8 this
theorem Po.fit {t:Nat} {l:La} (h:Po Ae wides sizes t l):FitO wides sizes l:=by
 induction h with
 |zero=>exact qc6
 |@step t l m p hm ih=>
  obtain⟨⟨k,j⟩,n,e⟩:=qMM hm;have q:=p.len;have a:m.rm.toNat<l.length:=by lia
  unfold beO;cases hd:m.dk with
  |false=>
   have b:m.res=none:=by unfold Mo.res;rw[hd]
   rw[b];refine⟨ih.1.sublist qI9,λi w h=>?_⟩;by_cases c:m.rm.toNat=i
   ·subst c;rw[P6 a] at h;cases h
   ·rw[U7 c] at h;exact ih.2 i w h
  |true=>
   have b:m.res=some m.wk:=by unfold Mo.res;rw[hd]
   rw[b];obtain⟨g,r,d,o⟩:=(qc5 hd).mp e;have f:l[m.rm.toNat]?=some none:=by
    rw[J9,B0 a] at d;rw[B0 a];exact congrArg some d
   refine⟨(qI8 f).nodup_iff.mpr (W1.mpr ⟨λz=>g (wks_mem.mp z),ih.1⟩),λi w h=>?_⟩;by_cases c:m.rm.toNat=i
   ·subst c;rw[P6 a] at h;have:=D7 (D7 h);subst this
    lia
   ·rw[U7 c] at h;exact ih.2 i w h
theorem RcO.jo {ks L:List La} {f:La->Nat} (h:RcO Ae wides sizes ks f)(p:L.Perm ks)(b:∀s∈ks,¬ ∀x∈Ad,some x∈s):JO Ae wides sizes Ad L:=by
 refine⟨p.mem_iff.mpr (h.all 0 _ .zero),λl d=>?_⟩;have a:=p.mem_iff.mp d;obtain⟨u,m,_⟩:=h.snd l a;exact⟨m.1.fit,b l a,λe c=>p.mem_iff.mpr (h.all _ _ (.step m.1 c))⟩
theorem RcO.lk {ks:List La} {f:La->Nat} (h:RcO Ae wides sizes ks f):∀s∈ks,s.length=sizes.length/\LayOk (Ae.length:Int) s:=λs a=>let⟨_,m,_⟩:=h.snd s a;⟨m.1.len,m.1.ok⟩
theorem qU9 {n:Int} {m:Mo} :qFC n wides sizes (moD m)=false:=by
 obtain⟨d,b,a⟩:=m;cases d
 ·have e:qFC n wides sizes (moD ⟨false,b,a⟩)=(decide ([B55 (B1 "clear"),.int a].length=sizes.length)&&layS n wides [] sizes [.str (B1 "clear"),.int a]):=rfl;rw[e];cases sizes with
  |nil=>rfl
  |cons s ss=>rw[qMR (d:=.str (B1 "clear")) (λz=>nomatch z) rfl,p8]
 ·have e:qFC n wides sizes (moD ⟨true,b,a⟩)=(decide ([B55 (B1 "do"),.int b,.int a].length=sizes.length)&&layS n wides [] sizes [.str (B1 "do"),.int b,.int a]):=rfl
  rw[e];cases sizes with
  |nil=>rfl
  |cons s ss=>rw[qMR (d:=.str (B1 "do")) (λz=>nomatch z) rfl,p8]
theorem qSE {ms:List Mo} :¬qM2 Ae wides sizes Ad (.list (ms.map moD)):=by
 intro h;have h:(ms.map moD).all (qFC (Ae.length:Int) wides sizes)=true/\JO Ae wides sizes Ad ((ms.map moD).map dLa):=h;cases ms with
 |nil=>exact nomatch h.2.1
 |cons m ms=>
  have:=L7.mp h.1 _ (F6 ..);rw[qU9] at this;cases this
theorem qOR {ms:List Mo} :qV2 (.list (ms.map moD))=true:=L7.mpr λd a=>by
 obtain⟨m,_,rfl⟩:=J8.mp a;obtain⟨d,c,b⟩:=m;cases d<;>rfl
theorem qKC {H:Hp} {l:Addr} {rs:List Addr} {ms:List Mo} (d:H l=some (.lst (rs.map V.ref)))(M:MosL H rs ms):DatN H 2 (.ref l) (.list (ms.map moD)):=by
 refine .inr ⟨false,l,_,xR rfl ⟨rfl,d,by rw[A0,A0,C5 M],λi h f c a=>?_⟩⟩
 obtain⟨r,b,rfl⟩:=qC3 c;obtain⟨z,e,g⟩:=qAN M b;rw[C6,e] at a;cases a;exact qR2 g
theorem Sb.tri {a b c:Nat} {x y z:PyData} (e:Sb a x)(d:Sb b y)(f:Sb c z):Sb (a+b+c+3) (.tuple [x,y,z]):=by
 refine⟨?_,?_,?_,?_⟩
 ·show(x.showable&&(y.showable&&(z.showable&&true)))=true;rw[e.sh,d.sh,f.sh];rfl
 ·show(x.hasDict||(y.hasDict||(z.hasDict||false)))=false;rw[e.nd,d.nd,f.nd];rfl
 ·show(x.leavesShort 13&&(y.leavesShort 13&&(z.leavesShort 13&&true)))=true;rw[e.ls,d.ls,f.ls];rfl
 ·show x.bulk+1+(y.bulk+1+(z.bulk+1+0))<=a+b+c+3;have:=e.bk;have:=d.bk;have:=f.bk
  lia
theorem AllIt.pln {H:Hp} {T l:Addr} {xs:List V} {e:V} (p:H T=some (.tup [.str "plan",.ref l,e])) (m:H l=some (.lst xs)) (A:AllIt H xs) (t:xs.length<=16810) (k:LfV e):
  ∃ds dv,PlnAt H T l 2 ds e dv/\ds.length<=16810/\qV2 (.list ds)=true/\Sb 1000000 (.tuple [.str (B1 "plan"),.list ds,dv]):=by
 obtain⟨ds,P⟩:=A.dat;obtain⟨dv,D,S⟩:=k;have j:=C5 P;refine⟨ds,dv,⟨p,.inr ⟨false,l,xs,ds,rfl,rfl,m,j,λi r q n o=>?_⟩,D⟩,by lia,L7.mpr λd c=>let⟨_,_,z⟩:=qGE P d c;z.2.2,?_⟩
 ·obtain⟨s,f,h⟩:=qAN P n;rw[o] at f;cases f;exact h.1
 ·have g:Sb (16810*37) (.list ds):=Sb.seq (b:=false) (W:=36) (λd c=>let⟨_,_,z⟩:=qGE P d c;z.2.1) (by lia)
  exact Sb.mono (Sb.tri (a:=4) ⟨by decide +kernel,by decide +kernel,by decide +kernel,by decide +kernel⟩ g S) (by decide)
def BadP (Ae:Aa0)(wides sizes Ad:List Int)(H:Hp)(x:V):Prop:=∃n d,DatN H n x d/\OkP d/\¬qKI Ae wides sizes Ad d
end
theorem qbJ {H:Hp} {rs:List Addr} {ms:List Mo} (M:MosL H rs ms):Paired (λx d=>At H x d) (rs.map V.ref) (ms.map moD):=by
 induction M with
 |nil=>exact .nil
 |cons g _ ih=>exact .cons ⟨1,qR2 g⟩ ih
theorem BadP.of {Ae:Aa0} {wides sizes Ad:List Int} {H:Hp} {x:V} {d:PyData} (h:At H x d)(b:OkP d)(c:¬qKI Ae wides sizes Ad d):BadP Ae wides sizes Ad H x:=let⟨n,a⟩:=h;⟨n,d,a,b,c⟩
def qQG (K:Ab1)(Pt:Addr):Sp:=λvs H Q E=>TabO H Pt/\qd0 K vs H Q E
theorem TabO.keep {H H':Hp} {Pt d c:Addr} {t:Int} {ns:List Int} (h:TabO H Pt)(S:StAt H d c t ns)(k:Keep d c H H'):TabO H' Pt:=k _ _ h (qFB h S.dict (by intro z;cases z)) (qFB h S.list (by intro z;cases z))
section
variable{P:B76}{w:World}{K:Ab1}{mg:Ab0}{base:Heap}{f:Addr}{fd:B88}{qEW qEX qGM qEG qEV qDB qBX qB4 qB9 qV7 qE2 qJ2 qV8 qDA qG2 Pt cc qK9 qCP qKA qEU qEF qCH qDU qGL qFF qET qFG qFH qRD qI4 qD9 qKB qN3 qN2 qN4 qCI qPY qEA:Addr}{qES qLA qOU qG0 qL9 qGC qCX qGB qZR qHC qOV qZS qGA qK7 qSN qHB qSO qII qGK qE9 qIQ qOT qI3 qL7 qN1 qG1 qV4 qPX qG9 qSP qV5 qV3 qV6 qL8 qXA qK8:B88}
theorem sc_Lbegin:FnScope ["_law_script","_law_cells"] ["_law_script"] (qAA qIW):=qBU
theorem ok_Lbegin (F:Fun K "_law_begin" "_law_begin" qIW f fd) (qDK:mg "list" = none):FnOk P w K mg base CX0 1 f fd ["_law_script"] (qTD K):=by
 refine F.okA sc_Lbegin λa0 A y s H vs Q E hr h=>?_;obtain⟨a,m,rfl,hS,t,q⟩:=h;have hu:=qPV hr;have u:=hr.units0;refine⟨_,(qA3 (qAE (i:=1) sc_Lbegin.nd rfl (F3 rfl) (qAJ qFL rfl qDK qFN (qA0 (qAY qCM (pv 0) qBK (qB3 qA5)) qA2))) (qA3 (qB8 (qAF (qO7 u) (pv 1) (qBH qA2) (qAL _)) (qA6 (qAE (i:=1) sc_Lbegin.nd rfl (F3 rfl) (qBH (qA0 qA5 qA2)))) qAH) (qA6 (qAD (qZ7 (qQS qAZ (pv 1) (qQS qAZ qA5 qZ2)) rfl rfl (by simp) (by decide)))))),?_⟩
 try dsimp only[Cx.nox,Cx.wish,cxOf]
 refine xR rfl (xR rfl (xB a _ rfl ⟨hS,λp hp=>?_⟩));rw[qBG];have hl:(cutI m none (some 63)).length<=63:=F4 (qHH _ _ _) t;refine xB p _ rfl ⟨.inl (Ab2 qA1),λc o=>?_⟩;have s1:Same H (Ag (Ag H p (.lst ((cutI m none (some 63)).map V.int))) c (.lst ((cutI m none (some 63)).map V.int))):=(qA4 hp _).trans (qA4 o _);refine xR rfl ⟨(by show 0<=B75;decide),λe n=>?_⟩
 have k:c≠e:=qA7 qA1 n;refine xC c e _ rfl ⟨rfl,Ab2 (by rw[qAB k];exact qA1),Ab2 qA1,xR rfl ?_⟩
 have j:=s1.trans (qA4 n (.lst []));cases hm:cutI m none (some 63) with
 |nil=>
  rw[hm] at j n;refine iteT ?_;refine⟨(by show 1<=B75;decide),λv l=>?_⟩
  have z:=j.trans (qA4 l (.lst [.int 7]));intro d g;refine xR rfl ?_;have s4:=z.trans (qA4 g (.dK []));refine⟨qA1,[(P0 (B1 "cells"),.ref v),(P0 (B1 "turn"),.int 0)],rfl,(by show 2<=15;decide),?_⟩
  have b:v≠d:=qA7 qA1 g;refine q d v [7] _ ⟨?_,?_,by decide,by decide,by decide⟩ ?_ ?_ ?_
  ·rw[qA1,qXW]
  ·rw[qAB b,qAB b];exact qA1
  ·rw[qPB];exact z.trans (qA4 g _)
  ·exact z.free g
  ·exact j.free l
 |cons x r=>
  rw[hm] at j n hl;refine iteF ?_;intro d g;refine xR rfl ?_;refine⟨qA1,[(P0 (B1 "cells"),.ref c),(P0 (B1 "turn"),.int 0)],rfl,(by show 2<=15;decide),?_⟩
  have gc:(Ag (Ag (Ag H p (.lst ((x::r).map V.int))) c (.lst ((x::r).map V.int))) e (.lst [])) c=some (.lst ((x::r).map V.int)):=by rw[qAB k];exact qA1
  have b:c≠d:=qA7 gc g;refine q d c (x::r) _ ⟨?_,?_,by simp,hl,by decide⟩ ?_ ?_ ?_
  ·rw[qA1,qXW]
  ·rw[qAB b,qAB b];exact gc
  ·rw[qPB];exact j.trans (qA4 g _)
  ·exact j.free g
  ·rw[hm] at o;exact(qA4 hp _).free o
theorem sc_Ltake:FnScope ["_law_state","_law_many","_law_turn","_law_place","_law_cell","_law_digit","_law_mixed"] ["_law_state","_law_many"] (qAA qMC):=qBU
theorem ok_Ltake (F:Fun K "_law_take" "_law_take" qMC f fd) (qB1:mg "len" = none) (a0:mg "divmod" = none):FnOk P w K mg base CX0 1 f fd ["_law_state","_law_many"] qIB:=by
 refine F.okA sc_Ltake λa7 A a1 s H vs Q E hr h=>?_;obtain⟨d,c,t,g,m,rfl,S,ht,a6,a5,q⟩:=h;have r:=qPV hr;refine⟨_,(qA3 (qAE (i:=2) sc_Ltake.nd rfl (F3 rfl) (qAO qBT (qE6 r (pv 0) qAZ (λ_ _=>rfl)) qA5)) (qA3 (qMH r (pv 0) qAZ (pv 2) rfl) (qA3 (qAE (i:=3) sc_Ltake.nd rfl (F3 rfl) (qAO qJO (pv 2) (qA8 qA9 rfl qB1 qB7 (qA0 (qE6 r (pv 0) qAZ (λ_ _=>rfl)) qA2)))) (qA3 (qAE (i:=4) sc_Ltake.nd rfl (F3 rfl) (qAT qCO (qE6 r (pv 0) qAZ (λ_ _=>rfl)) (pv 3) (λ_ _=>rfl))) (qA3 (qB8 (qAF qbB (pv 4) (qAO qb9 qA5 qA5) (qAL _)) (qA3 (qLO (qA8 qQ8 rfl a0 qVT (qA0 (pv 4) (qA0 (pv 1) qA2))) (qNZ rfl (qBV (qQT (qE6 r (pv 0) qAZ (λ_ _=>rfl)) (pv 3) qIT) (qBV (qBD (i:=5) sc_Ltake.nd rfl (F3 rfl)) qHX)))) (qA6 (qAD (pv 5)))) qAH) (qA3 (qAE (i:=6) sc_Ltake.nd rfl (F3 rfl) (qAO qJO (qAO qLQ (qAO qBT (qAO qBT (qAO qJO (pv 4) qA5) (qAO qLQ (qAO qLQ (pv 2) (pv 2)) qA5)) qA5) qA5) qA5)) (qA3 (qAE (i:=6) sc_Ltake.nd rfl (F3 rfl) (qAO qJO (qAO qLQ (pv 6) (pv 6)) qA5)) (qA6 (qAD (qAO qJO (qAO qML (qAO qJO (qAO qLQ (qAO qBT (pv 6) (qAO qLQ (pv 2) qA5)) qA5) qA5) qA5) (pv 1))))))))))),?_⟩
 try dsimp only[Cx.nox,Cx.wish,cxOf]
 have a2:=S.pos;have a3:=S.ne;have a4:t<=1000000000:=ht;refine xR rfl (xB d _ rfl ⟨qZX S,xB _ _ rfl ⟨rfl,?_⟩⟩);refine xR rfl (xR rfl (xB d _ rfl ⟨qZW S,?_⟩));have l:=S.turn (u:=t+1) (by lia)
 have k1:Keep d c H (Ag H d (.dK [(P0 (B1 "cells"),.ref c),(P0 (B1 "turn"),.int (t+1))])):=λb o e n _=>by rw[qAB n];exact e
 generalize Ag H d (.dK [(P0 (B1 "cells"),.ref c),(P0 (B1 "turn"),.int (t+1))])=H1 at l k1;have k:(((g.map V.int).length:Nat):Int)=(g.length:Int):=by rw[A0]
 refine xR rfl (xR rfl (xB d _ rfl ⟨qN6 l,xB c _ rfl ⟨.inl (Ab2 l.list),xB _ _ rfl ⟨rfl,(by rw[k];lia),?_⟩⟩⟩))
 have p0:0<=(t+1)%(((g.map V.int).length:Nat):Int):=b7 _ (by rw[k];lia)
 have p1:(t+1)%(((g.map V.int).length:Nat):Int)<(g.length:Int):=by
  have:=X0 (t+1) (b:=(((g.map V.int).length:Nat):Int)) (by rw[k];lia)
  rw[k] at this ⊢;exact this
 dsimp only;generalize (t+1)%(((g.map V.int).length:Nat):Int)=pl at p0 p1;obtain⟨j,rfl⟩:∃j:Nat,pl=(j:Int):=⟨pl.toNat,by lia⟩
 have hj:j<g.length:=by lia
 have v:atI (g.map V.int) (j:Int)=some (.int g[j]):=qVV (by rw[C6,B0 hj];rfl)
 refine xR rfl (xB d _ rfl ⟨qN6 l,xR rfl (xD c _ _ _ rfl ⟨rfl,Ab2 l.list,v,?_⟩)⟩);generalize hx:g[j]=x at v ⊢;refine xR rfl (xB _ _ rfl ⟨rfl,⟨by decide,by decide,by decide⟩,xB _ _ rfl ⟨rfl,xR rfl ?_⟩⟩)
 refine ite2 (λ_=>?_) (λ_=>?_)
 ·-- a great cell
  refine xR rfl (xR rfl (xB x m rfl ⟨⟨by lia,by lia⟩,λp hp=>?_⟩))
  have S2:=l.new hp (.tup [.int (x/m),.int (x%m)]);have a8:p≠c:=(qA7 l.list hp).symm;refine xB p _ rfl ⟨Ac0 qA1,rfl,xB _ _ rfl ?_⟩;refine xR rfl (xB d _ rfl ⟨qN6 S2,xR rfl (xD c _ _ j rfl ⟨rfl,S2.list,qMY (by rw[A0];exact hj),?_⟩)⟩)
  refine xB _ _ rfl ⟨rfl,?_⟩;refine xR rfl ?_;have e1:(g.map V.int).set j (.int (x/m))=(g.set j (x/m)).map V.int:=by rw[List.map_set]
  rw[e1];refine q (x%m) (g.set j (x/m)) _ (b7 _ (by lia)) (X0 _ (by lia)) (S2.put (by rw[W2])) ?_
  have k2:=k1.trans (qCR (d:=d) (c:=c) hp (.tup [.int (x/m),.int (x%m)]));exactλb o e n1 n2=>by rw[qAB n2];exact k2 b o e n1 n2
 ·have b1:0<=x%2147483629:=b7 _ (by decide)
  have b2:x%2147483629<2147483629:=X0 _ (by decide)
  refine xR rfl (xB _ _ rfl ⟨rfl,(by show(0:Int)<2147483629;decide),xR rfl (xR rfl (xB _ _ rfl ⟨rfl,.inl ⟨by lia,by lia⟩,xB _ _ rfl ⟨rfl,.inr ⟨by decide,by decide⟩,xB _ _ rfl ⟨rfl,xB _ _ rfl ⟨rfl,xB _ _ rfl ⟨rfl,.inr ⟨by decide,by decide⟩,xB _ _ rfl ⟨rfl,(by show(0:Int)<2147483647;decide),?_⟩⟩⟩⟩⟩⟩))⟩)
  have c1:=b7 ((x%2147483629+(t+1)*(t+1)*7919+11)*48271) (b:=2147483647) (by decide)
  have c2:=X0 ((x%2147483629+(t+1)*(t+1)*7919+11)*48271) (b:=2147483647) (by decide)
  dsimp only;generalize ((x%2147483629+(t+1)*(t+1)*7919+11)*48271)%2147483647=y at c1 c2;refine xR rfl (xR rfl (xB _ _ rfl ⟨rfl,.inl ⟨by lia,by lia⟩,xB _ _ rfl ⟨rfl,(by show(0:Int)<2147483587;decide),?_⟩⟩))
  dsimp only;generalize y*y%2147483587=z;refine xR rfl (xR rfl (xB _ _ rfl ⟨rfl,.inr ⟨by decide,by decide⟩,xB _ _ rfl ⟨rfl,xB _ _ rfl ⟨rfl,.inr ⟨by decide,by decide⟩,xB _ _ rfl ⟨rfl,(by show(0:Int)<2147483629;decide),xB _ _ rfl ⟨rfl,⟨by decide,by decide⟩,xR rfl (xB _ _ rfl ⟨rfl,(by lia),?_⟩)⟩⟩⟩⟩⟩))
  exact q _ g _ (b7 _ (by lia)) (X0 _ (by lia)) l k1
theorem sc_Lsome_needs:FnScope ["_law_state","_law_k","_law_found","_law_turn","_law_far"] ["_law_state","_law_k"] (qAA qD6):=qBU
theorem ok_Lsome_needs (F:Fun K "_law_some_needs" "_law_some_needs" qD6 f fd) (qAV:Clb P w K mg base 1 qEW qES "_law_take" ["_law_state","_law_many"] qIB)
  (qBC:mg "range" = none) (qKL:mg "min" = none) (qAS:mg "tuple" = none) (qCD:mg "sorted" = none) (qNM:mg "set" = none):FnOk P w K mg base CX0 2 f fd ["_law_state","_law_k"] qPF:=by
 refine F.okA sc_Lsome_needs λap A ae s H vs Q E hr h=>?_;obtain⟨d,c,t,ns,k,rfl,S,ht,ak,an,q⟩:=h;have al:t<=1000000000-20:=ht;have ao:Room 1 _:=hr;refine⟨_,(qA3 (qAE (i:=2) sc_Lsome_needs.nd rfl (F3 rfl) (qBH qA2)) (qA3 (qDM L5 rfl (qBE rfl qBC (qA0 (qAP qAV hr rfl (qA0 (pv 0) (qA0 qA5 qA2))) qA2)) (qBD (i:=3) sc_Lsome_needs.nd rfl (F3 rfl)) (qA3 (qAE (i:=4) sc_Lsome_needs.nd rfl (F3 rfl) (qAT qCO (qBH (qA0 (qA8 (qHJ rfl) rfl qKL qP2 (qA0 (pv 1) (qA0 qA5 qA2))) (qA0 (pv 1) qA2))) (qAO qML (qAP qAV hr rfl (qA0 (pv 0) (qA0 qA5 qA2))) qA5) (λ_ _=>rfl))) (qA6 (qB8 (qAF qO6 (pv 1) qA5 (qAL _)) (qA6 (qEP (qO0 M5 T5 T6 qED (pv 2) (qA0 (qAO qDO (qAO qDO (pv 1) qA5) (qAP qAV hr rfl (qA0 (pv 0) (qA0 (pv 4) qA2)))) qA2)))) qAH)))) (qA6 (qAD (qAJ qAU rfl qAS qB5 (qA0 (qA8 (qEY rfl) rfl qCD qFM (qA0 (qAJ (qNA rfl) rfl qNM qRN (qA0 (pv 2) qA2)) qA2)) qA2)))))),?_⟩
 try dsimp only[Cx.nox,Cx.wish,cxOf]
 refine cut λN0 ac=>?_;refine⟨(by show 0<=B75;decide),λl g=>?_⟩
 have S1:=S.new g (.lst []);have nd:l≠d:=(qA7 S.dict g).symm;have nc:l≠c:=(qA7 S.list g).symm;refine ac _ _ (cut λN1 aa=>?_);refine xR rfl (xE d c t ns 5 rfl ⟨S1,(by show t<=1000000000;lia),by decide,by decide,λj ad H1 j0 j5 S2 K2=>?_⟩)
 refine ⟨j,rfl,by lia,by lia,qDS (lo:=0) (n:=j.toNat) (fun i σ Hc=>∃ (t':Int) (ms fs:List Int) (v1 v2:Option V),σ=[some (.ref d),some (.int k),some (.ref l),v1,v2]/\StAt Hc d c t' ms/\t<=t'/\t'<=t+1+2 * i/\Keep d c H Hc/\
  Hc l=some (.lst (fs.map V.int))/\fs.length<=i/\∀x∈fs,0<=x/\x<k)
  ⟨t+1,ad,[],none,none,rfl,S2,by lia,by lia,(qCR g _).trans K2,K2 _ _ qA1 nd nc,B4 _,λ_ z=>nomatch z⟩ ?_ ?_⟩
 ·refineλi σ Hc hi a6=>opq λam a7=>?_;obtain⟨t',ms,fs,v1,v2,rfl,S3,a1,a2,K3,h3,l3,m3⟩:=a6;refine a7 ?_;have ar:(i:Int)<5:=by lia
  -- far
  refine nmD λD1 d1 dr=>cut λM0 ai=>?_;refine xR rfl (xB k 4 rfl (xR rfl ⟨(by show 2<=B75;decide),λp m=>?_⟩))
  have S4:=S3.new m (.lst [.int (if(4:Int)<k then 4 else k),.int k])
  have a9:p≠d:=(qA7 S3.dict m).symm;have ag:p≠c:=(qA7 S3.list m).symm;refine xR rfl (xE d c t' ms 4 rfl ⟨S4,(by show t'<=1000000000;lia),by decide,by decide,λk2 v H2 g0 g4 S5 K5=>?_⟩)
  obtain⟨far,a8,ef⟩:=qdB (a:=if(4:Int)<k then 4 else k) (b:=k) g0 g4
  have aj:far<=k:=by rcases ef with e|e<;>(subst e;first|lia|(split<;>lia))
  have y:0<k->1<=far:=λhk=>by rcases ef with e|e<;>(subst e;first|lia|(split<;>lia))
  refine xB _ _ rfl ⟨rfl,⟨by decide,by decide⟩,xD p _ _ _ rfl ⟨rfl,Ab2 (K5 _ _ qA1 a9 ag),a8,?_⟩⟩
  have K6:=K3.trans ((qCR (d:=d) (c:=c) m (.lst [.int (if(4:Int)<k then 4 else k),.int k])).trans K5)
  have h6:H2 l=some (.lst (fs.map V.int)):=K5 _ _ (by rw[qAB (qA7 h3 m)];exact h3) nd nc
  refine ai _ _ ?_;refine xR rfl (xB _ _ rfl ⟨rfl,xR rfl ?_⟩);refine ite2 (λck=>?_) (λck=>?_)
  ·have hk:0<k:=of_decide_eq_true ck;refine xR rfl ⟨.inl ⟨rfl,_,Ab2 h6⟩,xR rfl (xB _ _ rfl ⟨rfl,xR rfl (xR rfl ⟨d,c,t'+1,xB v far rfl ⟨S5,(by show t'+1<=1000000000;lia),y hk,by lia,λk3 a0 H3 c0 c1 u K7=>?_⟩⟩)⟩)⟩
   have h7:=K7 _ _ h6 nd nc;refine xB _ _ rfl ⟨rfl,xC l _ _ rfl ⟨rfl,h7,qB2 (by rw[A0];lia),?_⟩⟩
   have S8:StAt (Ag H3 l (.lst (fs.map V.int++[.int (k-1-k3)]))) d c (t'+1+1) a0:=⟨by rw[qAB (J4 nd)];exact u.dict,by rw[qAB (J4 nc)];exact u.list,u.ne,u.len,u.pos⟩
   have hH:H l=none:=g;refine d1 _ _ ⟨t'+1+1,a0,fs++[k-1-k3],xB _ _ rfl ⟨S8,by lia,by lia,λb o e n1 n2=>?_,?_,?_,λx hx=>?_⟩⟩
   ·rw[qAB (qA7 e hH)];exact(K6.trans K7) b o e n1 n2
   ·rw[qA1,C4];rfl
   ·rw[A6,C1];lia
   ·rcases B7.mp hx with hx|hx
    ·exact m3 x hx
    ·rw[B3.mp hx];lia
  ·exact d1 _ _ ⟨t'+1,xD v fs _ _ rfl ⟨S5,by lia,by lia,K6,h6,by lia,m3⟩⟩
 ·refineλσ Hc a4=>opq λaq a3=>?_;obtain⟨t',ms,fs,v1,v2,rfl,S3,a1,a2,K3,h3,l3,m3⟩:=a4;refine a3 ?_;refine aa _ _ ?_;refine xR rfl (xB l fs rfl ⟨Ab2 h3,by lia,λa ha=>?_⟩)
  have af:=qA4 ha (SetO w a (dedI fs));refine⟨a,dedI fs,rfl,.inr (.inr qA1),k9 (qJ3 fs) (by lia),λb zs hb m hs=>?_⟩
  have ah:=af.trans (qA4 hb (.lst (zs.map V.int)));refine xB b _ rfl (.inl ⟨Ab2 qA1,λr ab=>?_⟩);have a5:=ah.trans (qA4 ab (.tup (zs.map V.int)));exact q r zs t' ms _ (S3.same a5) (by lia) (by lia) (K3.trans (.of_same a5)) qA1 (qMG m hs m3)
theorem sc_Ltree_net:FnScope ["_law_state","_law_many","_law_open_ones","_law_found","_law_k","_law_so_many"] ["_law_state","_law_many"] (qAA qEO):=qBU
theorem ok_Ltree_net (F:Fun K "_law_tree_net" "_law_tree_net" qEO f fd) (qAV:Clb P w K mg base 1 qEW qES "_law_take" ["_law_state","_law_many"] qIB)
  (qBC:mg "range" = none) (qKL:mg "min" = none) (qAS:mg "tuple" = none) (qB1:mg "len" = none):FnOk P w K mg base CX0 2 f fd ["_law_state","_law_many"] qXP:=by
 refine F.okA sc_Ltree_net λb3 A aq s H vs Q E hr h=>?_;obtain⟨d,c,t,ns,m,rfl,S,ht,b0,az,q⟩:=h;have ay:t<=1000000000-1000:=ht;have b1:Room 1 _:=hr;refine⟨_,(qA3 (qAE (i:=2) sc_Ltree_net.nd rfl (F3 rfl) (qBH qA2)) (qA3 (qAE (i:=3) sc_Ltree_net.nd rfl (F3 rfl) (qBH qA2)) (qA3 (qDM L5 rfl (qBE rfl qBC (qA0 (qAO qDO (pv 1) qA5) qA2)) (qBD (i:=4) sc_Ltree_net.nd rfl (F3 rfl)) (qA3 (qAE (i:=5) sc_Ltree_net.nd rfl (F3 rfl) (qA8 (qHJ rfl) rfl qKL qP2 (qA0 (qA8 qA9 rfl qB1 qB7 (qA0 (pv 2) qA2)) (qA0 (qAT qCO (qBH (qA0 qA5 (qA0 qA5 (qA0 qA5 (qA0 qA5 (qA0 qA5 (qA0 qA5 qA2))))))) (qAP qAV hr rfl (qA0 (pv 0) (qA0 qA5 qA2))) (λ_ _=>rfl)) qA2)))) (qA3 (qEP (qO0 M5 T5 T6 qED (pv 3) (qA0 (qAJ qAU rfl qAS qB5 (qA0 (qAY qCM (pv 2) (qB3 (qAO qDO (qA8 qA9 rfl qB1 qB7 (qA0 (pv 2) qA2)) (pv 5))) qBK) qA2)) qA2))) (qA6 (qAE (i:=2) sc_Ltree_net.nd rfl (F3 rfl) (qAO qG8 (qAY qCM (pv 2) qBK (qB3 (qAO qDO (qA8 qA9 rfl qB1 qB7 (qA0 (pv 2) qA2)) (pv 5)))) (qBH (qA0 (pv 4) qA2)))))))) (qA6 (qAD (qAJ qAU rfl qAS qB5 (qA0 (qAO qG8 (pv 3) (qBH (qA0 (qAJ qAU rfl qAS qB5 (qA0 (pv 2) qA2)) qA2))) qA2))))))),?_⟩
 try dsimp only[Cx.nox,Cx.wish,cxOf]
 refine cut λN0 ao=>?_;refine⟨(by show 0<=B75;decide),λo0 a3=>?_⟩
 refine ao _ _ (cut λN1 ah=>?_);have S1:=S.new a3 (.lst []);refine⟨(by show 0<=B75;decide),λj y=>?_⟩
 have S2:=S1.new y (.lst []);have nd:j ≠ d:=(qA7 S1.dict y).symm;have nc:j ≠ c:=(qA7 S1.list y).symm;have ae:o0 ≠ j:=qA7 qA1 y;have hF:H j=none:=(qA4 a3 _).free y;refine ah _ _ (cut fun N2 ak=>?_);refine ⟨_,rfl,_,_,rfl,rfl,m - 1,rfl,by lia,by lia,qDS (lo:=0) (n:=(m - 1).toNat) (fun i σ Hc=>∃ (t':Int) (ms os:List Int) (o:Addr) (rs:List Addr) (Ae:Aa0) (v1 v2:Option V),σ=[some (.ref d),some (.int m),some (.ref o),some (.ref j),v1,v2]/\StAt Hc d c t' ms/\t<=t'/\t'<=t+i/\Keep d c H Hc/\
  Hc o=some (.lst (os.map V.int))/\(o≠j/\o≠c)/\Hc j=some (.lst (rs.map V.ref))/\NetL Hc rs Ae/\Ae.length=i/\WFn Ae/\Rise (i:Int) os)
  ⟨t,ns,[],o0,[],[],none,none,rfl,S2,by lia,by lia,(qCR a3 _).trans (qCR y _),by rw[qAB ae];exact qA1,⟨ae,(qA7 S.list a3).symm⟩,qA1,.nil,rfl,WFn.nil,Rise.nil⟩ ?_ ?_⟩
 ·refineλi σ Hc hi ad=>opq λaw a7=>?_;obtain⟨t',ms,os,o,rs,Ae,v1,v2,rfl,S3,a1,a2,K3,h3,⟨n3,ac⟩,f3,N3,l3,w3,r3⟩:=ad;refine a7 ?_;have b2:os.length<=i:=r3.len;refine nmD λD1 d1 dr=>cut λM0 au=>?_;refine xR rfl (xB o _ rfl ⟨.inl (Ab2 h3),(by show 6<=B75;decide),λp hp=>?_⟩)
  have S4:=S3.new hp (.lst [.int 0,.int 0,.int 1,.int 2,.int 2,.int 3]);have ag:p≠d:=(qA7 S3.dict hp).symm;have ar:p≠c:=(qA7 S3.list hp).symm;refine xR rfl (xE d c t' ms 6 rfl ⟨S4,(by show t'<=1000000000;lia),by decide,by decide,λk2 a8 H2 g0 g6 S5 K5=>?_⟩)
  obtain⟨v,hv,v0,v3⟩:=qdA g0 g6;refine xD p _ _ _ rfl ⟨rfl,Ab2 (K5 _ _ qA1 ag ar),hv,?_⟩;have sm:Same Hc (Ag Hc p (.lst [.int 0,.int 0,.int 1,.int 2,.int 2,.int 3])):=qA4 hp _;have K6:=(Keep.of_same (d:=d) (c:=c) sm).trans K5;have an:o≠d:=qFB h3 S3.dict (by intro z;cases z)
  have h6:H2 o=some (.lst (os.map V.int)):=K6 _ _ h3 an ac;have f6:H2 j=some (.lst (rs.map V.ref)):=K6 _ _ f3 nd nc;have N6:NetL H2 rs Ae:=N3.keep (λr zs e=>S3.tup e) K6;refine xB _ _ rfl ?_;dsimp only;have ap:0<=(if v<(((os.map V.int).length:Nat):Int) then v else(((os.map V.int).length:Nat):Int)):=by split<;>lia
  have ai:(if v<(((os.map V.int).length:Nat):Int) then v else(((os.map V.int).length:Nat):Int))<=(os.length:Int):=by rw[A0];split<;>lia
  generalize (if v<(((os.map V.int).length:Nat):Int) then v else(((os.map V.int).length:Nat):Int))=so at ap ai
  obtain⟨g,ek⟩:∃g:Nat,(os.length:Int)-so=(g:Int):=⟨((os.length:Int)-so).toNat,by lia⟩
  have a9:(((os.map V.int).length:Nat):Int)-so=(g:Int):=by rw[A0];exact ek
  have av:g<=os.length:=by lia
  -- found.append(tuple(open_ones[len(open_ones)-so_many:]))
  refine au _ _ (cut λM1 af=>?_);refine xR rfl ⟨.inl ⟨rfl,_,Ab2 f6⟩,xR rfl (xR rfl (xB o _ rfl ⟨.inl (Ab2 h6),xR rfl (xB _ _ rfl ⟨rfl,xR rfl (xB o _ rfl ⟨Ab2 h6,λp1 am=>?_⟩)⟩)⟩))⟩;refine xB p1 _ rfl (.inl ⟨Ab2 qA1,λr a4=>?_⟩);rw[a9,qBG,qKE _ _ av] at a4 ⊢;have l:=(qA4 am (.lst ((os.drop g).map V.int))).trans (qA4 a4 (.tup ((os.drop g).map V.int)));have f7:=l _ _ f6;have h7:=l _ _ h6;have N7:NetL _ (rs++[r]) (Ae++[os.drop g]):=qE0 (N6.same λr zs e=>l _ _ e) (show(Ag (Ag H2 p1 (.lst ((os.drop g).map V.int))) r (.tup ((os.drop g).map V.int))) r=some (.tup ((os.drop g).map V.int)) from qA1);have S7:=S5.same l;have K7:=K6.trans (.of_same l);generalize (Ag (Ag H2 p1 (.lst ((os.drop g).map V.int))) r (.tup ((os.drop g).map V.int)))=H7 at f7 h7 N7 S7 K7 ⊢;refine xC j _ _ rfl ⟨rfl,f7,qB2 (by rw[A0,NetAt.len N3];lia),?_⟩
  have e8:rs.map V.ref++[V.ref r]=(rs++[r]).map V.ref:=by rw[C4];rfl
  rw[e8];have S8:StAt (Ag H7 j (.lst ((rs++[r]).map V.ref))) d c (t'+1) a8:=⟨by rw[qAB (J4 nd)];exact S7.dict,by rw[qAB (J4 nc)];exact S7.list,S7.ne,S7.len,S7.pos⟩
  have h8:(Ag H7 j (.lst ((rs++[r]).map V.ref))) o=some (.lst (os.map V.int)):=by rw[qAB n3];exact h7
  have N8:NetL (Ag H7 j (.lst ((rs++[r]).map V.ref))) (rs++[r]) (Ae++[os.drop g]):=N7.same λr' zs e=>by rw[qAB (qFB e f7 (by intro z;cases z))];exact e
  have K8:Keep d c H (Ag H7 j (.lst ((rs++[r]).map V.ref))):=λb u e n1 n2=>by rw[qAB (qA7 e hF)];exact(K3.trans K7) b u e n1 n2
  have f8:(Ag H7 j (.lst ((rs++[r]).map V.ref))) j=some (.lst ((rs++[r]).map V.ref)):=qA1;generalize Ag H7 j (.lst ((rs++[r]).map V.ref))=H8 at S8 h8 N8 K8 f8 ⊢
  -- open_ones=open_ones[:len(open_ones)-so_many]+[k]
  refine af _ _ ?_;refine xR rfl (xR rfl (xB o _ rfl ⟨.inl (Ab2 h8),xR rfl (xB _ _ rfl ⟨rfl,xR rfl (xB o _ rfl ⟨Ab2 h8,λp2 a0=>?_⟩)⟩)⟩));rw[a9,qBG,qQ6];refine xR rfl ⟨(by show 1<=B75;decide),λp3 a5=>?_⟩
  have aj:p2≠p3:=qA7 qA1 a5;refine xD p2 p3 _ _ rfl ⟨rfl,by rw[qAB aj];exact qA1,qA1,F5 (qB2 (by rw[A0,C9,C1];lia)),λp4 a6=>?_⟩
  have x:=((qA4 a0 (.lst ((os.take g).map V.int))).trans (qA4 a5 (.lst [.int (0+(i:Int))]))).trans (qA4 a6 (.lst ((os.take g).map V.int++[.int (0+(i:Int))])));have e9:(os.take g).map V.int++[V.int (0+(i:Int))]=(os.take g++[(i:Int)]).map V.int:=by rw[C4,Int.zero_add];rfl
  have al:p4≠j:=(qA7 ((qA4 a5 _) _ _ ((qA4 a0 _) _ _ f8)) a6).symm;have as:p4≠c:=(qA7 ((qA4 a5 _) _ _ ((qA4 a0 _) _ _ S8.list)) a6).symm;refine d1 _ _ ⟨t'+1,a8,os.take g++[(i:Int)],p4,rs++[r],Ae++[os.drop g],xB _ _ rfl ⟨S8.same x,by lia,by lia,K8.trans (.of_same x),by rw[<- e9];exact qA1,⟨al,as⟩,x _ _ f8,N8.same λr' zs e=>x _ _ e,by rw[A6,C1,l3],w3.snoc ?_,?_⟩⟩
  ·rw[l3];exact r3.sub (c9 _ _)
  ·have:=(r3.sub (n9 g os)).snoc (by lia)
   rw[show((i+1:Nat):Int)=(i:Int)+1 by lia]
   exact this
 ·refineλσ Hc aa=>opq λax ab=>?_;obtain⟨t',ms,os,o,rs,Ae,v1,v2,rfl,S3,a1,a2,K3,h3,⟨n3,ac⟩,f3,N3,l3,w3,r3⟩:=aa;refine ab ?_;refine ak _ _ ?_;refine xR rfl (xR rfl (xB o _ rfl (.inl ⟨Ab2 h3,λr a4=>?_⟩)));refine⟨(by show 1<=B75;decide),λp hp=>?_⟩
  have l:=(qA4 a4 (.tup (os.map V.int))).trans (qA4 hp (.lst [.ref r]));refine xD j p _ _ rfl ⟨rfl,l _ _ f3,qA1,F5 (qB2 (by rw[A0,NetAt.len N3,C1];lia)),λp2 a0=>?_⟩
  refine xB p2 _ rfl (.inl ⟨Ab2 qA1,λa ha=>?_⟩);have x:=(l.trans (qA4 a0 (.lst (rs.map V.ref++[.ref r])))).trans (qA4 ha (.tup (rs.map V.ref++[.ref r])));have gr:=(qA4 ha (.tup (rs.map V.ref++[.ref r]))) _ _ ((qA4 a0 (.lst (rs.map V.ref++[.ref r]))) _ _ ((qA4 hp (.lst [.ref r])) r _ (qA1 (H:=Hc) (o:=.tup (os.map V.int)))));have e8:rs.map V.ref++[V.ref r]=(rs++[r]).map V.ref:=by rw[C4];rfl
  refine q a (Ae++[os]) t' ms _ (S3.same x) (by lia) (by lia) (K3.trans (.of_same x)) ⟨rs++[r],by rw[<- e8];exact qA1,qE0 (N3.same λr' zs e=>x _ _ e) gr⟩ (w3.snoc (by rw[l3];exact r3)) ?_
  rw[A6,C1,l3]
  lia
theorem sc_Lnet:FnScope ["_law_state","_law_many","_law_way","_law_wide","_law_some","_law_half"] ["_law_state","_law_many"] (qAA qQK):=qBU
theorem ok_Lnet (F:Fun K "_law_net" "_law_net" qQK f fd) (qAV:Clb P w K mg base 1 qEW qES "_law_take" ["_law_state","_law_many"] qIB)
  (b6:Clb P w K mg base 2 qEX qLA "_law_some_needs" ["_law_state","_law_k"] qPF)
  (bz:Clb P w K mg base 2 qGM qOU "_law_tree_net" ["_law_state","_law_many"] qXP)
  (qBC:mg "range" = none) (ch:mg "max" = none) (qHT:mg "int" = none) (cg:mg "enumerate" = none) (qAS:mg "tuple" = none) (qCD:mg "sorted" = none) (qNM:mg "set" = none):FnOk P w K mg base CX0 3 f fd ["_law_state","_law_many"] qaR:=by
 refine F.okA sc_Lnet λd3 A cf s H vs Q E hr h=>?_;obtain⟨d,c,t,ns,m,rfl,S,ht,c8,c7,q⟩:=h;have cw:t<=1000000000-10000:=ht;have cq:Room 2 _:=hr;have d5:Room 2 _:=hr;refine⟨_,(qA3 (qAE (i:=2) sc_Lnet.nd rfl (F3 rfl) (qAP qAV hr rfl (qA0 (pv 0) (qA0 qA5 qA2)))) (qA3 (qAE (i:=3) sc_Lnet.nd rfl (A53 rfl) (qAO qBT qA5 (qAP qAV hr rfl (qA0 (pv 0) (qA0 qA5 qA2))))) (qA3 (qB8 (qAF qCL (pv 2) qA5 (qAL _)) (qA6 (qAD (qAJ qAU rfl qAS qB5 (qA0 (qE5 rfl (lcs (own:=["_law_k"]) (fv:=[3]) (by kernel_rfl)) (qBE rfl qBC (qA0 (pv 1) qA2)) (λz1=>qCC 0) (λz1=>qBM) (λz1=>(qAJ (qLG rfl) rfl qAS qB5 (qA0 (qAJ qVR rfl qBC qXG (qA0 (qA8 (qVS rfl) rfl ch qcB (qA0 qA5 (qA0 (qAO qDO (pv 0) (pv 1)) qA2))) (qA0 (pv 0) qA2))) qA2)))) qA2)))) qAH) (qA3 (qB8 (qAF qCL (pv 2) qA5 (qAL _)) (qA3 (qPP (i:=4) sc_Lnet.nd rfl rfl rfl (lcs (own:=["_law_k"]) (fv:=[3]) (by kernel_rfl)) (qBE rfl qBC (qA0 (pv 1) qA2)) (λz2=>qCC 0) (λz2=>qBM) (λz2=>(qAO qG8 (qAO qU1 (qBH (qA0 (qAO qDO (pv 0) (pv 1)) qA2)) (qAJ qHK rfl qHT qLZ (qA0 (qCN qbB (pv 0) (pv 1) (qAL _)) qA2))) (qAO qU1 (qBH (qA0 (qAO qDO (pv 0) qA5) qA2)) (qAJ qHK rfl qHT qLZ (qA0 (qCN qO6 (qAO qJO (pv 0) (pv 1)) qA5 (qAL _)) qA2))))) (by kernel_rfl)) (qA6 (qAD (qAJ qAU rfl qAS qB5 (qA0 (qE5 rfl (lcs (own:=["_law_needs"]) (fv:=[]) (by kernel_rfl)) (qBW (pv 4)) (λz3=>qCC 0) (λz3=>qBM) (λz3=>(qAJ (qKG (K:=K) rfl) rfl qAS qB5 (qA0 (qA8 (qP1 (K:=K) (w:=w) rfl rfl rfl) rfl qCD qFM (qA0 (qAJ (qVQ (K:=K) (w:=w) rfl rfl rfl) rfl qNM qRN (qA0 (pv 0) qA2)) qA2)) qA2)))) qA2))))) qAH) (qA3 (qB8 (qAF qCL (pv 2) qA5 (qAL _)) (qA6 (qAD (qAP bz hr rfl (qA0 (pv 0) (qA0 (pv 1) qA2))))) qAH) (qA3 (qB8 (qAF qCL (pv 2) qA5 (qAL _)) (qA3 (qAE (i:=5) sc_Lnet.nd rfl (A53 rfl) (qAO qML (pv 1) qA5)) (qA3 (qPP (i:=4) sc_Lnet.nd rfl rfl rfl (lcs (own:=["_law_k"]) (fv:=[0,5]) (by kernel_rfl)) (qBE rfl qBC (qA0 (pv 1) qA2)) (λz4=>qCC 0) (λz4=>qBM) (λz4=>(qAP b6 hr rfl (qA0 (pv 1) (qA0 (qEQ (qAF qU2 (pv 0) (pv 2) (qAL _)) (pv 0) (qAO qDO (pv 0) (pv 2))) qA2)))) (by kernel_rfl)) (qA6 (qAD (qAJ qAU rfl qAS qB5 (qA0 (qE5 rfl (lcs (own:=["_law_k","_law_needs"]) (fv:=[5]) (by kernel_rfl)) (qZ4 rfl cg qP3 (qA0 (pv 4) qA2)) (λz5=>qTU (K:=K) (n:=2) rfl rfl (qBV (qCC 0) (qBV (qCC 1) qHX)) rfl rfl) (λz5=>qBM) (λz5=>(qEQ (qAF qU2 (pv 0) (pv 2) (qAL _)) (pv 1) (qAJ (qKG (K:=K) rfl) rfl qAS qB5 (qA0 (qE5 (X:=lcCx _ _ _ _ z5) rfl (lcs (own:=["_law_n"]) (fv:=[2]) (by kernel_rfl)) (qZ3 (K:=K) rfl (pv 1)) (λz6=>qCC 0) (λz6=>qBM) (λz6=>(qAO qBT (pv 0) (pv 1)))) qA2))))) qA2)))))) qAH) (qA6 (qAD (qAJ qAU rfl qAS qB5 (qA0 (qE5 rfl (lcs (own:=["_law_k"]) (fv:=[0]) (by kernel_rfl)) (qBE rfl qBC (qA0 (pv 1) qA2)) (λz7=>qCC 0) (λz7=>qBM) (λz7=>(qAP b6 hr rfl (qA0 (pv 1) (qA0 (pv 0) qA2))))) qA2)))))))))),?_⟩
 try dsimp only[Cx.nox,Cx.wish,cxOf]
 refine cut λN1 bw=>?_;refine xR rfl (xE d c t ns 8 rfl ⟨S,(by show t<=1000000000;lia),by decide,by decide,λcz ca H1 w0 w8 S1 K1=>?_⟩)
 refine bw _ _ (cut λN2 c3=>?_);refine xR rfl ⟨d,c,t+1,xB ca 4 rfl ⟨S1,(by show t+1<=1000000000;lia),by decide,by decide,λwd ag H2 cy d0 S2 K2=>(xB _ _ rfl ⟨rfl,?_⟩)⟩⟩
 dsimp only;have ac:=K1.trans K2;generalize hwide:(1:Int)+wd=k;have d6:1<=k:=by lia
 have cr:k<=4:=by lia
 refine c3 _ _ (cut λN3 cb=>?_);refine xR rfl ⟨rfl,xR rfl ?_⟩;refine ite2 (λ_=>?_) (λ_=>?_)
 ·refine xR rfl ⟨m,rfl,by lia,by lia,λp hp=>?_⟩
  refine qD7 (p:=p) (lo:=0) (n:=m.toNat) (λi σ Hc=>∃(v:Option V) (rs:List Addr) (Ae:Aa0),σ=[v,some (.int k)]/\Same H2 Hc/\Hc p=some (.lst (rs.map V.ref))/\NetL Hc rs Ae/\Ae.length=i/\WFn Ae) ?_ ?_ ?_
  ·exact⟨none,[],[],rfl,qA4 hp _,qA1,.nil,rfl,WFn.nil⟩
  ·refineλi σ Hc hi bo=>opq λcx bp=>?_;obtain⟨v,rs,Ae,rfl,sm,o,N,hl,wf⟩:=bo;refine bp ?_;refine xR rfl (xR rfl (xB _ _ rfl ⟨rfl,xB 0 _ rfl (xR rfl (xB _ _ rfl λp1 b7=>?_))⟩));refine xC p1 _ _ rfl ⟨qA1,by split<;>lia,by split<;>lia,by lia,by lia,λr a8=>?_⟩
   have cd:0<=(if(0+(i:Int))-k>0 then(0+(i:Int))-k else 0):=by split<;>lia
   have bk:=qPO (hi:=0+(i:Int)) cd;dsimp only;rw[qPN];generalize qB6 (if(0+(i:Int))-k>0 then(0+(i:Int))-k else 0) (0+(i:Int))=l at bk ⊢
   generalize HO.rng (if(0+(i:Int))-k>0 then(0+(i:Int))-k else 0) (0+(i:Int))=ho at b7 a8 ⊢
   have u:=(qA4 b7 ho).trans (qA4 a8 (.tup (l.map V.int)));have g1:=u _ _ o;refine⟨_,g1,qB2 (by rw[A0,NetAt.len N];lia),?_⟩
   rw[qBF];refine⟨_,rs++[r],Ae++[l],rfl,qAK (sm.trans u) hp,qA1,qFT (qE0 (N.same λr' ys e=>u _ _ e) qA1) g1,by rw[A6,C1,hl],wf.snoc ?_⟩
   rw[hl];exact bk.mono (by lia)
  ·refineλσ Hc bg=>opq λd4 bb=>?_;obtain⟨v,rs,Ae,rfl,sm,o,N,hl,wf⟩:=bg;refine bb ?_;refine xB p _ rfl (.inl ⟨Ab2 o,λa ha=>?_⟩);have u:=qA4 ha (.tup (rs.map V.ref));exact q a Ae (t+1+1) ag _ (S2.same (sm.trans u)) (by lia) (by lia) (ac.trans (.of_same (sm.trans u))) ⟨rs,qA1,N.same λr ys e=>u _ _ e⟩ wf (by rw[hl];lia)
 refine cb _ _ (cut λN4 ci=>?_);refine xR rfl ⟨rfl,xR rfl ?_⟩;refine ite2 (λ_=>?_) (λ_=>?_)
 ·refine xR rfl ⟨m,rfl,by lia,by lia,λp hp=>?_⟩
  refine qD7 (p:=p) (lo:=0) (n:=m.toNat) (fun i σ Hc=>∃ (v:Option V) (rs:List Addr) (ls:Aa0),σ=[v,some (.int k)]/\Same H2 Hc/\Hc p=some (.lst (rs.map V.ref))/\Paired (fun r l=>r ≠ p/\Hc r=some (.lst (l.map V.int))) rs ls/\ls.length=i/\
   ∀(j:Nat) l,ls[j]?=some l->l.length<=2/\∀x∈l,0<=x/\x<(j:Int)) ?_ ?_ ?_
  ·exact⟨none,[],[],rfl,qA4 hp _,qA1,.nil,rfl,λj l e=>by simp at e⟩
  ·refineλi σ Hc hi bh=>opq λcs b4=>?_;obtain⟨v,rs,ls,rfl,sm,o,N,hl,wf⟩:=bh;refine b4 ?_;refine xR rfl (xR rfl (xB _ _ rfl ⟨rfl,(by show 1<=B75;decide),λa1 c4=>?_⟩))
   refine xR rfl (xR rfl (xB _ _ rfl ⟨rfl,.inr (xR rfl ?_)⟩));refine xC a1 _ _ rfl ⟨rfl,qA1,by split<;>decide,by split<;>decide,?_,λa2 c0=>?_⟩
   ·have:∀b:Bool,[V.int (0+(i:Int)-k)].length*(if b=true then(1:Int) else 0).toNat<=B75:=by intro b;cases b<;>simp[B80]
    exact this _
   dsimp only;rw[qaZ];refine xR rfl (xB _ _ rfl ⟨rfl,(by show 1<=B75;decide),λa3 bc=>?_⟩)
   refine xR rfl (xR rfl (xB _ _ rfl ⟨rfl,(by show 0<k;lia),xB _ _ rfl ⟨rfl,.inr (xR rfl ?_)⟩⟩))
   refine xC a3 _ _ rfl ⟨rfl,qA1,by split<;>decide,by split<;>decide,?_,λa4 bj=>?_⟩
   ·have:∀b:Bool,[V.int (0+(i:Int)-1)].length*(if b=true then(1:Int) else 0).toNat<=B75:=by intro b;cases b<;>simp[B80]
    exact this _
   dsimp only;rw[qaZ];have b1:∀x∈(if decide (k<=0+(i:Int))=true then[0+(i:Int)-k] else[]),0<=x/\x<(i:Int):=by
    intro x hx
    split at hx
    ·rename_i hd
     have:=of_decide_eq_true hd;rw[B3.mp hx];lia
    ·cases hx
   have b2:∀x∈(if decide (0<(0+(i:Int))%k)=true then[0+(i:Int)-1] else[]),0<=x/\x<(i:Int):=by
    intro x hx
    split at hx
    ·rename_i hd
     have ba:=of_decide_eq_true hd;have:(i:Int)≠0:=by
      intro e;rw[e] at ba;simp at ba
     rw[B3.mp hx];lia
    ·cases hx
   have c1:(if decide (k<=0+(i:Int))=true then[0+(i:Int)-k] else[]).length<=1:=by split<;>simp
   have c2:(if decide (0<(0+(i:Int))%k)=true then[0+(i:Int)-1] else[]).length<=1:=by split<;>simp
   generalize (if decide (k<=0+(i:Int))=true then[0+(i:Int)-k] else[])=z1 at b1 c1 bc bj ⊢
   generalize (if decide (0<(0+(i:Int))%k)=true then[0+(i:Int)-1] else[])=z2 at b2 c2 ⊢
   have s2:=(qA4 bc (.lst [.int (0+(i:Int)-1)])).trans (qA4 bj (.lst (z2.map V.int)));refine xD a2 a4 _ _ rfl ⟨rfl,s2 _ _ qA1,qA1,F5 (qB2 (by rw[A0,A0];lia)),λa5 b9=>?_⟩
   have u:=(qA4 c4 (.lst [.int (0+(i:Int)-k)])).trans (qA4 c0 (.lst (z1.map V.int)));have s3:=(u.trans s2).trans (qA4 b9 (.lst (z1.map V.int++z2.map V.int)));have e5:z1.map V.int++z2.map V.int=(z1++z2).map V.int:=by rw[C4]
   rw[e5] at s3 ⊢;have g1:=s3 _ _ o;have n5:a5≠p:=(qA7 ((u.trans s2) _ _ o) b9).symm;refine⟨_,g1,qB2 (by rw[A0,C5 N];lia),?_⟩
   rw[qBF];refine⟨_,rs++[a5],ls++[z1++z2],rfl,qAK (sm.trans s3) hp,qA1,Q5 (qCB N λr l e=>⟨e.1,by rw[qAB e.1];exact s3 _ _ e.2⟩) ⟨n5,by rw[qAB n5];exact qA1⟩,by rw[A6,C1,hl],λj l e=>?_⟩
   rcases qQI e with e|⟨rfl,rfl⟩
   ·exact wf j l e
   ·rw[hl];refine⟨by rw[A6];lia,λx hx=>?_⟩
    rcases B7.mp hx with hx|hx
    ·exact b1 x hx
    ·exact b2 x hx
  ·refineλσ Hc be=>opq λcu bf=>?_;obtain⟨v,rs,ls,rfl,sm,o,N,hl,wf⟩:=be;refine bf ?_;refine xR rfl ⟨p,rfl,⟨_,Ab2 o⟩,λp' ab=>?_⟩;refine qE7 (p:=p') (a:=p) (xs:=rs.map V.ref) (λi σ Hd=>∃(v:Option V) (rs':List Addr) (Ae:Aa0),σ=[v]/\Same Hc Hd/\Hd p'=some (.lst (rs'.map V.ref))/\NetL Hd rs' Ae/\Ae.length=i/\WFn Ae) ?_ ?_ ?_ ?_
   ·exact⟨none,[],[],rfl,qA4 ab _,qA1,.nil,rfl,WFn.nil⟩
   ·rintro i σ Hd hi ⟨v,rs',Ae,rfl,sm2,_⟩;exact Ab2 (sm2 _ _ o)
   ·refineλi x σ Hd hx bm=>opq λcv bl=>?_;obtain⟨v,rs',Ae,rfl,sm2,aa,N2,a0,a9⟩:=bm;obtain⟨r,a8,rfl⟩:=qC3 hx;obtain⟨l,hz,_,ay⟩:=qAN N a8;obtain⟨l2,m2⟩:=wf i l hz;refine bl ?_;refine xR rfl (xB r l rfl ⟨Ab2 (sm2 _ _ ay),by lia,λa ha=>?_⟩)
    refine⟨a,dedI l,rfl,.inr (.inr qA1),k9 (qJ3 l) (by lia),λb ys hb bu hs=>?_⟩
    refine xB b _ rfl (.inl ⟨Ab2 qA1,λr2 aw=>?_⟩);have u:=((qA4 ha (SetO w a (dedI l))).trans (qA4 hb (.lst (ys.map V.int)))).trans (qA4 aw (.tup (ys.map V.int)));have g1:=u _ _ aa;have c9:rs.length=m.toNat:=by rw[C5 N,hl]
    have hi:i<rs.length:=(B5.mp a8).1;refine⟨_,g1,qB2 (by rw[A0,NetAt.len N2];lia),?_⟩
    rw[qBF];refine⟨_,rs'++[r2],Ae++[ys],rfl,qAK (sm2.trans u) ab,qA1,qFT (qE0 (N2.same λr' b8 e=>u _ _ e) qA1) g1,by rw[A6,C1,a0],a9.snoc ?_⟩
    rw[a0];exact qMG bu hs m2
   ·refineλσ Hd bd=>opq λd1 bi=>?_;obtain⟨v,rs',Ae,rfl,sm2,aa,N2,a0,a9⟩:=bd;refine bi ?_;refine xB p' _ rfl (.inl ⟨Ab2 aa,λa ha=>?_⟩);have u:=qA4 ha (.tup (rs'.map V.ref));refine q a Ae (t+1+1) ag _ (S2.same ((sm.trans sm2).trans u)) (by lia) (by lia) (ac.trans (.of_same ((sm.trans sm2).trans u))) ⟨rs',qA1,N2.same λr ys e=>u _ _ e⟩ a9 ?_
    rw[a0,A0,C5 N,hl]
    lia
 refine ci _ _ (cut λN5 c5=>?_);refine xR rfl ⟨rfl,xR rfl ?_⟩;refine ite2 (λ_=>?_) (λ_=>?_)
 ·refine xR rfl (xR rfl ⟨d,c,t+1+1,xB ag m rfl ⟨S2,?_,c8,c7,λa Ae t' ms H' a1 a2 a3 a4 a5 a6 a7=>?_⟩⟩)
  ·show t+1+1<=1000000000-1000;lia
  ·exact q a Ae t' ms H' a1 (by lia) (by lia) (ac.trans a4) a5 a6 a7
 refine c5 _ _ (cut λN6 cc=>?_);refine xR rfl ⟨rfl,xR rfl ?_⟩;refine ite2 (λ_=>?_) (λ_=>?_)
 ·refine xR rfl (xB _ _ rfl ⟨rfl,⟨by decide,by decide⟩,?_⟩)
  dsimp only;have bn:0<=m/2:=by lia
  have bx:m/2<=m:=by lia
  generalize m/2=g at bn bx;refine xR rfl ⟨m,rfl,by lia,by lia,λp hp=>?_⟩
  refine qD7 (p:=p) (lo:=0) (n:=m.toNat) (fun i σ Hc=>∃ (v:Option V) (t':Int) (ms:List Int) (rs:List Addr) (Ae:Aa0),σ=[v,some (.ref d),some (.int g)]/\StAt Hc d c t' ms/\t+2<=t'/\t'<=t+2+9 * i/\Keep d c H2 Hc/\Hc p=some (.lst (rs.map V.ref))/\NetL Hc rs Ae/\Ae.length=i/\
   ∀(j:Nat) l,Ae[j]?=some l->Rise (if(j:Int)<g then(j:Int) else(j:Int)-g) l) ?_ ?_ ?_
  ·exact⟨none,t+1+1,ag,[],[],rfl,S2.new hp _,by lia,by lia,qCR hp _,qA1,.nil,rfl,λj l e=>by simp at e⟩
  ·refine fun i σ Hc hi b5=>opq fun d2 br=>?_;obtain ⟨v,t',ms,rs,Ae,rfl,S3,b1,b2,k3,o,N,hl,wf⟩:=b5;refine br ?_;have ad:p ≠ d:=(qA7 S2.dict hp).symm;have ae:p ≠ c:=(qA7 S2.list hp).symm;have nx:∀ (kk:Int),kk=(if (i:Int)<g then (i:Int) else (i:Int) - g)->qPF [.ref d,.int kk] Hc (fun y H4=>∃ ys,H4 p=some (.lst ys)/\ys.length<B75/\∃ (v:Option V) (t':Int) (ms:List Int) (rs:List Addr) (Ae:Aa0),[some (V.int (0+(i:Int))),some (.ref d),some (.int g)]=[v,some (.ref d),some (.int g)]/\StAt (Ag H4 p (.lst (ys++[y]))) d c t' ms/\t+2<=t'/\t'<=t+2+9 * (i+1:Nat)/\Keep d c H2 (Ag H4 p (.lst (ys++[y])))/\(Ag H4 p (.lst (ys++[y]))) p=some (.lst (rs.map V.ref))/\NetL (Ag H4 p (.lst (ys++[y]))) rs Ae/\Ae.length=i+1/\
     ∀(j:Nat) l,Ae[j]?=some l->Rise (if(j:Int)<g then(j:Int) else(j:Int)-g) l) E0:=by
    intro kk ek;refine xE d c t' ms kk rfl ⟨S3,(by show t'<=1000000000-20;lia),by rw[ek];split<;>lia,by rw[ek];split<;>lia,λr l am ak H3 e1 e2 e3 e4 e5 e6=>?_⟩
    have g1:=e4 _ _ o ad ae;refine⟨_,g1,qB2 (by rw[A0,NetAt.len N];lia),?_⟩
    rw[qBF];refine⟨_,am,ak,rs++[r],Ae++[l],rfl,⟨by rw[qAB (J4 ad)];exact e1.dict,by rw[qAB (J4 ae)];exact e1.list,e1.ne,e1.len,e1.pos⟩,by lia,by lia,qJ0 (k3.trans e4) hp,qA1,qFT (qE0 (N.keep (λr ys e=>S3.tup e) e4) e5) g1,by rw[A6,C1,hl],λj ys e=>?_⟩
    rcases qQI e with e|⟨rfl,rfl⟩
    ·exact wf j ys e
    ·rw[hl,<- ek];exact e6
   refine xR rfl (xR rfl (xR rfl (xB _ _ rfl ⟨rfl,xR rfl ?_⟩)));refine ite2 (λck=>?_) (λck=>?_)
   ·have af:0+(i:Int)<g:=of_decide_eq_true ck;exact xR rfl (nx _ (by rw[if_pos (by lia)];lia))
   ·have af:¬0+(i:Int)<g:=of_decide_eq_false (V7.mpr ck);exact xR rfl (xR rfl (xB _ _ rfl ⟨rfl,nx _ (by rw[if_neg (by lia)];lia)⟩))
  ·refineλσ Hc bq=>opq λct bt=>?_;obtain⟨v,t',ms,rs,Ae,rfl,S3,b1,b2,k3,o,N,hl,wf⟩:=bq;refine bt ?_;have c9:rs.length=m.toNat:=by rw[C5 N,hl]
   refine xR rfl ⟨p,rfl,⟨_,Ab2 o⟩,λp' ab=>?_⟩;refine qZH (p:=p') (a:=p) (xs:=rs.map V.ref) (λi σ Hd=>∃(v1 v2:Option V) (rs':List Addr) (net':Aa0),σ=[v1,v2,some (.int g)]/\Same Hc Hd/\Hd p'=some (.lst (rs'.map V.ref))/\NetL Hd rs' net'/\net'.length=i/\WFn net') ?_ ?_ ?_ ?_
   ·exact⟨none,none,[],[],rfl,qA4 ab _,qA1,.nil,rfl,WFn.nil⟩
   ·rintro i σ Hd hi ⟨v1,v2,rs',net',rfl,sm2,_⟩;exact Ab2 (sm2 _ _ o)
   ·refineλi x σ Hd T hx ap hT=>opq λcl an=>?_;obtain⟨v1,v2,rs',net',rfl,sm2,aa,N2,a0,a9⟩:=ap;obtain⟨r,a8,rfl⟩:=qC3 hx;obtain⟨l,hz,ay⟩:=qAN N a8;refine an ?_;have hi:i<rs.length:=(B5.mp a8).1;have rz:=wf i l hz;have sT:=qA4 hT (.tup [.int (i:Int),.ref r]);have ai:=sT _ _ (sm2 _ _ ay);have aj:=sT _ _ aa;have NT:=N2.same λr' b8 e=>sT _ _ e;have al:=sm2.trans sT;have gT:SqT K (Ag Hd T (.tup [.int (i:Int),.ref r])) T [.int (i:Int),.ref r]:=Ac0 qA1;generalize Ag Hd T (.tup [.int (i:Int),.ref r])=ce at ai aj NT al gT ⊢;refine xB T _ rfl ⟨gT,rfl,xB _ _ rfl (xB _ _ rfl ⟨rfl,?_⟩)⟩;refine xR rfl (xR rfl (xB _ _ rfl ⟨rfl,xR rfl ?_⟩));refine ite2 (λck=>?_) (λck=>?_)
    ·have af:(i:Int)<g:=of_decide_eq_true ck;rw[if_pos af] at rz;refine xR rfl ⟨_,aj,qB2 (by rw[A0,NetAt.len N2];lia),?_⟩
     rw[qBF];refine⟨_,_,rs'++[r],net'++[l],rfl,qAK al ab,qA1,qFT (qE0 NT ai) aj,by rw[A6,C1,a0],a9.snoc ?_⟩
     rw[a0];exact rz
    ·have af:¬(i:Int)<g:=of_decide_eq_false (V7.mpr ck);rw[if_neg af] at rz;have lz:l.length<=i:=by
      have e:((i:Int)-g)=(((i:Int)-g).toNat:Nat):=by lia
      rw[e] at rz;have:=rz.len
      lia
     refine xR rfl ⟨r,rfl,⟨_,Ac0 ai⟩,λp2 bs=>?_⟩;refine qOF (p:=p2) (a:=r) (xs:=l.map V.int) (λj σ He=>∃(v:Option V),σ=[v,some (.int g)]/\Same ce He/\He p2=some (.lst (((l.take j).map (·+g)).map V.int))) ?_ ?_ ?_ ?_
     ·exact⟨none,rfl,qA4 bs _,qA1⟩
     ·rintro j σ He hj ⟨v,rfl,sm3,_⟩;exact Ac0 (sm3 _ _ ai)
     ·refineλj x σ He c6 ar=>opq λcn ax=>?_;obtain⟨v,rfl,sm3,ah⟩:=ar;obtain⟨z,bv,rfl⟩:=qI2 c6;refine ax ?_;refine xR rfl (xR rfl (xB _ _ rfl ⟨rfl,_,ah,qB2 (by rw[A0,A0,C9];lia),xR rfl ⟨qAK sm3 bs,?_⟩⟩))
      rw[qA1,E8,bv,E9,C4,C4]
      rfl
     ·refineλσ He au=>opq λcp ao=>?_;obtain⟨v,rfl,sm3,ah⟩:=au;refine ao ?_;rw[A0,D3 (B4 _)] at ah;refine xB p2 _ rfl (.inl ⟨Ab2 ah,λr2 aw=>?_⟩);have u:=qA4 aw (.tup ((l.map (·+g)).map V.int));have s2:=sm3.trans u;have g1:=s2 _ _ aj;refine⟨_,g1,qB2 (by rw[A0,NetAt.len N2];lia),?_⟩
      rw[qBF];refine⟨_,_,rs'++[r2],net'++[l.map (·+g)],rfl,qAK (al.trans s2) ab,qA1,qFT (qE0 (NT.same λr' b8 e=>s2 _ _ e) qA1) g1,by rw[A6,C1,a0],a9.snoc ?_⟩
      rw[a0];have:=rz.shift bn;rw[show(i:Int)-g+g=(i:Int) by lia] at this
      exact this
   ·refineλσ Hd av=>opq λco aq=>?_;obtain⟨v1,v2,rs',net',rfl,sm2,aa,N2,a0,a9⟩:=av;refine aq ?_;refine xB p' _ rfl (.inl ⟨Ab2 aa,λa ha=>?_⟩);have u:=qA4 ha (.tup (rs'.map V.ref));refine q a net' t' ms _ (S3.same (sm2.trans u)) (by lia) (by lia) (ac.trans (k3.trans (.of_same (sm2.trans u)))) ⟨rs',qA1,N2.same λr ys e=>u _ _ e⟩ a9 ?_
    rw[a0,A0,C5 N,hl]
    lia
 refine cc _ _ ?_;refine xR rfl ⟨m,rfl,by lia,by lia,λp hp=>?_⟩
 refine qD7 (p:=p) (lo:=0) (n:=m.toNat) (λi σ Hc=>∃(v:Option V) (t':Int) (ms:List Int) (rs:List Addr) (Ae:Aa0),σ=[v,some (.ref d)]/\StAt Hc d c t' ms/\t+2<=t'/\t'<=t+2+9*i/\Keep d c H2 Hc/\Hc p=some (.lst (rs.map V.ref))/\NetL Hc rs Ae/\Ae.length=i/\WFn Ae) ?_ ?_ ?_
 ·exact⟨none,t+1+1,ag,[],[],rfl,S2.new hp _,by lia,by lia,qCR hp _,qA1,.nil,rfl,WFn.nil⟩
 ·refineλi σ Hc hi b3=>opq λcj as=>?_;obtain⟨v,t',ms,rs,Ae,rfl,S3,b1,b2,k3,o,N,hl,wf⟩:=b3;refine as ?_;have ad:p≠d:=(qA7 S2.dict hp).symm;have ae:p≠c:=(qA7 S2.list hp).symm;refine xR rfl (xR rfl ⟨d,c,t',ms,0+(i:Int),rfl,S3,(by show t'<=1000000000-20;lia),by lia,by lia,λr l am ak H3 e1 e2 e3 e4 e5 e6=>?_⟩)
  have g1:=e4 _ _ o ad ae;refine⟨_,g1,qB2 (by rw[A0,NetAt.len N];lia),?_⟩
  rw[qBF];refine⟨_,am,ak,rs++[r],Ae++[l],rfl,⟨by rw[qAB (J4 ad)];exact e1.dict,by rw[qAB (J4 ae)];exact e1.list,e1.ne,e1.len,e1.pos⟩,by lia,by lia,qJ0 (k3.trans e4) hp,qA1,qFT (qE0 (N.keep (λr ys e=>S3.tup e) e4) e5) g1,by rw[A6,C1,hl],wf.snoc ?_⟩
  rw[hl];exact e6.mono (by lia)
 ·refineλσ Hc b0=>opq λcm az=>?_;obtain⟨v,t',ms,rs,Ae,rfl,S3,b1,b2,k3,o,N,hl,wf⟩:=b0;refine az ?_;refine xB p _ rfl (.inl ⟨Ab2 o,λa ha=>?_⟩);have u:=qA4 ha (.tup (rs.map V.ref));exact q a Ae t' ms _ (S3.same u) (by lia) (by lia) (ac.trans (k3.trans (.of_same u))) ⟨rs,qA1,N.same λr ys e=>u _ _ e⟩ wf (by rw[hl];lia)
theorem qWD:FnScope ["_law_found","_law_due"] ["_law_found","_law_due"] (qAA qJI):=qBU
def spS:Nat->Sp
 |0=>λ_ _ _ _=>False
 |n+1=>qcZ n
theorem ok_Lsame_step {n:Nat} {r:Addr} {a9:B88} (F:Fun K "_law_same" "_law_same" qJI f fd) (aa:FnOk P w K mg base CX0 n r a9 ["_law_found","_law_due"] (spS n)) (qGO:Binds K a9 ["_law_found","_law_due"] []) (qMW:M8 K (.ref r)=true) (qGG:mg "_law_same" = some (.ref r))
  (qAC:mg "isinstance" = none) (qDK:mg "list" = none) (qAS:mg "tuple" = none) (qM5:mg "str" = none) (qHT:mg "int" = none) (qG5:mg "bool" = none) (qB1:mg "len" = none) (qKM:mg "all" = none) (qRT:mg "zip" = none):FnOk P w K mg base CX0 (n+1) f fd ["_law_found","_law_due"] (spS (n+1)):=by
 refine F.okA qWD λaj A ae s H vs Q E hr h=>?_;obtain⟨x,y,j,k,d,e,rfl,Dx,Dy,a6,q⟩:=h;have ab:Room n _:=hr;refine⟨_,(qA3 (qB8 (qCY (qGV (pv 1))) (qA6 (qAD (qXU (qGV (pv 0))))) qAH) (qA3 (qB8 (PW.pt (qHV (qCA (qA8 qAR rfl qAC qAG (qA0 (pv 1) (qA0 (qBQ (v:=.ty "list") rfl qDK qFN rfl) qA2)))) (qG6 (qCA (qA8 qAR rfl qAC qAG (qA0 (pv 1) (qA0 (qBQ (v:=.ty "tuple") rfl qAS qB5 rfl) qA2))))))) (qA3 (qB8 (qAF qMK (qA8 qAR rfl qAC qAG (qA0 (pv 0) (qA0 (qBQ (v:=.ty "list") rfl qDK qFN rfl) qA2))) (qA8 qAR rfl qAC qAG (qA0 (pv 1) (qA0 (qBQ (v:=.ty "list") rfl qDK qFN rfl) qA2))) (qAL _)) (qA6 (qAD qDW)) qAH) (qA3 (qB8 (PW.pt (qHV (qAF qMK (qA8 qAR rfl qAC qAG (qA0 (pv 0) (qA0 (qBQ (v:=.ty "tuple") rfl qAS qB5 rfl) qA2))) (qA8 qAR rfl qAC qAG (qA0 (pv 1) (qA0 (qBQ (v:=.ty "tuple") rfl qAS qB5 rfl) qA2))) (qAL _)) (qG6 (qAF qMK (qA8 qA9 rfl qB1 qB7 (qA0 (pv 0) qA2)) (qA8 qA9 rfl qB1 qB7 (qA0 (pv 1) qA2)) (qAL _))))) (qA6 (qAD qDW)) qAH) (qA6 (qAD (qA8 (qJ6 rfl) rfl qKM qRO (qA0 (qE5 rfl (lcs (own:=["_law_one","_law_other"]) (fv:=[]) (by kernel_rfl)) (qXT rfl qRT qYC (qA0 (pv 0) (qA0 (pv 1) qA2))) (λz1=>qTU (K:=K) (n:=2) rfl rfl (qBV (qCC 0) (qBV (qCC 1) qHX)) rfl rfl) (λz1=>qBM) (λz1=>(qU0 aa ab rfl qGG qMW qGO .nil qb8 (qA0 (pv 0) (qA0 (pv 1) qA2))))) qA2)))))) qAH) (qA3 (qB8 (qCA (qA8 qAR rfl qAC qAG (qA0 (pv 1) (qA0 (qBQ (v:=.ty "str") rfl qM5 qRM rfl) qA2)))) (qA6 (qAD (qF9 (qA8 qAR rfl qAC qAG (qA0 (pv 0) (qA0 (qBQ (v:=.ty "str") rfl qM5 qRM rfl) qA2))) (qG7 (qCN qCL (pv 0) (pv 1) (qAL _)))))) qAH) (qA6 (qAD (qF9 (qA8 qAR rfl qAC qAG (qA0 (pv 0) (qA0 (qBQ (v:=.ty "int") rfl qHT qLZ rfl) qA2))) (qF9 (qTX (qA8 qAR rfl qAC qAG (qA0 (pv 0) (qA0 (qBQ (v:=.ty "bool") rfl qG5 qND rfl) qA2)))) (qG7 (qCN qCL (pv 0) (pv 1) (qAL _)))))))))),?_⟩
 try dsimp only[Cx.nox,Cx.wish,cxOf]
 obtain⟨tx,o,ki,kb,kt⟩:=qJF (K:=K) Dx;obtain⟨ai,ac,kl⟩:=qPC (K:=K) Dx;have a4:SmL e\/∃(m:Nat) (es:List PyData),n=m+1/\e=.tuple es/\es.length<=100000/\∀e'∈es,SmD m e':=by
  cases n with
  |zero=>exact .inl a6
  |succ m=>
   rcases a6 with h|⟨es,h1,h2,h3⟩
   ·exact .inl h
   ·exact .inr (xB m es rfl ⟨h1,h2,h3⟩)
 rcases a4 with hl|⟨m,es,rfl,rfl,bd,oes⟩
 ·rcases hl with hl|hl
  ·obtain⟨i,rfl⟩:=hl;have:=qJ5 Dy;subst this;refine xR rfl (xR rfl ?_);refine xR rfl ⟨_,"list",_,false,rfl,TyOf.int i,qbV,xR rfl ?_⟩;refine xR rfl ⟨_,"tuple",_,false,rfl,TyOf.int i,qbT,xR rfl ?_⟩;refine xR rfl ⟨_,"str",_,false,rfl,TyOf.int i,qbU,xR rfl ?_⟩;refine xR rfl ⟨_,"int",_,xR rfl ⟨o,ki,xR rfl ?_⟩⟩;cases c1:(numB d||qNE d) with
   |false=>
    refine iteF ?_;exact q false H (.refl _) ⟨λz=>(nomatch z),λz=>by rw[z] at c1;cases c1⟩
   |true=>
    refine iteT ?_;refine xR rfl ⟨_,"bool",_,xR rfl ⟨o,kb,xR rfl (xR rfl ?_)⟩⟩;cases c2:qNE d with
    |true=>
     refine iteF ?_;exact q false H (.refl _) ⟨λz=>(nomatch z),λz=>by rw[z] at c2;cases c2⟩
    |false=>
     refine iteT ?_;rw[c2,Bool.or_false] at c1;obtain⟨i2,rfl,rfl⟩:=qI5 Dx c1;refine xR rfl (xR rfl ⟨rfl,?_⟩);exact q _ H (.refl _) ⟨λz=>by rw[V.int.inj (of_decide_eq_true z)],λz=>decide_eq_true (by injection z with z;rw[z])⟩
  ·obtain⟨z,rfl⟩:=hl;have:=qJ4 Dy;subst this;refine xR rfl (xR rfl ?_);refine xR rfl ⟨_,"list",_,false,rfl,TyOf.str z,qbS,xR rfl ?_⟩;refine xR rfl ⟨_,"tuple",_,false,rfl,TyOf.str z,qbQ,xR rfl ?_⟩;refine xR rfl ⟨_,"str",_,true,rfl,TyOf.str z,qbR,xR rfl ?_⟩;obtain⟨t3,af,ks⟩:=qYN (K:=K) Dx;refine xR rfl ⟨_,"str",_,xR rfl ⟨af,ks,xR rfl ?_⟩⟩;cases c1:strB d with
   |false=>
    refine iteF ?_;exact q false H (.refl _) ⟨λz=>(nomatch z),λz=>by rw[z] at c1;cases c1⟩
   |true=>
    refine iteT ?_;obtain⟨y2,rfl⟩:∃y2,d=.str y2:=by cases d<;>first|exact⟨_,rfl⟩|cases c1
    have:=qJ4 Dx;subst this;refine xR rfl (xR rfl ⟨rfl,?_⟩);exact q _ H (.refl _) ⟨λz=>by rw[V.str.inj (of_decide_eq_true z)],λz=>decide_eq_true (by injection z with z;rw[z])⟩
 obtain⟨k2,c,ys,ah,rfl,rfl,ee,l,ly,ag⟩:=qDV Dy rfl
 injection ee with ee
 subst ee;refine xR rfl (xR rfl (xR rfl ⟨_,"list",xB _ false rfl ⟨qW9 (b:=true) l,qY0 true,xR rfl ?_⟩⟩));refine xR rfl ⟨_,"tuple",xB _ true rfl ⟨qW9 (b:=true) l,qXZ true,xR rfl ?_⟩⟩;refine xR rfl ⟨_,"list",_,xR rfl ⟨ac,kl,xR rfl ⟨_,"list",_,false,rfl,qW9 (b:=true) l,qY0 true,rfl,xR rfl ?_⟩⟩⟩;cases cl:lstB d with
 |true=>
  refine iteT ?_;exact q false H (.refl _) ⟨λz=>(nomatch z),λz=>by rw[z] at cl;cases cl⟩
 |false=>
  refine iteF ?_;refine xR rfl ⟨_,"tuple",_,xR rfl ⟨o,kt,xR rfl ⟨_,"tuple",_,true,rfl,qW9 (b:=true) l,qXZ true,rfl,xR rfl ?_⟩⟩⟩;cases ct:tupB d with
  |false=>
   refine iteT ?_;exact q false H (.refl _) ⟨λz=>(nomatch z),λz=>by rw[z] at ct;cases ct⟩
  |true=>
   refine iteF ?_;obtain⟨m1,a,xs,ds,rfl,rfl,rfl,ha,lx,ad⟩:=qDV Dx ct;refine xR rfl (xB a _ rfl ⟨.inr (Ac0 ha),xR rfl (xB c _ rfl ⟨.inr (Ac0 l),rfl,?_⟩)⟩);by_cases g:xs.length=ys.length
   ·have el:(!decide (V.int ((xs.length:Nat):Int)=V.int ((ys.length:Nat):Int)))=false:=by rw[g];simp
    rw[el];refine xR rfl (xR rfl (xR rfl (xC true a c rfl ⟨⟨_,SqB.of (b:=true) ha⟩,⟨_,SqB.of (b:=true) l⟩,λp hp=>?_⟩)));refine qbM (b:=true) (p:=p) (xs:=xs) (ys:=ys) g (λi σ Hi=>∃(v0 v1:Option V) (bs:List Bool),σ=[v0,v1]/\Same H Hi/\Hi p=some (.lst (bs.map V.bl))/\bs.length=i/\(bs.all id=true↔ds.take i=es.take i)) ⟨none,none,[],rfl,qA4 hp _,qA1,rfl,⟨λ_=>rfl,λ_=>rfl⟩⟩ (λi σ Hi _ ⟨_,_,_,_,sm,_⟩=>⟨SqB.of (b:=true) (sm _ _ ha),SqB.of (b:=true) (sm _ _ l)⟩) ?_ ?_
    ·refineλi x' y' σ Hi T ex ey a7 hT=>opq λal a0=>?_;obtain⟨v0,v1,bs,rfl,sm,t,lb,ib⟩:=a7;refine a0 ?_;have li:i<xs.length:=(B5.mp ex).1;have h1:=B0 (show i<ds.length by lia)
     have h2:=B0 (show i<es.length by lia)
     refine xB T _ rfl ⟨Ac0 qA1,rfl,xB _ _ rfl (xB _ _ rfl ⟨rfl,?_⟩)⟩;have s1:=sm.trans (qA4 hT (.tup [x',y']));refine xR rfl (xR rfl ?_);dsimp only[tNil,A43,a8];refine xF x' y' _ _ _ _ rfl ⟨(ad i _ _ ex h1).same s1,(ag i _ _ ey h2).same s1,oes _ (Q9 _),λb H' a3 a2=>?_⟩;refine⟨_,(a3 _ _ ((qA4 hT _) _ _ t)),?_,_,_,bs++[b],rfl,(λb u e=>by rw[qAB (qA7 e hp)];exact(s1.trans a3) b u e),?_,?_,?_⟩
     ·rw[A0,B80];lia
     ·rw[qA1,C4];rfl
     ·rw[A6,lb];rfl
     ·rw[List.all_append,L3,ib,E8,E8,h1,h2,E9,E9];refine⟨λz=>?_,λz=>?_⟩
      ·rw[z.1,a2.mp (by have:=z.2;simpa using this)]
      ·have l2:(ds.take i).length=(es.take i).length:=by rw[C9,C9];lia
       obtain⟨z1,z2⟩:=List.append_inj z l2
       injection z2 with z2
       exact⟨z1,by simpa using a2.mpr z2⟩
    ·refineλσ Hi a1=>opq λak a5=>?_;obtain⟨v0,v1,bs,rfl,sm,t,lb,ib⟩:=a1;refine a5 ?_;refine xB p _ rfl ⟨Ab2 t,q _ Hi sm (ib.trans ⟨λz=>?_,λz=>?_⟩)⟩
     ·rw[show xs.length=ds.length by lia,O1,show ds.length=es.length by lia,O1] at z
      rw[z]
     ·injection z with z
      rw[z]
   ·have el:(!decide (V.int ((xs.length:Nat):Int)=V.int ((ys.length:Nat):Int)))=true:=by
     rw[decide_eq_false (λz=>g (by have:=V.int.inj z;lia))]
     rfl
    rw[el];refine xR rfl (q false H (.refl _) ⟨λz=>(nomatch z),λz=>?_⟩)
    injection z with z
    rw[z] at lx;exact absurd (by lia) g
theorem ok_Lsame (F:Fun K "_law_same" "_law_same" qJI f fd) (qGO:Binds K fd ["_law_found","_law_due"] []) (qMW:M8 K (.ref f)=true) (qGG:mg "_law_same" = some (.ref f))
  (qAC:mg "isinstance" = none) (qDK:mg "list" = none) (qAS:mg "tuple" = none) (qM5:mg "str" = none) (qHT:mg "int" = none) (qG5:mg "bool" = none) (qB1:mg "len" = none) (qKM:mg "all" = none) (qRT:mg "zip" = none) (n:Nat):FnOk P w K mg base CX0 n f fd ["_law_found","_law_due"] (spS n):=by
 induction n with
 |zero=>exact⟨λ_ _ _ _ h=>h.elim,λ_ _ _ _ _ _ _ _ _ _ _ _ _ h=>h.elim⟩
 |succ n ih=>exact ok_Lsame_step F ih qGO qMW qGG qAC qDK qAS qM5 qHT qG5 qB1 qKM qRT
theorem qWM {k:Int} (b:0<=k)(a:k<4):∃v,atI [V.int 0,V.int 0,V.int 1,V.int 3] k=some (.int v)/\0<=v/\v<=3:=by
 rcases(by lia:k=0\/k=1\/k=2\/k=3) with rfl|rfl|rfl|rfl
 all_goals exact xR rfl ⟨by decide,by decide⟩
theorem sc_Lasked:FnScope ["_law_state","_law_net_here","_law_found","_law_turn"] ["_law_state","_law_net_here"] (qAA qIX):=qBU
theorem ok_Lasked (F:Fun K "_law_asked" "_law_asked" qIX f fd)
  (qAV:Clb P w K mg base 1 qEW qES "_law_take" ["_law_state","_law_many"] qIB)
  (qB1:mg "len" = none) (qKL:mg "min" = none) (qBC:mg "range" = none) (qNM:mg "set" = none) (qCD:mg "sorted" = none) (qAS:mg "tuple" = none):FnOk P w K mg base CX0 2 f fd ["_law_state","_law_net_here"] qTE:=by
 refine F.okA sc_Lasked λan A af s H vs Q E hr h=>?_;obtain⟨d,c,t,ns,a,Ae,rfl,S,ht,hN,wf,n1,aj,q⟩:=h;have ak:t<=1000000000-100:=ht;have am:Room 1 _:=hr;refine⟨_,(qA3 (qAE (i:=2) sc_Lasked.nd rfl (F3 rfl) (qBH (qA0 (qAO qDO (qAO qDO (qA8 qA9 rfl qB1 qB7 (qA0 (pv 1) qA2)) qA5) (qAP qAV hr rfl (qA0 (pv 0) (qA0 (qA8 (qHJ rfl) rfl qKL qP2 (qA0 (qA8 qA9 rfl qB1 qB7 (qA0 (pv 1) qA2)) (qA0 qA5 qA2))) qA2)))) qA2))) (qA3 (qDM L5 rfl (qBE rfl qBC (qA0 (qAT qCO (qBH (qA0 qA5 (qA0 qA5 (qA0 qA5 (qA0 qA5 qA2))))) (qAP qAV hr rfl (qA0 (pv 0) (qA0 qA5 qA2))) (λ_ _=>rfl)) qA2)) (qBD (i:=3) sc_Lasked.nd rfl (F3 rfl)) (qA6 (qEP (qO0 M5 T5 T6 qED (pv 2) (qA0 (qAP qAV hr rfl (qA0 (pv 0) (qA0 (qA8 qA9 rfl qB1 qB7 (qA0 (pv 1) qA2)) qA2))) qA2))))) (qA6 (qAD (qAJ qAU rfl qAS qB5 (qA0 (qA8 (qEY rfl) rfl qCD qFM (qA0 (qAJ (qNA rfl) rfl qNM qRN (qA0 (pv 2) qA2)) qA2)) qA2)))))),?_⟩
 try dsimp only[Cx.nox,Cx.wish,cxOf]
 obtain⟨rs,hA,NL⟩:=id hN;have l:(((rs.map V.ref).length:Nat):Int)=(Ae.length:Int):=by rw[A0,C5 NL]
 refine xR rfl (xB a _ rfl ⟨.inr (Ac0 hA),xB _ _ rfl ⟨rfl,?_⟩⟩);refine xR rfl (xR rfl (xB a _ rfl ⟨.inr (Ac0 hA),xB _ _ rfl ?_⟩));refine xE d c t ns _ rfl ⟨S,(by show t<=1000000000;lia),by split<;>lia,by split<;>lia,λk ae H1 k0 k1 S1 K1=>?_⟩
 have kb:0<=(Ae.length:Int)-1-k/\(Ae.length:Int)-1-k<(Ae.length:Int):=by
  rw[l] at k1
  split at k1<;>lia
 refine xB _ _ rfl ⟨rfl,(by show 1<=B75;decide),λg v=>?_⟩
 dsimp only;rw[l];generalize (Ae.length:Int)-1-k=x0 at kb;have a0:g≠d:=(qA7 S1.dict v).symm;have a1:g≠c:=(qA7 S1.list v).symm;have S2:=S1.new v (.lst [.int x0]);have k2:=K1.trans (qCR (d:=d) (c:=c) v (.lst [.int x0]));have ad:∀o,H g=some o->False:=λo z=>by
  by_cases e1:g=d
  ·exact a0 e1
  ·by_cases e2:g=c
   ·exact a1 e2
   ·have:=K1 g o z e1 e2;rw[v] at this;cases this
 have a9:(Ag H1 g (.lst [.int x0])) g=some (.lst ([x0].map V.int)):=qA1;generalize Ag H1 g (.lst [.int x0])=H2 at S2 k2 a9;refine⟨(by show 4<=B75;decide),λp hp=>?_⟩
 have a2:p≠d:=(qA7 S2.dict hp).symm;have a5:p≠c:=(qA7 S2.list hp).symm;have sp:=qA4 hp (.lst [.int 0,.int 0,.int 1,.int 3]);refine xR rfl ⟨d,c,t+1,xB ae 4 rfl ⟨S2.same sp,(by show t+1<=1000000000;lia),by decide,by decide,λj ah H3 j0 j1 S3 K3=>?_⟩⟩
 have gp:=K3 _ _ qA1 a2 a5;have a6:=K3 _ _ (sp _ _ a9) a0 a1;have k3:=(k2.trans (.of_same sp)).trans K3;obtain⟨m,hm,m0,m3⟩:=qWM j0 j1;refine⟨p,_,_,_,rfl,rfl,Ab2 gp,hm,m,rfl,by lia,by lia,qDS (lo:=0) (n:=m.toNat) (λi σ Hc=>∃(t':Int) (ms fs:List Int) (v3:Option V),σ=[some (.ref d),some (.ref a),some (.ref g),v3]/\StAt Hc d c t' ms/\t+2<=t'/\t'<=t+2+i/\Keep d c H Hc/\Hc g=some (.lst (fs.map V.int))/\fs.length=i+1/\∀x∈fs,0<=x/\x<(Ae.length:Int))
  ⟨t+1+1,ah,[x0],none,rfl,S3,by lia,by lia,k3,a6,rfl,λx hx=>by rw[B3.mp hx];exact kb⟩ ?_ ?_⟩
 ·refineλi σ Hc hi a8=>opq λal aa=>?_;obtain⟨t',ms,fs,v3,rfl,S4,b1,b2,k4,gf,lf,fb⟩:=a8;refine aa ?_;have ai:=hN.keep S k4;obtain⟨rs,hA,NL⟩:=id ai;have l:(((rs.map V.ref).length:Nat):Int)=(Ae.length:Int):=by rw[A0,C5 NL]
  refine xR rfl ⟨.inl ⟨rfl,_,Ab2 gf⟩,xR rfl (xR rfl (xB a _ rfl ⟨.inr (Ac0 hA),xE d c t' ms _ rfl ⟨S4,(by show t'<=1000000000;lia),by rw[l];lia,by rw[l];lia,λx ab H5 x0 x1 S5 K5=>?_⟩⟩))⟩
  rw[l] at x1;have ac:=K5 _ _ gf a0 a1;refine xC g _ _ rfl ⟨rfl,ac,qB2 (by rw[A0];lia),?_⟩
  refine⟨t'+1,ab,fs++[x],xR rfl ⟨⟨by rw[qAB (J4 a0)];exact S5.dict,by rw[qAB (J4 a1)];exact S5.list,S5.ne,S5.len,S5.pos⟩,by lia,by lia,λb u e n1 n2=>?_,by rw[qA1,C4];rfl,by rw[A6,C1,lf],λy hy=>?_⟩⟩
  ·by_cases e3:b=g
   ·subst e3;exact(ad _ e).elim
   ·rw[qAB e3];exact(k4.trans K5) b u e n1 n2
  ·rcases B7.mp hy with hy|hy
   ·exact fb y hy
   ·rw[B3.mp hy];exact⟨x0,x1⟩
 ·refineλσ Hc a7=>opq λao a4=>?_;obtain⟨t',ms,fs,v3,rfl,S4,b1,b2,k4,gf,lf,fb⟩:=a7;refine a4 ?_;refine xR rfl (xB g fs rfl ⟨Ab2 gf,by lia,λe he=>?_⟩)
  have ld:=qJ3 fs;refine⟨e,dedI fs,rfl,.inr (.inr qA1),by lia,λb ys hb a3 hs=>?_⟩
  refine xB b _ rfl (.inl ⟨Ab2 qA1,λr ag=>?_⟩);have s1:=((qA4 he (SetO w e (dedI fs))).trans (qA4 hb (.lst (ys.map V.int)))).trans (qA4 ag (.tup (ys.map V.int)));have ne:fs≠[]:=λz=>by rw[z] at lf;simp at lf
  obtain⟨y,hy⟩:=List.exists_mem_of_ne_nil fs ne;refine q r ys t' ms _ (S4.same s1) (by lia) (by lia) (k4.trans (.of_same s1)) qA1 (qMG a3 hs fb) (List.length_pos_of_mem (a3.mem_iff.mpr (mem_dedI.mpr hy)))
theorem qZJ {ns:List Int} {a:List (Option Int)} :((ns.map λx=>decide (some x∈a)).all id)=decide (∀x∈ns,some x∈a):=by
 rw[R4,L7,decide_eq_true_eq]
 constructor
 ·intro h x c;exact of_decide_eq_true (h _ (J8.mpr ⟨x,c,rfl⟩))
 ·intro h b d;obtain⟨x,c,rfl⟩:=J8.mp d;exact decide_eq_true (h x c)
theorem qS1:FnScope ["results","works"] ["results","works"] (qAA qGT):=qBU
theorem ok_has_all (F:Fun K "has_all" "has_all" qGT f fd) (qKM:mg "all" = none):FnOk P w K mg base CX0 1 f fd ["results","works"] qEL:=by
 refine F.okA qS1 λa1 A t s H vs Q E hr h=>?_;obtain⟨y,r,c,o,rfl,n,k,l1,q⟩:=h;refine⟨_,(qA6 (qAD (qA8 (qJ6 rfl) rfl qKM qRO (qA0 (qE5 rfl (lcs (own:=["work"]) (fv:=[0]) (by kernel_rfl)) (qNY (pv 1)) (λz1=>qCC 0) (λz1=>qBM) (λz1=>(qCN (qbA (K:=K) rfl) (pv 0) (pv 1) (by with_unfolding_all rfl)))) qA2)))),?_⟩
 try dsimp only[Cx.nox,Cx.wish,cxOf]
 refine xR rfl ⟨r,rfl,⟨_,Ac0 k⟩,λp hp=>?_⟩;refine qOF (p:=p) (a:=r) (xs:=o.map V.int) (λi σ d=>∃(v:Option V),σ=[v,some (.ref y)]/\Same H d/\d p=some (.lst (((o.take i).map λx=>decide (some x∈c)).map V.bl))) ?_ ?_ ?_ ?_
 ·exact⟨none,rfl,qA4 hp _,qA1⟩
 ·rintro i σ d hi ⟨v,rfl,sm,_⟩;exact Ac0 (sm _ _ k)
 ·refineλi x σ d hx e=>opq λa2 m=>?_;obtain⟨v,rfl,sm,b⟩:=e;obtain⟨z,u,rfl⟩:=qI2 hx;refine m ?_;have hi:i<o.length:=(B5.mp u).1;refine xR rfl (xR rfl (xB y _ rfl ⟨.inr (Ac0 (sm _ _ n)),rfl,qHA c,_,b,qB2 (by rw[A0,A0,C9];lia),xR rfl ⟨qAK sm hp,?_⟩⟩))
  rw[qA1];refine congrArg (λl=>some (HO.lst l)) ?_;show _++[V.bl (inV (.int z) (c.map oV))]=_;rw[qK0,E8,u,E9,C4,C4]
  rfl
 ·refineλσ d j=>opq λa0 g=>?_;obtain⟨v,rfl,sm,b⟩:=j;refine g ?_;rw[A0,D3 (B4 _)] at b;refine xB p _ rfl ⟨Ab2 b,?_⟩;rw[qZJ];exact q d sm
theorem sc_fault_of_do:FnScope ["net","wides","sizes","layout","move","work","room"] ["net","wides","sizes","layout","move"] (qAA qD5):=qBU
theorem ok_fault_of_do (F:Fun K "fault_of_do" "fault_of_do" qD5 f fd) (qC5:Clb P w K mg base 1 qEG qG0 "has_all" ["results","works"] qEL):FnOk P w K mg base CX0 2 f fd ["net","wides","sizes","layout","move"] (spTh true):=by
 refine F.okA sc_fault_of_do λa4 A a0 s H vs Q E hr h=>?_;obtain⟨a,wd,sz,la,mv,Ae,t,a1,b,m,ns,o,sv,wv,rfl,I,d,q⟩:=h;have d:=d rfl;refine⟨_,(qA3 (qAE (i:=5) sc_fault_of_do.nd rfl (F3 rfl) (qAT qAM (pv 4) qA5 (λ_ _=>rfl))) (qA3 (qAE (i:=6) sc_fault_of_do.nd rfl (F3 rfl) (qAT qAM (pv 4) qA5 (λ_ _=>rfl))) (qA3 (qB8 (qAF qJP (pv 5) (pv 3) (by with_unfolding_all rfl)) (qA6 (qAD qAZ)) qAH) (qA3 (qB8 (qDL (qCA (qAP qC5 hr rfl (qA0 (pv 3) (qA0 (qAT qAM (pv 0) (pv 5) (λ_ _=>rfl)) qA2))))) (qA6 (qAD qAZ)) qAH) (qA3 (qB8 (qCY (qJM (qAT qAM (pv 3) (pv 6) (λ_ _=>rfl)))) (qA6 (qAD qAZ)) qAH) (qA3 (qB8 (qAF qU2 (qAT qAM (pv 2) (pv 6) (λ_ _=>rfl)) (qAT qAM (pv 1) (pv 5) (λ_ _=>rfl)) (qAL _)) (qA6 (qAD qAZ)) qAH) (qA6 (qAD qDN)))))))),?_⟩
 try dsimp only[Cx.nox,Cx.wish,cxOf]
 have g:H mv=some (.tup [.str "do",.int m.wk,.int m.rm]):=by
  have:=I.move;unfold Mo.vs at this;rw[d] at this;exact this
 have q:∀H',Same H H'->Q (thDo ns b m.wk o sv wv) H':=λH' sm=>by
  have:=q H' sm;unfold thW at this;rw[d] at this;exact this
 unfold thDo at q;obtain⟨j,u,a3,a2⟩:=I.work d;refine xR rfl (xD mv _ _ _ rfl ⟨rfl,Ac0 g,rfl,?_⟩);refine xR rfl (xD mv _ _ _ rfl ⟨rfl,Ac0 g,rfl,?_⟩);refine xR rfl (xR rfl (xB la _ rfl ⟨.inr (Ac0 I.lay_),rfl,qHA b,xR rfl ?_⟩));rw[qK0];by_cases k:some m.wk∈b
 ·rw[decide_eq_true k];have c:=q H (.refl _);rw[if_pos k] at c;exact c
 rw[decide_eq_false k];rw[if_neg k] at q;obtain⟨rs,r,h1,l1,h2,h3⟩:=I.net_.get u;refine xR rfl (xR rfl (xR rfl (xD a _ _ _ rfl ⟨rfl,Ac0 h1,qE1 j h2,xD la r b ns rfl ⟨I.lay_,h3,a3,λp e=>(xR rfl ?_)⟩⟩)));have n:=I.same e;by_cases l:∀x∈ns,some x∈b
 ·rw[decide_eq_true l];rw[if_pos l] at q;refine xR rfl (xR rfl (xD la _ _ _ rfl ⟨rfl,Ac0 n.lay_,qE1 I.rm0 (by rw[C6,I.at_];rfl),xR rfl ?_⟩))
  cases o with
  |some y=>
   rw[decide_eq_false (show¬oV (some y)=V.non fromλz=>nomatch z)];exact q p e
  |none=>
   rw[decide_eq_true (show oV none=V.non from rfl)];have c:=q p e;dsimp only at c;refine xR rfl (xR rfl (xD sz _ _ _ rfl ⟨rfl,Ac0 n.sizes_,qE1 I.rm0 (by rw[C6,I.size];rfl),xR rfl (xR rfl (xD wd _ _ _ rfl ⟨rfl,Ac0 n.wides_,qE1 j (by rw[C6,a2];rfl),xB _ _ rfl ⟨rfl,xR rfl ?_⟩⟩))⟩))
   refine ite2 (λv=>?_) (λv=>?_)
   ·rw[if_pos (of_decide_eq_true v)] at c;exact c
   ·rw[if_neg (of_decide_eq_false (V7.mpr v))] at c;exact c
 ·rw[decide_eq_false l];have c:=q p e;rw[if_neg l] at c;exact c
theorem qKR:FnScope ["net","wides","sizes","layout","move"] ["net","wides","sizes","layout","move"] (qAA qD4):=qBU
theorem ok_fault_there (F:Fun K "fault_there" "fault_there" qD4 f fd) (j:Clb P w K mg base 2 qEV qL9 "fault_of_do" ["net","wides","sizes","layout","move"] (spTh true)):FnOk P w K mg base CX0 3 f fd ["net","wides","sizes","layout","move"] (spTh false):=by
 refine F.okA qKR λa0 A k s H vs Q E u h=>?_;obtain⟨a,v,p,l,e,x,d,c,i,m,n,o,r,t,rfl,I,_,q⟩:=h;refine⟨_,(qA3 (qB8 (qAF qCL (qAT qAM (pv 4) qA5 (λ_ _=>rfl)) qAZ (qAL _)) (qA6 (qAD (qAP j u rfl (qA0 (pv 0) (qA0 (pv 1) (qA0 (pv 2) (qA0 (pv 3) (qA0 (pv 4) qA2)))))))) qAH) (qA3 (qB8 (qCY (qGV (qAT qAM (pv 3) (qAT qAM (pv 4) qA5 (λ_ _=>rfl)) (λ_ _=>rfl)))) (qA6 (qAD qAZ)) qAH) (qA6 (qAD qDN)))),?_⟩
 try dsimp only[Cx.nox,Cx.wish,cxOf]
 cases hdk:m.dk with
 |true=>
  have b:H e=some (.tup [.str "do",.int m.wk,.int m.rm]):=by
   have:=I.move;unfold Mo.vs at this;rw[hdk] at this;exact this
  refine xR rfl (xD e _ _ _ rfl ⟨rfl,Ac0 b,rfl,rfl,xR rfl ?_⟩);rw[decide_eq_true (rfl:V.str (B1 "do")=V.str (B1 "do"))]
  exact xR rfl (xR rfl (xR rfl (xR rfl (xR rfl (xN a v p l e x d c i m n o r t rfl ⟨I,λ_=>hdk,q⟩)))))
 |false=>
  have b:H e=some (.tup [.str "clear",.int m.rm]):=by
   have:=I.move;unfold Mo.vs at this;rw[hdk] at this;exact this
  have g:=q H (.refl _);unfold thW qT3 at g;rw[hdk] at g;refine xR rfl (xD e _ _ _ rfl ⟨rfl,Ac0 b,rfl,rfl,xR rfl ?_⟩);rw[decide_eq_false (show¬V.str (B1 "clear")=V.str (B1 "do") fromλz=>qC9 (V.str.inj z))]
  refine xR rfl (xR rfl (xD e _ _ _ rfl ⟨rfl,Ac0 b,rfl,xD l _ _ _ rfl ⟨rfl,Ac0 I.lay_,qE1 I.rm0 (by rw[C6,I.at_];rfl),xR rfl ?_⟩⟩))
  cases o with
  |some y=>
   rw[decide_eq_false (show¬oV (some y)=V.non fromλz=>nomatch z)];exact g
  |none=>
   rw[decide_eq_true (show oV none=V.non from rfl)];exact g
theorem qa1 {a:List (Option Int)} {k:Nat} {o:Option Int} (h:k<a.length):cutI a none (some (k:Int))++[o]++cutI a (some ((k:Int)+1)) none=a.set k o:=by
 have b:cutI a none (some (k:Int))=a.take k:=by
  unfold cutI;rw[HT.sIx_nat,HT.sIx_none,Z6,A19,S0 (F5 h)]
 have c:cutI a (some ((k:Int)+1)) none=a.drop (k+1):=by
  have:=qKE a (k+1) h;rw[<- this];congr 1
 rw[b,c,m4,if_pos h,O3]
 rfl
theorem qSC {n k:Nat} (h:k<n):¬(HT.sIx n 0 none=0/\HT.sIx n n (some (k:Int))=n):=λz=>by
 have:=z.2;rw[HT.sIx_nat,S0 (F5 h)] at this
 lia
theorem qSB {n k:Nat} (h:k<n):¬(HT.sIx n 0 (some ((k:Int)+1))=0/\HT.sIx n n none=n):=λz=>by
 have:=z.1;have e:((k:Int)+1)=((k+1:Nat):Int):=by lia
 rw[e,HT.sIx_nat,S0 h] at this
 lia
theorem sc_layout_behind:FnScope ["layout","move","room","result"] ["layout","move"] (qAA qCE):=qBU
theorem ok_layout_behind (F:Fun K "layout_behind" "layout_behind" qCE f fd):FnOk P w K mg base CX0 1 f fd ["layout","move"] qLJ:=by
 refine F.okA sc_layout_behind λa4 A a1 s H vs Q E hr h=>?_;obtain⟨y,l,a,m,rfl,j,d,a3,e,ll,q⟩:=h;refine⟨_,(qA3 (qAE (i:=2) sc_layout_behind.nd rfl (F3 rfl) (qAT qAM (pv 1) (qTV qNN qA5) (λ_ _=>rfl))) (qA3 (qAE (i:=3) sc_layout_behind.nd rfl (F3 rfl) (qEQ (qAF qCL (qAT qAM (pv 1) qA5 (λ_ _=>rfl)) qAZ (qAL _)) (qAT qAM (pv 1) qA5 (λ_ _=>rfl)) qDN)) (qA6 (qAD (qAO qDP (qAO qDP (qAY qNS (pv 0) qBK (qB3 (pv 2))) (qBS (qA0 (pv 3) qA2))) (qAY qNS (pv 0) (qB3 (qAO qBT (pv 2) qA5)) qBK)))))),?_⟩
 try dsimp only[Cx.nox,Cx.wish,cxOf]
 have c:atI m.vs (-1)=some (.int m.rm):=by unfold Mo.vs;cases m.dk<;>rfl
 refine xR rfl (xR rfl (xD l _ _ _ rfl ⟨rfl,Ac0 d,c,?_⟩));have res:∀(G:V->Prop),G (oV m.res)->∃p xs k v,V.ref l=V.ref p/\V.int 0=V.int k/\SqT K H p xs/\atI xs k=some v/\(scal v (V.str (B1 "do"))=true/\∃b,V.bl (decide (v=V.str (B1 "do")))=V.bl b/\if b=true then∃v',([some (.ref y),some (.ref l),some (.int m.rm),none]:St)[1]?=some (some v')/\∃p xs k v,v'=V.ref p/\V.int 1=V.int k/\SqT K H p xs/\atI xs k=some v/\G v else G .non):=by
  intro G g;refine xD l _ _ _ rfl ⟨rfl,Ac0 d,show atI m.vs 0=some (.str (match m.dk with|true=>"do" |false=>"clear")) from by unfold Mo.vs;cases m.dk<;>rfl,rfl,xR rfl ?_⟩
  unfold Mo.res at g;cases hdk:m.dk with
  |true=>
   rw[hdk] at g;rw[decide_eq_true (rfl:V.str (B1 "do")=V.str (B1 "do"))]
   exact xR rfl (xD l _ _ _ rfl ⟨rfl,Ac0 d,show atI m.vs 1=some (.int m.wk) from by unfold Mo.vs;rw[hdk];rfl,g⟩)
  |false=>
   rw[hdk] at g;rw[decide_eq_false (show¬V.str (B1 "clear")=V.str (B1 "do") fromλz=>qC9 (V.str.inj z))]
   exact g
 refine xR rfl (res _ ?_);have er:m.rm=((m.rm.toNat:Nat):Int):=by lia
 refine xR rfl (xR rfl ⟨m.rm,rfl,xB y _ rfl ⟨Ac0 j,by rw[A0,er];exact qSC e,λs1 a2=>?_⟩⟩)
 rw[qBG];have t1:=qA4 a2 (.tup ((cutI a none (some m.rm)).map oV));have l1:=qHH a none (some m.rm);have l2:=qHH a (some (m.rm+1)) none;refine xR rfl ⟨(by show 1<=B75;decide),λs2 u=>?_⟩
 have t2:=qA4 u (.tup [oV m.res]);refine⟨s1,s2,(cutI a none (some m.rm)).map oV,[oV m.res],rfl,rfl,Ac0 (t2 _ _ qA1),Ac0 qA1,.inr ⟨by simp,qA1⟩,F5 (qAQ (by rw[A0,C1];lia)),λp H3 t hp=>?_⟩
 have s3:=(t1.trans t2).trans t;refine xR rfl (xR rfl (xB _ _ rfl ⟨rfl,m.rm+1,rfl,xB y _ rfl ⟨Ac0 (s3 _ _ j),by rw[A0,er];exact qSB e,λs4 n=>?_⟩⟩))
 rw[qBG];have t4:=qA4 n (.tup ((cutI a (some (m.rm+1)) none).map oV));refine⟨p,s4,(cutI a none (some m.rm)).map oV++[oV m.res],(cutI a (some (m.rm+1)) none).map oV,rfl,rfl,Ac0 (t4 _ _ hp),Ac0 qA1,.inl ⟨by simp,t4 _ _ hp⟩,F5 (qAQ (by rw[A6,A0,A0,C1];lia)),λr H5 a0 x=>?_⟩
 refine q r H5 ((s3.trans t4).trans a0) ?_;rw[x,<- qa1 (o:=m.res) e,<- er,C4,C4]
 rfl
theorem qKQ:FnScope ["self","move","word"] ["self","move","word"] (qAA qBP):=qBU
theorem ok_init_Barred (F:Fun K "__init__" "Barred.__init__" qBP f fd) (qCZ:XCls K qB4 (some (.ref f))) (n_move:L8 K (.ref qB4) "move" = some none) (n_word:L8 K (.ref qB4) "word" = some none):FnOk P w K mg base CX0 1 f fd ["self","move","word"] (qTA qB4):=by
 refine F.okA qKQ λj A g s H l Q E k h=>?_;obtain⟨x,a,b,rfl,i,q⟩:=h;refine⟨_,(qA3 (qTM qCZ (pv 0) (pv 1)) (qA6 (qTM qCZ (pv 0) (pv 2)))),?_⟩
 try dsimp only[Cx.nox,Cx.wish,cxOf]
 refine xR rfl (xR rfl (xB x none rfl ⟨i,n_move,.inl ⟨rfl,λd e c=>?_⟩⟩));refine xR rfl (xR rfl ⟨x,some d,rfl,qA1,n_word,.inr ⟨d,[("move",a)],rfl,c,by rw[qAB c];exact qA1,(by show 1<1000;decide),?_⟩⟩)
 rw[qT0 c];exact q d e c
theorem sc_moved_there:FnScope ["net","wides","sizes","layout","move","word"] ["net","wides","sizes","layout","move"] (qAA qD3):=qBU
theorem ok_moved_there (F:Fun K "moved_there" "moved_there" qD3 f fd) (qCZ:XCls K qB4 (some (.ref qB9))) (qEE:A16 K (.ref qB9)=true) (qFV:mg "Barred" = some (.ref qB4))
  (qDD:FnOk P w K mg base CX0 1 qB9 qGB ["self","move","word"] (qTA qB4)) (qDC:Binds K qGB ["self","move","word"] []) (qC1:Clb P w K mg base 3 qDB qGC "fault_there" ["net","wides","sizes","layout","move"] (spTh false)) (qBB:Clb P w K mg base 1 qBX qCX "layout_behind" ["layout","move"] qLJ):FnOk P w K mg base (CX1 P w) 4 f fd ["net","wides","sizes","layout","move"] (qNP qB4):=by
 refine F.okX sc_moved_there (λvs H Q E h=>?_) (λa3 A a0 s H vs Q E u h=>?_)
 ·obtain⟨a,wd,sz,v,mv,Ae,b,c,d,m,y,o,t,n,rfl,_⟩:=h
  rfl
 obtain⟨a,wd,sz,v,mv,Ae,b,c,d,m,y,o,t,n,rfl,I,q,qE⟩:=h;have a1:Room 2 _:=Room.mono u (by decide)
 refine⟨_,(qA3 (qAE (i:=5) sc_moved_there.nd rfl (F3 rfl) (qAP qC1 u rfl (qA0 (pv 0) (qA0 (pv 1) (qA0 (pv 2) (qA0 (pv 3) (qA0 (pv 4) qA2))))))) (qA3 (qB8 (qCY (qJM (pv 5))) (qA6 (qTN rfl rfl qCZ qEE qDD a1 rfl qFV qDC (qA0 qA5 (qA0 (pv 5) qA2)) (by decide))) qAH) (qA6 (qAD (qAP qBB u rfl (qA0 (pv 3) (qA0 (pv 4) qA2))))))),?_⟩
 try dsimp only[Cx.nox,Cx.wish,cxOf]
 refine xR rfl (xR rfl (xR rfl (xR rfl (xR rfl (xN a wd sz v mv Ae b c d m y o t n rfl ⟨I,(λe=>nomatch e),λH1 j=>?_⟩)))));have I1:=I.same j;rcases qM6 m y d o t n with e|⟨w0,e⟩
 ·rw[e];refine xR rfl (xR rfl ?_);rw[decide_eq_true (rfl:V.non=V.non)];exact xR rfl (xR rfl (xD v mv d m rfl ⟨I1.lay_,I1.move,I.rm0,(B5.mp I.at_).1,I.len,λr H2 a2 g=>q e r H2 (j.trans a2) g⟩))
 ·rw[e];refine xR rfl (xR rfl ?_);rw[decide_eq_false (show¬V.str w0=V.non fromλz=>nomatch z)];refine xR rfl λx hx=>⟨x,.int 0,.str w0,rfl,qA1,λl k p=>?_⟩;rw[qAB p] at k;refine⟨rfl,some l,Ag H1 l (XDic l (xfs (.int 0) (.str w0))),(qW8 p),by rw[qAB p.symm];exact hx,?_⟩
  exact qE w0 e l _ (j.trans (qA4 k _)) qA1
theorem sc_Lfault:FnScope ["_law_net_here","_law_wides","_law_sizes","_law_layout","_law_move","_law_name","_law_work","_law_room"] ["_law_net_here","_law_wides","_law_sizes","_law_layout","_law_move"] (qAA qIV):=qBU
theorem ok_Lfault (F:Fun K "_law_fault" "_law_fault" qIV f fd):FnOk P w K mg base CX0 1 f fd ["_law_net_here","_law_wides","_law_sizes","_law_layout","_law_move"] (spTh false):=by
 refine F.okA sc_Lfault λad A a9 s H vs Q E hr h=>?_;obtain⟨a,wd,sz,la,t,Ae,a5,aa,b,m,j,o,sv,wv,rfl,I,_,q⟩:=h;have a6:=hr.units0;refine⟨_,(qA3 (qB8 (qAF qCL (qAT qAM (pv 4) qA5 (λ_ _=>rfl)) qAZ (qAL _)) (qA6 (qAD (qEQ (qCY (qGV (qAT qAM (pv 3) (qAT qAM (pv 4) qA5 (λ_ _=>rfl)) (λ_ _=>rfl)))) qAZ qDN))) qAH) (qA3 (qLO (pv 4) (qNZ rfl (qBV (qBD (i:=5) sc_Lfault.nd rfl (F3 rfl)) (qBV (qBD (i:=6) sc_Lfault.nd rfl (F3 rfl)) (qBV (qBD (i:=7) sc_Lfault.nd rfl (F3 rfl)) qHX))))) (qA3 (qB8 (qAF qJP (pv 6) (pv 3) (by with_unfolding_all rfl)) (qA6 (qAD qAZ)) qAH) (qA3 (qB8 (qAF (qFA a6) (qE5 rfl (lcs (own:=["_law_need"]) (fv:=[3]) (by kernel_rfl)) (qNY (qAT qAM (pv 0) (pv 6) (λ_ _=>rfl))) (λz1=>qCC 0) (λz1=>(qF8 (qAF (qO4 (K:=K) rfl) (pv 0) (pv 1) (by with_unfolding_all rfl)))) (λz1=>(pv 0))) (qBH qA2) (qAL _)) (qA6 (qAD qAZ)) qAH) (qA3 (qB8 (qCY (qJM (qAT qAM (pv 3) (pv 7) (λ_ _=>rfl)))) (qA6 (qAD qAZ)) qAH) (qA6 (qAD (qEQ (qAF qO6 (qAT qAM (pv 1) (pv 6) (λ_ _=>rfl)) (qAT qAM (pv 2) (pv 7) (λ_ _=>rfl)) (qAL _)) qAZ qDN)))))))),?_⟩
 try dsimp only[Cx.nox,Cx.wish,cxOf]
 cases hdk:m.dk with
 |false=>
  have g:H t=some (.tup [.str "clear",.int m.rm]):=by
   have:=I.move;unfold Mo.vs at this;rw[hdk] at this;exact this
  have c:=q H (.refl _);unfold thW qT3 at c;rw[hdk] at c;refine xR rfl (xD t _ _ _ rfl ⟨rfl,Ac0 g,rfl,rfl,xR rfl ?_⟩);rw[decide_eq_true (rfl:V.str (B1 "clear")=V.str (B1 "clear"))];refine xR rfl (xR rfl (xD t _ _ _ rfl ⟨rfl,Ac0 g,rfl,xD la _ _ _ rfl ⟨rfl,Ac0 I.lay_,qE1 I.rm0 (by rw[C6,I.at_];rfl),xR rfl ?_⟩⟩))
  cases o with
  |some y=>
   rw[decide_eq_false (show¬oV (some y)=V.non fromλz=>nomatch z)];exact c
  |none=>
   rw[decide_eq_true (show oV none=V.non from rfl)];exact c
 |true=>
  have g:H t=some (.tup [.str "do",.int m.wk,.int m.rm]):=by
   have:=I.move;unfold Mo.vs at this;rw[hdk] at this;exact this
  have q:∀H',Same H H'->Q (thDo j b m.wk o sv wv) H':=λH' k=>by
   have:=q H' k;unfold thW at this;rw[hdk] at this;exact this
  unfold thDo at q;obtain⟨a2,a7,af,ab⟩:=I.work hdk;refine xR rfl (xD t _ _ _ rfl ⟨rfl,Ac0 g,rfl,rfl,xR rfl ?_⟩);rw[decide_eq_false (show¬V.str (B1 "do")=V.str (B1 "clear") fromλz=>qC9 (V.str.inj z).symm)]
  refine xR rfl (xB t _ rfl ⟨Ac0 g,rfl,xB _ _ rfl (xB _ _ rfl (xB _ _ rfl ⟨rfl,?_⟩))⟩);refine xR rfl (xR rfl (xB la _ rfl ⟨.inr (Ac0 I.lay_),rfl,qHA b,xR rfl ?_⟩));rw[qK0];by_cases c1:some m.wk∈b
  ·rw[decide_eq_true c1];have c:=q H (.refl _);rw[if_pos c1] at c;exact c
  rw[decide_eq_false c1];rw[if_neg c1] at q;obtain⟨rs,r,h1,l1,h2,h3⟩:=I.net_.get a7;refine xR rfl (xR rfl (xD a _ _ _ rfl ⟨rfl,Ac0 h1,qE1 a2 h2,r,rfl,⟨_,Ac0 h3⟩,λp hp=>?_⟩));refine qOF (p:=p) (a:=r) (xs:=j.map V.int) (λi σ Hc=>∃(v:Option V),σ=[v,some (.ref la)]/\Same H Hc/\Hc p=some (.lst (((j.take i).filter λx=>!decide (some x∈b)).map V.int))) ?_ ?_ ?_ ?_
  ·exact⟨none,rfl,qA4 hp _,qA1⟩
  ·rintro i σ Hc hi ⟨v,rfl,k,_⟩;exact Ac0 (k _ _ h3)
  ·refineλi x σ Hc hx u=>opq λae a3=>?_;obtain⟨v,rfl,k,d⟩:=u;obtain⟨z,ez,rfl⟩:=qI2 hx;refine a3 ?_;have hi:i<j.length:=(B5.mp ez).1;have lk:=qFE (p:=λx=>!decide (some x∈b)) (l:=j) (i:=i);refine xR rfl (xR rfl (xB la _ rfl ⟨.inr (Ac0 (k _ _ I.lay_)),rfl,qHA b,xR rfl ?_⟩));rw[qK0,qDT ez];by_cases e:some z∈b
   ·rw[decide_eq_true e];refine xR rfl ⟨k,?_⟩;simpa using d
   ·rw[decide_eq_false e];refine xR rfl ⟨_,d,qB2 (by rw[A0];lia),xR rfl ⟨qAK k hp,?_⟩⟩
    rw[qA1,if_pos (show(!false)=true from rfl),C4]
    rfl
  refineλσ H1 a1=>opq λac a0=>?_;obtain⟨v,rfl,a4,d⟩:=a1;refine a0 ?_;rw[A0,qIS rfl] at d;have I1:=I.same a4;refine⟨(by show 0<=B75;decide),λl0 a8=>?_⟩
  have s0:=qA4 a8 (.lst []);refine xC p l0 _ rfl ⟨rfl,Ab2 (s0 _ _ d),Ab2 qA1,xR rfl ?_⟩;have s1:=a4.trans s0;have I2:=I.same s1;generalize Ag H1 l0 (.lst [])=H2 at s0 s1 I2 ⊢;by_cases c2:∀x∈j,some x∈b
  ·have e:(j.filter λx=>!decide (some x∈b))=[]:=by
    rw[Z8];intro x hx;simp[c2 x hx]
   rw[e];rw[if_pos c2] at q;refine xR rfl (xR rfl (xD la _ _ _ rfl ⟨rfl,Ac0 I2.lay_,qE1 I.rm0 (by rw[C6,I.at_];rfl),xR rfl ?_⟩))
   cases o with
   |some y=>
    rw[decide_eq_false (show¬oV (some y)=V.non fromλz=>nomatch z)];exact q H2 s1
   |none=>
    rw[decide_eq_true (show oV none=V.non from rfl)];have c:=q H2 s1;dsimp only at c;refine xR rfl (xR rfl (xD wd _ _ _ rfl ⟨rfl,Ac0 I2.wides_,qE1 a2 (by rw[C6,ab];rfl),xR rfl (xR rfl (xD sz _ _ _ rfl ⟨rfl,Ac0 I2.sizes_,qE1 I.rm0 (by rw[C6,I.size];rfl),xB _ _ rfl ⟨rfl,xR rfl ?_⟩⟩))⟩))
    refine ite2 (λck=>?_) (λck=>?_)
    ·have n:wv>sv:=of_decide_eq_true ck;rw[if_pos (show sv<wv from n)] at c;exact c
    ·have n:¬wv>sv:=of_decide_eq_false (V7.mpr ck);rw[if_neg (show¬sv<wv from n)] at c;exact c
  ·have e:(j.filter λx=>!decide (some x∈b))≠[]:=λz=>c2 λx hx=>by
    have:=(Z8.mp z) x hx;simpa using this
   have c:=q H2 s1;rw[if_neg c2] at c;cases hf:(j.filter λx=>!decide (some x∈b)) with
   |nil=>exact absurd hf e
   |cons y ys=>exact c
theorem qXF {a:List (Option Int)} {k:Nat} {o:Option Int} (h:k<a.length):cutI a none (some (k:Int))++[o]++cutI a (some ((k:Int)+1)) none=a.set k o:=by
 have b:cutI a none (some (k:Int))=a.take k:=by
  unfold cutI;rw[HT.sIx_nat,HT.sIx_none,Z6,A19,S0 (F5 h)]
 have c:cutI a (some ((k:Int)+1)) none=a.drop (k+1):=by
  have:=qKE a (k+1) h;rw[<- this];congr 1
 rw[b,c,m4,if_pos h,O3]
 rfl
theorem qSA {n k:Nat} (h:k<n):¬(HT.sIx n 0 none=0/\HT.sIx n n (some (k:Int))=n):=λz=>by
 have:=z.2;rw[HT.sIx_nat,S0 (F5 h)] at this
 lia
theorem qS9 {n k:Nat} (h:k<n):¬(HT.sIx n 0 (some ((k:Int)+1))=0/\HT.sIx n n none=n):=λz=>by
 have:=z.1;have e:((k:Int)+1)=((k+1:Nat):Int):=by lia
 rw[e,HT.sIx_nat,S0 h] at this
 lia
theorem sc_Lput:FnScope ["_law_layout","_law_move","_law_room","_law_work"] ["_law_layout","_law_move"] (qAA qQJ):=qBU
theorem ok_Lput (F:Fun K "_law_put" "_law_put" qQJ f fd):FnOk P w K mg base CX0 1 f fd ["_law_layout","_law_move"] qLJ:=by
 refine F.okA sc_Lput λa4 A a1 s H vs Q E hr h=>?_;obtain⟨y,l,a,m,rfl,j,d,a3,e,ll,q⟩:=h;refine⟨_,(qA3 (qAE (i:=2) sc_Lput.nd rfl (F3 rfl) (qAT qAM (pv 1) (qTV qNN qA5) (λ_ _=>rfl))) (qA3 (qAE (i:=3) sc_Lput.nd rfl (F3 rfl) (qEQ (qAF qCL (qAT qAM (pv 1) qA5 (λ_ _=>rfl)) qAZ (qAL _)) (qAT qAM (pv 1) qA5 (λ_ _=>rfl)) qDN)) (qA6 (qAD (qAO qDP (qAO qDP (qAY qNS (pv 0) qBK (qB3 (pv 2))) (qBS (qA0 (pv 3) qA2))) (qAY qNS (pv 0) (qB3 (qAO qBT (pv 2) qA5)) qBK)))))),?_⟩
 try dsimp only[Cx.nox,Cx.wish,cxOf]
 have c:atI m.vs (-1)=some (.int m.rm):=by unfold Mo.vs;cases m.dk<;>rfl
 refine xR rfl (xR rfl (xD l _ _ _ rfl ⟨rfl,Ac0 d,c,?_⟩));have res:∀(G:V->Prop),G (oV m.res)->∃p xs k v,V.ref l=V.ref p/\V.int 0=V.int k/\SqT K H p xs/\atI xs k=some v/\(scal v (V.str (B1 "do"))=true/\∃b,V.bl (decide (v=V.str (B1 "do")))=V.bl b/\if b=true then∃v',([some (.ref y),some (.ref l),some (.int m.rm),none]:St)[1]?=some (some v')/\∃p xs k v,v'=V.ref p/\V.int 1=V.int k/\SqT K H p xs/\atI xs k=some v/\G v else G .non):=by
  intro G g;refine xD l _ _ _ rfl ⟨rfl,Ac0 d,show atI m.vs 0=some (.str (match m.dk with|true=>"do" |false=>"clear")) from by unfold Mo.vs;cases m.dk<;>rfl,rfl,xR rfl ?_⟩
  unfold Mo.res at g;cases hdk:m.dk with
  |true=>
   rw[hdk] at g;rw[decide_eq_true (rfl:V.str (B1 "do")=V.str (B1 "do"))]
   exact xR rfl (xD l _ _ _ rfl ⟨rfl,Ac0 d,show atI m.vs 1=some (.int m.wk) from by unfold Mo.vs;rw[hdk];rfl,g⟩)
  |false=>
   rw[hdk] at g;rw[decide_eq_false (show¬V.str (B1 "clear")=V.str (B1 "do") fromλz=>qC9 (V.str.inj z))]
   exact g
 refine xR rfl (res _ ?_);have er:m.rm=((m.rm.toNat:Nat):Int):=by lia
 refine xR rfl (xR rfl ⟨m.rm,rfl,xB y _ rfl ⟨Ac0 j,by rw[A0,er];exact qSA e,λs1 a2=>?_⟩⟩)
 rw[qBG];have t1:=qA4 a2 (.tup ((cutI a none (some m.rm)).map oV));have l1:=qHH a none (some m.rm);have l2:=qHH a (some (m.rm+1)) none;refine xR rfl ⟨(by show 1<=B75;decide),λs2 u=>?_⟩
 have t2:=qA4 u (.tup [oV m.res]);refine⟨s1,s2,(cutI a none (some m.rm)).map oV,[oV m.res],rfl,rfl,Ac0 (t2 _ _ qA1),Ac0 qA1,.inr ⟨by simp,qA1⟩,F5 (qAQ (by rw[A0,C1];lia)),λp H3 t hp=>?_⟩
 have s3:=(t1.trans t2).trans t;refine xR rfl (xR rfl (xB _ _ rfl ⟨rfl,m.rm+1,rfl,xB y _ rfl ⟨Ac0 (s3 _ _ j),by rw[A0,er];exact qS9 e,λs4 n=>?_⟩⟩))
 rw[qBG];have t4:=qA4 n (.tup ((cutI a (some (m.rm+1)) none).map oV));refine⟨p,s4,(cutI a none (some m.rm)).map oV++[oV m.res],(cutI a (some (m.rm+1)) none).map oV,rfl,rfl,Ac0 (t4 _ _ hp),Ac0 qA1,.inl ⟨by simp,t4 _ _ hp⟩,F5 (qAQ (by rw[A6,A0,A0,C1];lia)),λr H5 a0 x=>?_⟩
 refine q r H5 ((s3.trans t4).trans a0) ?_;rw[x,<- qXF (o:=m.res) e,<- er,C4,C4]
 rfl
theorem qJJ (j:Nat):qB6 0 ((j+1:Nat):Int)=qB6 0 (j:Int)++[0+(j:Int)]:=by
 unfold qB6;rw[show((((j+1:Nat):Int)-0).toNat)=j+1 from by lia,show(((j:Int)-0).toNat)=j from by lia,A56,C4]
 rfl
theorem qM0 (n:Int)(j:Nat):qBN n ((j+1:Nat):Int)=qBN n (j:Int)++(((qB6 0 n).map λwk=>⟨true,wk,0+(j:Int)⟩)++[⟨false,0,0+(j:Int)⟩]):=by
 unfold qBN;rw[qJJ,A08];simp
theorem qVY (n:Int)(j:Nat):(qBN n (j:Int)).length=j*(n.toNat+1):=by
 induction j with
 |zero=>show(qBN n (0:Int)).length=0*(n.toNat+1);simp[qBN,qB6]
 |succ j ih=>rw[qM0,A6,ih,A6,A0,qBZ,C1,B15];lia
theorem sc_Lall_moves:FnScope ["_law_net_here","_law_sizes","_law_found","_law_room"] ["_law_net_here","_law_sizes"] (qAA qDZ):=qBU
theorem ok_Lall_moves (F:Fun K "_law_all_moves" "_law_all_moves" qDZ f fd) (qBC:mg "range" = none) (qB1:mg "len" = none):FnOk P w K mg base CX0 1 f fd ["_law_net_here","_law_sizes"] qPG:=by
 refine F.okA sc_Lall_moves λaf A ab s H vs Q E hr h=>?_;obtain⟨a,sz,Ae,b,rfl,hN,n6,a9,k5,q⟩:=h;refine⟨_,(qA3 (qAE (i:=2) sc_Lall_moves.nd rfl (F3 rfl) (qBH qA2)) (qA3 (qDM L5 rfl (qBE rfl qBC (qA0 (qA8 qA9 rfl qB1 qB7 (qA0 (pv 1) qA2)) qA2)) (qBD (i:=3) sc_Lall_moves.nd rfl (A53 rfl)) (qA6 (qEP (qO0 M5 A35 A36 qO9 (pv 2) (qA0 (qAO qG8 (qE5 rfl (lcs (own:=["_law_work"]) (fv:=[3]) (by kernel_rfl)) (qBE rfl qBC (qA0 (qA8 qA9 rfl qB1 qB7 (qA0 (pv 0) qA2)) qA2)) (λz1=>qCC 0) (λz1=>qBM) (λz1=>(qBS (qA0 qAZ (qA0 (pv 0) (qA0 (pv 1) qA2)))))) (qBH (qA0 (qBS (qA0 qAZ (qA0 (pv 3) qA2))) qA2))) qA2))))) (qA6 (qAD (pv 2))))),?_⟩
 try dsimp only[Cx.nox,Cx.wish,cxOf]
 refine⟨(by show 0<=B75;decide),λl hl=>?_⟩
 have sl:=qA4 hl (.lst []);have d:(((b.map V.int).length:Nat):Int)=(b.length:Int):=by rw[A0]
 refine⟨_,rfl,sz,_,rfl,.inr (Ac0 (sl _ _ a9)),_,rfl,by rw[d];lia,by rw[d];lia,qDS (lo:=0) (n:=((((b.map V.int).length:Nat):Int)).toNat) (λi σ u=>∃(v:Option V),σ=[some (.ref a),some (.ref sz),some (.ref l),v]/\Same H u/\qcD u l (qBN (Ae.length:Int) (i:Int)))
  ⟨none,rfl,sl,[],qA1,.nil⟩ ?_ ?_⟩
 ·refineλi σ u hi a7=>opq λah z=>?_;obtain⟨v,rfl,sm,a3,r,M0⟩:=a7;refine z ?_;rw[d] at hi;have k:=C5 M0;rw[qVY] at k;have lb:a3.length<=5*7:=by
   rw[k];exact q9 (by lia) (by lia)
  obtain⟨rs,hA,NL⟩:=(hN.same sm);have g:(((rs.map V.ref).length:Nat):Int)=(Ae.length:Int):=by rw[A0,C5 NL]
  refine xR rfl ⟨.inl ⟨rfl,_,Ab2 r⟩,xR rfl (xB a _ rfl ⟨.inr (Ac0 hA),xR rfl ⟨by rw[g];lia,by rw[g];lia,λp hp=>?_⟩⟩)⟩
  refine qD7 (p:=p) (lo:=0) (n:=((((rs.map V.ref).length:Nat):Int)).toNat) (λj σ e=>∃(v:Option V) (fs:List Addr),σ=[v,some (.int (0+(i:Int)))]/\Same u e/\e p=some (.lst (fs.map V.ref))/\MosL e fs ((qB6 0 (j:Int)).map λx=>⟨true,x,0+(i:Int)⟩)) ?_ ?_ ?_
  ·exact⟨none,[],rfl,qA4 hp _,qA1,.nil⟩
  ·refineλj σ e hj a0=>opq λag a4=>?_;obtain⟨v,fs,rfl,t,gp,y⟩:=a0;refine a4 ?_;rw[g] at hj;have m:=C5 y;rw[A0,qBZ] at m;refine xR rfl (xR rfl ⟨(by show 3<=B75;decide),λT hT=>?_⟩)
   have o:=qA4 hT (.tup [.str "do",.int (0+(j:Int)),.int (0+(i:Int))])
   refine⟨_,o _ _ gp,qAQ (by rw[A0];lia),_,fs++[T],rfl,qAK (t.trans o) hp,by rw[qA1,qBF],?_⟩
   rw[qJJ,C4];exact MosL.put (Q5 (MosL.same y o) (show(Ag e T (.tup [.str "do",.int (0+(j:Int)),.int (0+(i:Int))])) T=some (.tup (Mo.vs ⟨true,0+(j:Int),0+(i:Int)⟩)) from qA1)) (o _ _ gp)
  ·refineλσ e a2=>opq λad a1=>?_;obtain⟨v,fs,rfl,t,gp,y⟩:=a2;refine a1 ?_;have em:((((((rs.map V.ref).length:Nat):Int)).toNat:Nat):Int)=(Ae.length:Int):=by rw[g];lia
   rw[em] at y;have m:=C5 y;rw[A0,qBZ] at m;refine xR rfl ⟨(by show 2<=B75;decide),λT hT=>⟨(by show 1<=B75;decide),λl1 ac=>?_⟩⟩
   have o:=qA4 hT (.tup [.str "clear",.int (0+(i:Int))]);have s1:=qA4 ac (.lst [.ref T]);have gT:(Ag e T (.tup [.str "clear",.int (0+(i:Int))])) T=some (.tup (Mo.vs ⟨false,0,0+(i:Int)⟩)):=qA1;refine xD p l1 _ _ rfl ⟨rfl,s1 _ _ (o _ _ gp),qA1,F5 (qAQ (by rw[A0,C1];lia)),λl2 aa=>?_⟩
   have s2:=qA4 aa (.lst (fs.map V.ref++[.ref T]));have sA:=(o.trans s1).trans s2;have g2:(Ag (Ag (Ag e T (.tup [.str "clear",.int (0+(i:Int))])) l1 (.lst [.ref T])) l2 (.lst (fs.map V.ref++[.ref T]))) l2=some (.lst ((fs++[T]).map V.ref)):=by rw[qA1,qBF]
   have a6:=(s1.trans s2) _ _ gT;generalize Ag (Ag (Ag e T (.tup [.str "clear",.int (0+(i:Int))])) l1 (.lst [.ref T])) l2 (.lst (fs.map V.ref++[.ref T]))=Hy at sA g2 a6 ⊢;have c:=t.trans sA;refine xD l l2 _ _ rfl ⟨rfl,c _ _ r,g2,F5 (qAQ (by rw[A0,A0,A6,C1];lia)),?_⟩
   refine xR rfl ⟨?_,a3++(fs++[T]),by rw[qA1];exact congrArg (λl=>some (HO.lst l)) (C4 ..).symm,?_⟩
   ·exact qAK (sm.trans c) hl
   ·rw[qM0];exact(MosL.put (qHY (MosL.same M0 c) (qHY (MosL.same y sA) (.cons a6 .nil))) (c _ _ r))
 ·refineλσ u a5=>opq λae a8=>?_;obtain⟨v,rfl,sm,hM⟩:=a5;refine a8 ?_;have em:((((((b.map V.int).length:Nat):Int)).toNat:Nat):Int)=(b.length:Int):=by rw[d];lia
  rw[em] at hM;exact xR rfl (q l u sm hl hM)
theorem qb3 (b:Bool):∃m:Int,atI [V.int 5,V.int 3] (if b then 1 else 0)=some (.int m)/\1<=m/\m<=5:=by
 cases b
 ·exact xR rfl ⟨by decide,by decide⟩
 ·exact xR rfl ⟨by decide,by decide⟩
theorem qWL {k:Int} (b:0<=k)(a:k<4):∃m:Int,atI [V.int 1,V.int 2,V.int 4,V.int 9] k=some (.int m)/\1<=m/\m<=9:=by
 rcases(by lia:k=0\/k=1\/k=2\/k=3) with rfl|rfl|rfl|rfl
 ·exact xR rfl ⟨by decide,by decide⟩
 ·exact xR rfl ⟨by decide,by decide⟩
 ·exact xR rfl ⟨by decide,by decide⟩
 ·exact xR rfl ⟨by decide,by decide⟩
theorem sc_Lthere:FnScope ["_law_state","_law_many","_law_net_here","_law_rooms","_law_most","_law_wides","_law_sizes"] ["_law_state"] (qAA qIU):=qBU
theorem ok_Lthere (F:Fun K "_law_there" "_law_there" qIU f fd) (qAV:Clb P w K mg base 1 qEW qES "_law_take" ["_law_state","_law_many"] qIB) (b8:Clb P w K mg base 3 qV8 qZS "_law_net" ["_law_state","_law_many"] qaR) (qBC:mg "range" = none) (qHT:mg "int" = none) (qAS:mg "tuple" = none) (qKL:mg "min" = none):FnOk P w K mg base CX0 4 f fd ["_law_state"] qQB:=by
 refine F.okA sc_Lthere λbp A ba s H vs Q E hr h=>?_;obtain⟨d,c,t,ns,rfl,S,ht,q⟩:=h;have bk:t<=1000000000-20000:=ht;refine⟨_,(qA3 (qAE (i:=1) sc_Lthere.nd rfl (F3 rfl) (qAO qBT qA5 (qAP qAV hr rfl (qA0 (pv 0) (qA0 qA5 qA2))))) (qA3 (qAE (i:=2) sc_Lthere.nd rfl (F3 rfl) (qAP b8 hr rfl (qA0 (pv 0) (qA0 (pv 1) qA2)))) (qA3 (qAE (i:=3) sc_Lthere.nd rfl (F3 rfl) (qAO qBT qA5 (qAP qAV hr rfl (qA0 (pv 0) (qA0 (qAT qCO (qBH (qA0 qA5 (qA0 qA5 qA2))) (qAJ qHK rfl qHT qLZ (qA0 (qCN qO6 (pv 1) qA5 (qAL _)) qA2)) (λ_ _=>rfl)) qA2))))) (qA3 (qTO (qB8 (PW.pt (qNX (qAF qO6 (pv 1) qA5 (qAL _)) (qJL (qAF qCL (qAP qAV hr rfl (qA0 (pv 0) (qA0 qA5 qA2))) qA5 (qAL _))))) (qA6 (qAE (i:=3) sc_Lthere.nd rfl (F3 rfl) qA5)) qAH)) (qA3 (qAE (i:=4) sc_Lthere.nd rfl (A53 rfl) (qAT qCO (qBH (qA0 qA5 (qA0 qA5 (qA0 qA5 (qA0 qA5 qA2))))) (qAP qAV hr rfl (qA0 (pv 0) (qA0 qA5 qA2))) (λ_ _=>rfl))) (qA3 (qAE (i:=5) sc_Lthere.nd rfl (F3 rfl) (qAJ qAU rfl qAS qB5 (qA0 (qE5 rfl (lcs (own:=["_law_k"]) (fv:=[0,4]) (by kernel_rfl)) (qBE rfl qBC (qA0 (pv 1) qA2)) (λz1=>qCC 0) (λz1=>qBM) (λz1=>(qAO qBT qA5 (qAP qAV hr rfl (qA0 (pv 1) (qA0 (pv 2) qA2)))))) qA2))) (qA3 (qPP (i:=6) sc_Lthere.nd rfl rfl rfl (lcs (own:=["_law_k"]) (fv:=[0,4]) (by kernel_rfl)) (qBE rfl qBC (qA0 (pv 3) qA2)) (λz2=>qCC 0) (λz2=>qBM) (λz2=>(qAO qBT qA5 (qAP qAV hr rfl (qA0 (pv 1) (qA0 (pv 2) qA2))))) (by kernel_rfl)) (qA3 (qTO (qB8 (qAF qCL (qAP qAV hr rfl (qA0 (pv 0) (qA0 qA5 qA2))) qA5 (qAL _)) (qA6 (qPP (i:=6) sc_Lthere.nd rfl rfl rfl (lcs (own:=["_law_size"]) (fv:=[4]) (by kernel_rfl)) (qBW (pv 6)) (λz3=>qCC 0) (λz3=>qBM) (λz3=>(qA8 (qHJ rfl) rfl qKL qP2 (qA0 qA5 (qA0 (qAO qBT (pv 0) (qAO qML (pv 1) qA5)) qA2)))) (by kernel_rfl))) qAH)) (qA6 (qAD (qBS (qA0 (pv 2) (qA0 (pv 5) (qA0 (qAJ qAU rfl qAS qB5 (qA0 (pv 6) qA2)) qA2)))))))))))))),?_⟩
 try dsimp only[Cx.nox,Cx.wish,cxOf]
 refine xR rfl (xE d c t ns 6 rfl ⟨S,(by show t<=1000000000;lia),by decide,by decide,λm0 b9 H1 a0 a1 S1 K1=>(xB _ _ rfl ⟨rfl,?_⟩)⟩)
 have mb:1<=1+m0/\1+m0<=6:=by lia
 dsimp only;generalize 1+m0=b at mb ⊢;refine xR rfl (xR rfl ⟨d,c,t+1,xB b9 b rfl ⟨S1,(by show t+1<=1000000000-10000;lia),by lia,by lia,λa Ae t2 be H2 S2 g1 g2 K2 hN wf nl=>?_⟩⟩)
 refine xR rfl ⟨(by show 2<=B75;decide),λp0 l=>?_⟩
 have s0:=qA4 l (.lst [.int 5,.int 3]);have n0:p0≠d/\p0≠c:=⟨(qA7 S2.dict l).symm,(qA7 S2.list l).symm⟩;refine xR rfl (xB _ _ rfl ⟨rfl,.inr (xR rfl ?_)⟩);obtain⟨bb,aa,k1,k2⟩:=qb3 (decide (b>4));refine xD p0 _ _ _ rfl ⟨rfl,Ab2 qA1,aa,?_⟩;refine xE d c t2 be bb rfl ⟨S2.same s0,(by show t2<=1000000000;lia),k1,by lia,λr0 aw H3 b0 b1 S3 K3=>(xB _ _ rfl ⟨rfl,?_⟩)⟩
 have a7:=(hN.same s0).keep (S2.same s0) K3;have kA:=(K1.trans K2).trans ((Keep.of_same s0).trans K3);clear aa;refine⟨λσ j=>∃(Aa t':Int) (ns':List Int),σ=[some (.ref d),some (.int b),some (.ref a),some (.int Aa),none,none,none]/\StAt j d c t' ns'/\t<=t'/\t'<=t+100/\NetAt j a Ae/\1<=Aa/\Aa<=5/\Keep d c H j,?_,?_⟩
 ·refine xR rfl (xB _ _ rfl ⟨rfl,xR rfl ?_⟩);refine ite2 (λ_=>?_) (λ_=>?_)
  ·refine xR rfl ⟨d,c,t2+1,xB aw 6 rfl ⟨S3,(by show t2+1<=1000000000;lia),by decide,by decide,λk6 a8 H4 c0 c1 S4 K4=>⟨rfl,xR rfl ?_⟩⟩⟩
   refine ite2 (λ_=>?_) (λ_=>?_)
   ·exact⟨4,t2+1+1,a8,rfl,S4,by lia,by lia,a7.keep S3 K4,by decide,by decide,kA.trans K4⟩
   ·exact⟨1+r0,t2+1+1,a8,rfl,S4,by lia,by lia,a7.keep S3 K4,by lia,by lia,kA.trans K4⟩
  ·exact⟨1+r0,t2+1,aw,rfl,S3,by lia,by lia,a7,by lia,by lia,kA⟩
 refineλσ H4 as=>opq λbl av=>?_;obtain⟨Aa,o,a8,rfl,S4,g3,g4,ap,r1,r5,kB⟩:=as;refine av ?_;clear kA a7 S3 K3 hN s0 n0 l S2 K2;refine⟨(by show 4<=B75;decide),λp0 l=>?_⟩
 have s0:=qA4 l (.lst [.int 1,.int 2,.int 4,.int 9]);have n0:p0≠d/\p0≠c:=⟨(qA7 S4.dict l).symm,(qA7 S4.list l).symm⟩;refine xR rfl (xE d c o a8 4 rfl ⟨S4.same s0,(by show o<=1000000000;lia),by decide,by decide,λk4 b4 H5 c0 c1 S5 K5=>?_⟩)
 obtain⟨k,a4,ah,bo⟩:=qWL c0 c1;refine xD p0 _ _ _ rfl ⟨rfl,Ab2 (K5 _ _ qA1 n0.1 n0.2),a4,?_⟩;have ai:=(ap.same s0).keep (S4.same s0) K5;have kB:=kB.trans ((Keep.of_same s0).trans K5);clear a4 K5 n0 s0 l S4 ap
 -- widths
 refine xR rfl (xR rfl ⟨by lia,by lia,λp hp=>?_⟩)
 have np:p≠d/\p≠c:=⟨(qA7 S5.dict hp).symm,(qA7 S5.list hp).symm⟩;refine qD7 (p:=p) (lo:=0) (n:=b.toNat) (λi σ j=>∃(v:Option V) (fs ns':List Int),σ=[v,some (.ref d),some (.int k)]/\StAt j d c (o+1+i) ns'/\Keep d c H5 j/\j p=some (.lst (fs.map V.int))/\fs.length=i/\∀x∈fs,0<=x/\x<=99) ?_ ?_ ?_
 ·exact⟨none,[],b4,rfl,by have:=S5.same (qA4 hp (.lst []));simpa using this,qCR hp _,qA1,rfl,λ_ z=>nomatch z⟩
 ·refineλi σ j hi ao=>opq λbq aj=>?_;obtain⟨v,fs,ns',rfl,S6,K6,gp,lf,a2⟩:=ao;refine aj ?_;refine xR rfl (xR rfl ⟨d,c,o+1+i,xB ns' k rfl ⟨S6,(by show o+1+(i:Int)<=1000000000;lia),ah,by lia,λx b3 H7 w0 w1 r K7=>(xB _ _ rfl ⟨rfl,?_⟩)⟩⟩)
  have b5:=K7 _ _ gp np.1 np.2;refine⟨_,b5,qAQ (by rw[A0];lia),_,fs++[1+x],b3,rfl,?_,qJ0 (K6.trans K7) hp,?_,by rw[A6,C1];lia,λy hy=>?_⟩
  ·have e:o+1+(i:Int)+1=o+1+((i+1:Nat):Int):=by lia
   rw[e] at r;exact⟨by rw[qAB np.1.symm];exact r.dict,by rw[qAB np.2.symm];exact r.list,r.ne,r.len,r.pos⟩
  ·rw[qA1,C4];rfl
  ·rcases B7.mp hy with hy|hy
   ·exact a2 y hy
   ·rw[B3.mp hy];lia
 refineλσ H6 aq=>opq λbg ad=>?_;obtain⟨v,g,bc,rfl,S6,K6,gp,lw,w9⟩:=aq;refine ad ?_;refine xB p _ rfl (.inl ⟨Ab2 gp,λwd au=>?_⟩);have sw:=qA4 au (.tup (g.map V.int));have a6:(Ag H6 wd (.tup (g.map V.int))) wd=some (.tup (g.map V.int)):=qA1;have r:=S6.same sw;have am:=(ai.keep S5 K6).same sw;have kC:=(kB.trans K6).trans (Keep.of_same sw);generalize Ag H6 wd (.tup (g.map V.int))=H7 at sw a6 r am kC ⊢;clear kB sw au gp K6 S6 np hp S5 ai
 -- sizes
 refine xR rfl (xR rfl ⟨by lia,by lia,λp hp=>?_⟩)
 have np:p≠d/\p≠c:=⟨(qA7 r.dict hp).symm,(qA7 r.list hp).symm⟩;refine qD7 (p:=p) (lo:=0) (n:=Aa.toNat) (λi σ j=>∃(v:Option V) (fs ns':List Int),σ=[v,some (.ref d),some (.int k)]/\StAt j d c (o+1+b.toNat+i) ns'/\Keep d c H7 j/\j p=some (.lst (fs.map V.int))/\fs.length=i/\∀x∈fs,0<=x/\x<=9) ?_ ?_ ?_
 ·exact⟨none,[],bc,rfl,by have:=r.same (qA4 hp (.lst []));simpa using this,qCR hp _,qA1,rfl,λ_ z=>nomatch z⟩
 ·refineλi σ j hi al=>opq λbi an=>?_;obtain⟨v,fs,ns',rfl,S8,K8,gp,lf,a2⟩:=al;refine an ?_;refine xR rfl (xR rfl ⟨d,c,o+1+b.toNat+i,xB ns' k rfl ⟨S8,(by show o+1+(b.toNat:Int)+(i:Int)<=1000000000;lia),ah,by lia,λx a3 H9 w0 w1 S9 K9=>(xB _ _ rfl ⟨rfl,?_⟩)⟩⟩)
  have m:=K9 _ _ gp np.1 np.2;refine⟨_,m,qAQ (by rw[A0];lia),_,fs++[1+x],a3,rfl,?_,qJ0 (K8.trans K9) hp,?_,by rw[A6,C1];lia,λy hy=>?_⟩
  ·have e:o+1+(b.toNat:Int)+(i:Int)+1=o+1+(b.toNat:Int)+((i+1:Nat):Int):=by lia
   rw[e] at S9;exact⟨by rw[qAB np.1.symm];exact S9.dict,by rw[qAB np.2.symm];exact S9.list,S9.ne,S9.len,S9.pos⟩
  ·rw[qA1,C4];rfl
  ·rcases B7.mp hy with hy|hy
   ·exact a2 y hy
   ·rw[B3.mp hy];lia
 refineλσ H8 af=>opq λbf ag=>?_;obtain⟨v,fs,b6,rfl,S8,K8,gp,lf,a2⟩:=af;refine ag ?_;have a5:=K8 _ _ a6 (r.tup a6).1 (r.tup a6).2;have b7:=am.keep r K8;have kD:=kC.trans K8;refine⟨λσ j=>∃(ns':List Int) (p:Addr) (sizes:List Int),σ=[some (.ref d),some (.int b),some (.ref a),some (.int Aa),some (.int k),some (.ref wd),some (.ref p)]/\StAt j d c (o+1+b.toNat+Aa.toNat+1) ns'/\NetAt j a Ae/\j wd=some (.tup (g.map V.int))/\j p=some (.lst (sizes.map V.int))/\sizes.length=Aa.toNat/\Keep d c H j/\∀x∈sizes,0<=x/\x<=99,?_,?_⟩
 ·refine xR rfl (xE d c _ b6 2 rfl ⟨S8,(by show o+1+(b.toNat:Int)+(Aa.toNat:Int)<=1000000000;lia),by decide,by decide,λbj a3 H9 d0 d1 S9 K9=>⟨rfl,xR rfl ?_⟩⟩)
  have m:=K9 _ _ gp np.1 np.2;have u:=K9 _ _ a5 (S8.tup a5).1 (S8.tup a5).2;have a9:=b7.keep S8 K9;refine ite2 (λ_=>?_) (λ_=>?_)
  ·refine xR rfl ⟨p,rfl,⟨_,Ab2 m⟩,λp2 ay=>?_⟩;refine qE7 (p:=p2) (a:=p) (xs:=fs.map V.int) (λi σ j=>∃(v:Option V) (gs:List Int),σ=[v,some (.int k)]/\Same H9 j/\j p2=some (.lst (gs.map V.int))/\gs.length=i/\∀x∈gs,0<=x/\x<=99) ?_ ?_ ?_ ?_
   ·exact⟨none,[],rfl,qA4 ay _,qA1,rfl,λ_ z=>nomatch z⟩
   ·rintro i σ j hi ⟨v,gs,rfl,sm,_⟩;exact Ab2 (sm _ _ m)
   ·refineλi x σ j hx ak=>opq λbm ar=>?_;obtain⟨v,gs,rfl,sm,ac,lg,ab⟩:=ak;obtain⟨z,ez,rfl⟩:=qI2 hx;refine ar ?_;have zi:=a2 z (D4 ez);have hi:=(B5.mp ez).1;refine xR rfl (xR rfl (xB _ _ rfl ⟨rfl,⟨by decide,by decide⟩,xB _ _ rfl ⟨rfl,xB _ _ rfl ?_⟩⟩))
    dsimp only;refine⟨_,ac,qAQ (by rw[A0];lia),_,gs++[_],rfl,qAK sm ay,(by rw[qA1,C4];rfl),by rw[A6,C1];lia,λy hy=>?_⟩
    rcases B7.mp hy with hy|hy
    ·exact ab y hy
    ·rw[B3.mp hy]
     split<;>lia
   ·refineλσ j ae=>opq λbn az=>?_;obtain⟨v,gs,rfl,sm,ac,lg,ab⟩:=ae;refine az ?_;rw[A0] at lg;exact xC a3 p2 gs rfl ⟨S9.same sm,a9.same sm,sm _ _ u,ac,by lia,(kD.trans K9).trans (Keep.of_same sm),ab⟩
  ·exact xC a3 p fs rfl ⟨S9,a9,u,m,lf,kD.trans K9,λx hx=>by have:=a2 x hx;lia⟩
 refineλσ H9 ax=>opq λbh b2=>?_;obtain⟨a3,p3,sizes,rfl,S9,a9,u,m,ls,kE,s9⟩:=ax;refine b2 ?_;refine xR rfl (xR rfl (xR rfl (xB p3 _ rfl (.inl ⟨Ab2 m,λsz bd=>⟨(by show 3<=B75;decide),λT hT=>?_⟩⟩))))
 have s1:=qA4 bd (.tup (sizes.map V.int));have s2:=qA4 hT (.tup [.ref a,.ref wd,.ref sz]);have s3:=s1.trans s2;exact q T a wd sz Ae g sizes _ a3 _ (S9.same s3) (by lia) (by lia) (kE.trans (Keep.of_same s3)) qA1 ⟨a9.same s3,wf,by lia,by lia,s3 _ _ u,by lia,w9,s2 _ _ qA1,by lia,by lia,s9⟩
theorem qMF (j:Nat):qB6 0 ((j+1:Nat):Int)=qB6 0 (j:Int)++[0+(j:Int)]:=by
 unfold qB6;rw[show((((j+1:Nat):Int)-0).toNat)=j+1 from by lia,show(((j:Int)-0).toNat)=j from by lia,A56,C4]
 rfl
def prM (k:Int)(j:Nat):List Mo:=((qB6 0 k).map λrm=>⟨false,0,rm⟩)++(qB6 0 (j:Int)).flatMap λwk=>(qB6 0 k).map λrm=>⟨true,wk,rm⟩
theorem qQR (k:Int)(j:Nat):prM k (j+1)=prM k j++(qB6 0 k).map λrm=>⟨true,0+(j:Int),rm⟩:=by
 unfold prM;rw[qMF,A08,O3];simp
theorem qTP (k j:Nat):(prM (k:Int) j).length=k*(j+1):=by
 induction j with
 |zero=>unfold prM;rw[A6,A0,qBZ];simp[qB6]
 |succ j ih=>rw[qQR,A6,ih,A0,qBZ,Nat.mul_succ k (j+1)];lia
theorem sc_moves_there:FnScope ["net","wides","sizes","layout","moves","work"] ["net","wides","sizes","layout"] (qAA qD2):=qBU
theorem ok_moves_there (F:Fun K "moves_there" "moves_there" qD2 f fd) (qC1:Clb P w K mg base 3 qDB qGC "fault_there" ["net","wides","sizes","layout","move"] (spTh false)) (qBC:mg "range" = none) (qB1:mg "len" = none):FnOk P w K mg base CX0 4 f fd ["net","wides","sizes","layout"] qM9:=by
 refine F.okA sc_moves_there λay A ao s H vs Q E hr h=>?_;obtain⟨a,wd,sz,la,z,k,b,a0,rfl,T,an,ll,q⟩:=h;have ax:Room 3 _:=hr;refine⟨_,(qA3 (qPP (i:=4) sc_moves_there.nd rfl rfl rfl (lcs (own:=["room"]) (fv:=[]) (by kernel_rfl)) (qBE rfl qBC (qA0 (qA8 qA9 rfl qB1 qB7 (qA0 (pv 2) qA2)) qA2)) (λz1=>qCC 0) (λz1=>qBM) (λz1=>(qBS (qA0 qAZ (qA0 (pv 0) qA2)))) (by kernel_rfl)) (qA3 (qDM L5 rfl (qBE rfl qBC (qA0 (qA8 qA9 rfl qB1 qB7 (qA0 (pv 0) qA2)) qA2)) (qBD (i:=5) sc_moves_there.nd rfl (A53 rfl)) (qA6 (qEP (qO0 M5 A35 A36 qO9 (pv 4) (qA0 (qE5 rfl (lcs (own:=["room"]) (fv:=[5]) (by kernel_rfl)) (qBE rfl qBC (qA0 (qA8 qA9 rfl qB1 qB7 (qA0 (pv 2) qA2)) qA2)) (λz2=>qCC 0) (λz2=>qBM) (λz2=>(qBS (qA0 qAZ (qA0 (pv 1) (qA0 (pv 0) qA2)))))) qA2))))) (qA6 (qAD (qE5 rfl (lcs (own:=["move"]) (fv:=[0,1,2,3]) (by kernel_rfl)) (qBW (pv 4)) (λz3=>qCC 0) (λz3=>(qF8 (qCY (qGV (qAP qC1 hr rfl (qA0 (pv 1) (qA0 (pv 2) (qA0 (pv 3) (qA0 (pv 4) (qA0 (pv 0) qA2)))))))))) (λz3=>(pv 0))))))),?_⟩
 try dsimp only[Cx.nox,Cx.wish,cxOf]
 have t:(((b.map V.int).length:Nat):Int)=(b.length:Int):=by rw[A0]
 have k5:=T.k5;have n6:=T.n6;refine xR rfl (xB sz _ rfl ⟨.inr (Ac0 T.sizes_),xR rfl ⟨by rw[t];lia,by rw[t];lia,λl hl=>?_⟩⟩)
 refine qD7 (p:=l) (lo:=0) (n:=((((b.map V.int).length:Nat):Int)).toNat) (λj σ g=>∃(v:Option V) (fs:List Addr),σ=[v]/\Same H g/\g l=some (.lst (fs.map V.ref))/\MosL g fs ((qB6 0 (j:Int)).map λx=>⟨false,0,x⟩)) ?_ ?_ ?_
 ·exact⟨none,[],rfl,qA4 hl _,qA1,.nil⟩
 ·refineλj σ g hj ah=>opq λav ai=>?_;obtain⟨v,fs,rfl,d,y,r⟩:=ah;refine ai ?_;rw[t] at hj;have u:=C5 r;rw[A0,qBZ] at u;refine xR rfl ⟨(by show 2<=B75;decide),λT hT=>?_⟩
  have sT:=qA4 hT (.tup [.str "clear",.int (0+(j:Int))]);refine⟨_,sT _ _ y,qAQ (by rw[A0];lia),_,fs++[T],rfl,qAK (d.trans sT) hl,by rw[qA1,qBF],?_⟩
  rw[qMF,C4];exact MosL.put (Q5 (MosL.same r sT) (show(Ag g T (.tup [.str "clear",.int (0+(j:Int))])) T=some (.tup (Mo.vs ⟨false,0,0+(j:Int)⟩)) from qA1)) (sT _ _ y)
 refineλσ g ad=>opq λaz aa=>?_;obtain⟨v,a9,rfl,a1,a4,M0⟩:=ad;refine aa ?_;have em:((((((b.map V.int).length:Nat):Int)).toNat:Nat):Int)=(b.length:Int):=by rw[t];lia
 rw[em] at M0;have M0:MosL g a9 (prM (b.length:Int) 0):=by
  have:prM (b.length:Int) 0=(qB6 0 (b.length:Int)).map λx=>⟨false,0,x⟩:=by unfold prM;simp[qB6]
  rw[this];exact M0
 obtain⟨rs,hA,NL⟩:=T.net_.same a1;have a2:(((rs.map V.ref).length:Nat):Int)=(z.length:Int):=by rw[A0,C5 NL]
 refine⟨_,rfl,a,_,rfl,.inr (Ac0 hA),_,rfl,by rw[a2];lia,by rw[a2];lia,qDS (lo:=0) (n:=((((rs.map V.ref).length:Nat):Int)).toNat) (λi σ Hc=>∃(v:Option V) (fs:List Addr),σ=[some (.ref a),some (.ref wd),some (.ref sz),some (.ref la),some (.ref l),v]/\Same H Hc/\Hc l=some (.lst (fs.map V.ref))/\MosL Hc fs (prM (b.length:Int) i))
  ⟨none,a9,rfl,a1,a4,M0⟩ ?_ ?_⟩
 ·clear a1 a4 M0 hA NL;refineλi σ Hc hi ae=>opq λaq a5=>?_;obtain⟨v,fs,rfl,sm,gl,M⟩:=ae;refine a5 ?_;rw[a2] at hi;have u:=C5 M;rw[qTP] at u;have lb:fs.length<=5*7:=by
   rw[u];exact q9 (by lia) (by lia)
  refine xR rfl ⟨.inl ⟨rfl,_,Ab2 gl⟩,xR rfl (xB sz _ rfl ⟨.inr (Ac0 (sm _ _ T.sizes_)),xR rfl ⟨by rw[t];lia,by rw[t];lia,λp hp=>?_⟩⟩)⟩
  refine qD7 (p:=p) (lo:=0) (n:=((((b.map V.int).length:Nat):Int)).toNat) (λj σ g=>∃(v:Option V) (es:List Addr),σ=[v,some (.int (0+(i:Int)))]/\Same Hc g/\g p=some (.lst (es.map V.ref))/\MosL g es ((qB6 0 (j:Int)).map λx=>⟨true,0+(i:Int),x⟩)) ?_ ?_ ?_
  ·exact⟨none,[],rfl,qA4 hp _,qA1,.nil⟩
  ·refineλj σ g hj ab=>opq λas ac=>?_;obtain⟨v,es,rfl,d,y,r⟩:=ab;refine ac ?_;rw[t] at hj;have a3:=C5 r;rw[A0,qBZ] at a3;refine xR rfl (xR rfl ⟨(by show 3<=B75;decide),λT hT=>?_⟩)
   have sT:=qA4 hT (.tup [.str "do",.int (0+(i:Int)),.int (0+(j:Int))])
   refine⟨_,sT _ _ y,qAQ (by rw[A0];lia),_,es++[T],rfl,qAK (d.trans sT) hp,by rw[qA1,qBF],?_⟩
   rw[qMF,C4];exact MosL.put (Q5 (MosL.same r sT) (show(Ag g T (.tup [.str "do",.int (0+(i:Int)),.int (0+(j:Int))])) T=some (.tup (Mo.vs ⟨true,0+(i:Int),0+(j:Int)⟩)) from qA1)) (sT _ _ y)
  ·refineλσ g a7=>opq λap a8=>?_;obtain⟨v,es,rfl,d,y,r⟩:=a7;refine a8 ?_;rw[em] at r;have a3:=C5 r;rw[A0,qBZ] at a3;refine xD l p _ _ rfl ⟨rfl,d _ _ gl,y,F5 (qAQ (by rw[A0,A0];lia)),?_⟩
   refine⟨_,fs++es,rfl,qAK (sm.trans d) hl,by rw[qA1];exact congrArg (λl=>some (HO.lst l)) (C4 ..).symm,?_⟩
   rw[qQR];exact MosL.put (qHY (MosL.same M d) r) (d _ _ gl)
 ·clear a1 a4 M0 hA NL;refineλσ Hc ag=>opq λau af=>?_;obtain⟨v,fs,rfl,sm,gl,M⟩:=ag;refine af ?_;have en:(((((rs.map V.ref).length:Nat):Int)).toNat)=z.length:=by rw[a2];lia
  rw[en] at M;have M:MosL Hc fs (prMo (z.length:Int) (b.length:Int)):=M;have T2:=T.same sm;have u:=C5 M;have lp:(prMo (z.length:Int) (b.length:Int)).length=b.length*(z.length+1):=qTP b.length z.length;have lb:fs.length<=5*7:=by
   rw[u,lp];exact q9 (by lia) (by lia)
  refine xR rfl ⟨l,rfl,⟨_,Ab2 gl⟩,λp hp=>?_⟩;refine qE7 (p:=p) (a:=l) (xs:=fs.map V.ref) (λi σ g=>∃(v:Option V) (es:List Addr),σ=[v,some (.ref a),some (.ref wd),some (.ref sz),some (.ref la)]/\Same Hc g/\g p=some (.lst (es.map V.ref))/\MosL g es (((prMo (z.length:Int) (b.length:Int)).take i).filter λm=>decide (fwO z k b a0 m=.non))) ?_ ?_ ?_ ?_
  ·exact⟨none,[],rfl,qA4 hp _,qA1,.nil⟩
  ·rintro i σ g hi ⟨v,es,rfl,d,_⟩;exact Ab2 (d _ _ gl)
  ·refineλi x σ g hx a6=>opq λaw al=>?_;obtain⟨v,es,rfl,d,y,r⟩:=a6;obtain⟨mv,aj,rfl⟩:=qC3 hx;obtain⟨m,hm,gm⟩:=qAN M aj;refine al ?_;have lk:=qN0 (p:=λm=>decide (fwO z k b a0 m=.non)) (l:=prMo (z.length:Int) (b.length:Int)) (i:=i);have a3:=C5 r;have hi:=(B5.mp aj).1;obtain⟨b1,b2⟩:=mem_prMo.mp (D4 hm);obtain⟨ns,o,sv,wv,TI,ef⟩:=(T.same (sm.trans d)).tinO (d _ _ (sm _ _ an)) ll (d _ _ gm) (qFU (D4 hm));refine xR rfl (xR rfl (xR rfl (xR rfl (xR rfl (xN a wd sz la mv z k b a0 m ns o sv wv rfl ⟨TI,(λe=>nomatch e),λH4 s4=>?_⟩)))));rw[<- ef,qDT hm];have s5:=d.trans s4;refine xR rfl ?_;by_cases c:fwO z k b a0 m=.non
   ·rw[decide_eq_true c];refine xR rfl ⟨_,s4 _ _ y,qAQ (by rw[A0];lia),_,es++[mv],rfl,qAK s5 hp,by rw[qA1,qBF],?_⟩
    rw[if_pos rfl];exact MosL.put (Q5 (MosL.same r s4) (s5 _ _ gm)) (s4 _ _ y)
   ·rw[decide_eq_false c];refine xB _ es rfl ⟨s5,s4 _ _ y,?_⟩;rw[if_neg B6,M4];exact MosL.same r s4
  ·refineλσ g ak=>opq λar am=>?_;obtain⟨v,es,rfl,d,y,r⟩:=ak;refine am ?_;rw[A0,u,D3 (B4 _)] at r;exact q p es g (sm.trans d) (sm.free hp) y r
theorem qPJ:FnScope ["plan"] ["plan"] (qAA qFP):=qBU
theorem ok_steps_of (F:Fun K "steps_of" "steps_of" qFP f fd) (qB1:mg "len" = none):FnOk P w K mg base CX0 1 f fd ["plan"] qM7:=by
 refine F.okA qPJ λa3 A t s H vs Q E hr h=>?_;obtain⟨l,rs,o,rfl,hl,M,a2,q⟩:=h;refine⟨_,(qA6 (qAD (qA8 qA9 rfl qB1 qB7 (qA0 (qE5 rfl (lcs (own:=["move"]) (fv:=[]) (by kernel_rfl)) (qBW (pv 0)) (λy=>qCC 0) (λy=>(qF8 (qAF qCL (qAT (qMX (K:=K) rfl) (pv 0) qA5 (λ_ _=>rfl)) qAZ (qAL _)))) (λy=>(pv 0))) qA2)))),?_⟩
 try dsimp only[Cx.nox,Cx.wish,cxOf]
 have u:=C5 M;refine xR rfl ⟨l,rfl,⟨_,Ab2 hl⟩,λp hp=>?_⟩;refine qE7 (p:=p) (a:=l) (xs:=rs.map V.ref) (λi σ k=>∃(v:Option V) (fs:List Addr),σ=[v]/\Same H k/\k p=some (.lst (fs.map V.ref))/\fs.length=((o.take i).filter λm=>m.dk).length) ?_ ?_ ?_ ?_
 ·exact⟨none,[],rfl,qA4 hp _,qA1,rfl⟩
 ·rintro i σ k hi ⟨v,fs,rfl,sm,_⟩;exact Ab2 (sm _ _ hl)
 ·refineλi x σ k hx c=>opq λa1 j=>?_;obtain⟨v,fs,rfl,sm,b,n⟩:=c;obtain⟨mv,r,rfl⟩:=qC3 hx;obtain⟨m,hm,hH⟩:=qAN M r;refine j ?_;have hi:=(B5.mp hm).1;have lk:=qN0 (p:=λm:Mo=>m.dk) (l:=o) (i:=i);refine xR rfl (xD mv _ _ _ rfl ⟨rfl,Ac0 (sm _ _ hH),show atI m.vs 0=some (.str (match m.dk with|true=>"do" |false=>"clear")) from by unfold Mo.vs;cases m.dk<;>rfl,rfl,xR rfl ?_⟩)
  rw[qDT hm];cases hdk:m.dk with
  |true=>
   rw[decide_eq_true (rfl:V.str (B1 "do")=V.str (B1 "do"))]
   refine xR rfl ⟨_,b,qAQ (by rw[A0];lia),_,fs++[mv],rfl,qAK sm hp,by rw[qA1,qBF],?_⟩
   rw[if_pos rfl,A6,A6,n];rfl
  |false=>
   rw[decide_eq_false (show¬V.str (B1 "clear")=V.str (B1 "do") fromλz=>qC9 (V.str.inj z))]
   refine xB _ fs rfl ⟨sm,b,?_⟩;rw[if_neg B6,M4,n]
 refineλσ k g=>opq λa0 d=>?_;obtain⟨v,fs,rfl,sm,b,n⟩:=g;refine d ?_;rw[A0,u,qIS rfl] at n;refine xB p _ rfl ⟨.inl (Ab2 b),?_⟩;have e:(((fs.map V.ref).length:Nat):Int)=(dosO o:Int):=by rw[A0,n];rfl
 rw[e];exact q k sm
theorem sc_layouts_reached:FnScope ["net","wides","sizes","start","reached","due","later","layout","move","further"] ["net","wides","sizes"] (qAA qBY):=qBU
theorem ok_layouts_reached (F:Fun K "layouts_reached" "layouts_reached" qBY f fd) (bq:Clb P w K mg base 4 qDA qGA "moves_there" ["net","wides","sizes","layout"] qM9) (qBB:Clb P w K mg base 1 qBX qCX "layout_behind" ["layout","move"] qLJ) (bn:Clb P w K mg base 1 qG2 qK7 "steps_of" ["plan"] qM7) (qB1:mg "len" = none):FnOk P w K mg base CX0 5 f fd ["net","wides","sizes"] qQD:=by
 refine F.okA sc_layouts_reached λc1 A bo s H vs Q E hr h=>?_;obtain⟨a,wd,sz,Ae,j,b,rfl,T,q⟩:=h;have hu:=qPV hr;refine⟨_,(qA3 (qAE (i:=3) sc_layouts_reached.nd rfl (F3 rfl) (qAO qMJ (qBS (qA0 qDN qA2)) (qA8 qA9 rfl qB1 qB7 (qA0 (pv 2) qA2)))) (qA3 (qAE (i:=4) sc_layouts_reached.nd rfl (F3 rfl) (qTZ hu (pv 3) (qBS (qA0 qA5 (qA0 qDN (qA0 qDN qA2)))))) (qA3 (qAE (i:=5) sc_layouts_reached.nd rfl (F3 rfl) (qBH (qA0 (pv 3) qA2))) (qA3 (qQQ L5 (qQP (pv 5) (λ_=>rfl)) (qA3 (qAE (i:=6) sc_layouts_reached.nd rfl (F3 rfl) (qBH qA2)) (qA3 (qDM L5 rfl (qBW (pv 5)) (qBD (i:=7) sc_layouts_reached.nd rfl (F3 rfl)) (qA6 (qDM L5 rfl (qBW (qAP bq hr rfl (qA0 (pv 0) (qA0 (pv 1) (qA0 (pv 2) (qA0 (pv 7) qA2)))))) (qBD (i:=8) sc_layouts_reached.nd rfl (F3 rfl)) (qA3 (qAE (i:=9) sc_layouts_reached.nd rfl (F3 rfl) (qAP qBB hr rfl (qA0 (pv 7) (qA0 (pv 8) qA2)))) (qA6 (qB8 (qCY (qO1 hu (pv 9) (pv 4))) (qA3 (qMH hu (pv 4) (pv 9) (qBS (qA0 (qAO qBT (qAT qAM (qE6 hu (pv 4) (pv 7) (λ_ _=>rfl)) qA5 (λ_ _=>rfl)) (qAP bn hr rfl (qA0 (qBH (qA0 (pv 8) qA2)) qA2))) (qA0 (pv 7) (qA0 (pv 8) qA2)))) rfl) (qA6 (qEP (qO0 M5 T5 T6 qED (pv 6) (qA0 (pv 9) qA2))))) qAH)))))) (qA6 (qAE (i:=5) sc_layouts_reached.nd rfl (F3 rfl) (pv 6)))))) (qA6 (qAD (qTY (pv 4)))))))),?_⟩
 try dsimp only[Cx.nox,Cx.wish,cxOf]
 have k1:=T.k1;have k5:=T.k5;have n6:=T.n6;have pw:(Ae.length+1)^b.length<=16807:=F4 (A09 (show Ae.length+1<=7 by lia) _) (w6 (show 0<7 by decide) k5)
 have bk:(((b.map V.int).length:Nat):Int)=(b.length:Int):=by rw[A0]
 refine⟨(by show 1<=B75;decide),λt1 az=>?_⟩
 have s1:=qA4 az (.tup [.non]);refine xR rfl (xB sz _ rfl ⟨.inr (Ac0 (s1 _ _ T.sizes_)),?_⟩);rw[bk];refine qFS qA1 k1 (by lia) λst H1 aq a3=>?_
 have s1:=s1.trans aq;generalize Ag H t1 (.tup [.non])=H0 at aq;clear aq az H0;intro rd as;refine xR rfl ⟨(by show 3<=B75;decide),λv0 bh=>?_⟩
 have s2:=qA4 as (.dT []);have s3:=qA4 bh (.tup [.int 0,.non,.non]);have a8:H rd=none:=s1.free as;have sA:=s1.trans (s2.trans s3);have g1:(Ag (Ag H1 rd (.dT [])) v0 (.tup [.int 0,.non,.non])) rd=some (.dT []):=s3 _ _ qA1;have g2:(Ag (Ag H1 rd (.dT [])) v0 (.tup [.int 0,.non,.non])) st=some (.tup ((l0 b).map oV)):=s3 _ _ (s2 _ _ a3);have g3:(Ag (Ag H1 rd (.dT [])) v0 (.tup [.int 0,.non,.non])) v0=some (.tup [.int ((0:Nat):Int),.non,.non]):=qA1;generalize Ag (Ag H1 rd (.dT [])) v0 (.tup [.int 0,.non,.non])=H2 at g1 g2 g3 sA;clear s2 s3 bh as a3 s1;refine⟨g1,st,keyO (l0 b),rfl,by rw[qC8];exact g2,?_⟩
 have e:EntO H2 [(keyO (l0 b),.ref v0)] [l0 b] (λ_=>0) (λ_=>none):=.cons ⟨rfl,v0,rfl,g3⟩ .nil;have e:=e.put (u:=.dT [(keyO (l0 b),.ref v0)]) g1 (λxs z=>by cases z)
 have g2:=qC2 (u:=.dT [(keyO (l0 b),.ref v0)]) g2 g1 (λxs z=>by cases z)
 have sB:Same H (Ag H2 rd (.dT [(keyO (l0 b),.ref v0)])):=qAK sA a8;have g4:(Ag H2 rd (.dT [(keyO (l0 b),.ref v0)])) rd=some (.dT [(keyO (l0 b),.ref v0)]):=qA1;generalize Ag H2 rd (.dT [(keyO (l0 b),.ref v0)])=H3 at e g2 sB g4;clear g1 g3 sA;refine xR rfl ⟨(by show 1<=B75;decide),λdu bb=>?_⟩
 have s6:=qA4 bb (.lst [.ref st]);have sC:=sB.trans s6;have aa:=e.same s6;have g5:=s6 _ _ g4;have g6:(Ag H3 du (.lst [.ref st])) du=some (.lst ([st].map V.ref)):=qA1;have g7:LaysAt (Ag H3 du (.lst [.ref st])) [st] [l0 b]:=.cons (s6 _ _ g2) .nil;generalize Ag H3 du (.lst [.ref st])=H4 at sC aa g5 g6 g7;clear e g2 sB g4 s6 bb;refine⟨λm σ Hc=>∃(du:Addr) (dr:List Addr) (due ks:List La) (f:La->Nat) (g:La->PrO) (Af:KvO) (t:Nat) (v6 v7 v8 v9:Option V),σ=[some (.ref a),some (.ref wd),some (.ref sz),some (.ref st),some (.ref rd),some (.ref du),v6,v7,v8,v9]/\m=(16807-ks.length)*2+(if due=[] then 0 else 1)/\Same H Hc/\Hc rd=some (.dT Af)/\EntO Hc Af ks f g/\PvO Ae j b ks f g/\Hc du=some (.lst (dr.map V.ref))/\LaysAt Hc dr due/\BFO Ae j b t ks due [] f 0 0,
  ⟨_,du,[st],[l0 b],[l0 b],λ_=>0,λ_=>none,_,0,none,none,none,none,rfl,rfl,sC,g5,aa,PvO.start,g6,g7,BFO.start⟩,?_⟩
 clear sC g5 aa g6 g7;refineλm σ Hc bc=>opq λc0 be=>?_;obtain⟨du,dr,due,ks,f,g,Af,t,v6,v7,v8,v9,rfl,rfl,sm,p,e,pv,y,SD,B⟩:=bc;refine be ?_;refine xR rfl ⟨_,.inl ⟨_,Ab2 y,rfl⟩,?_⟩;have ap:dr.length=due.length:=C5 SD;by_cases hz:due=[]
 ·subst hz;have:dr=[]:=P3.mp ap;subst this;refine iteF ?_;exact xR rfl (xB rd Af rfl ⟨p,λo=>q rd o Af ks f g _ (qAK sm a8) a8 qA1 (e.put p λxs z=>by cases z) B.rch pv⟩)
 ·have ne:(!(dr.map V.ref).isEmpty)=true:=by
   cases dr with
   |nil=>exact absurd (P3.mp ap.symm) hz
   |cons _ _=>rfl
  dsimp only;rw[if_pos ne];have bs:=B.len;have ln:=e.len;refine qbF λN0 b8=>?_;refine⟨(by show 0<=B75;decide),λll ac=>?_⟩
  have s7:=qA4 ac (.lst []);have br:H ll=none:=sm.free ac;have am:ll≠rd/\ll≠du:=⟨(qA7 p ac).symm,(qA7 y ac).symm⟩;have bg:rd≠du:=qFB p y (by intro z;cases z)
  obtain⟨k0,al⟩:∃k0,k0=ks.length:=⟨_,rfl⟩;rw[<- al] at b8;refine⟨_,rfl,du,rfl,⟨_,Ab2 (s7 _ _ y)⟩,qOS (a:=du) (xs:=dr.map V.ref) (λi σ Hd=>∃(lr:List Addr) (ly ks:List La) (f:La->Nat) (g:La->PrO) (Af:KvO) (v7 v8 v9:Option V),σ=[some (.ref a),some (.ref wd),some (.ref sz),some (.ref st),some (.ref rd),some (.ref du),some (.ref ll),v7,v8,v9]/\Same H Hd/\Hd rd=some (.dT Af)/\EntO Hd Af ks f g/\PvO Ae j b ks f g/\Hd du=some (.lst (dr.map V.ref))/\LaysAt Hd dr due/\Hd ll=some (.lst (lr.map V.ref))/\LaysAt Hd lr ly/\BFO Ae j b t ks due ly f i 0/\ks.length=k0+ly.length)
   ⟨[],[],ks,f,g,Af,v7,v8,v9,rfl,sm.trans s7,s7 _ _ p,e.same s7,pv,s7 _ _ y,SD.same s7,qA1,.nil,B,al.symm⟩ (by rintro i σ Hd _ ⟨_,_,_,_,_,_,_,_,_,_,_,_,_,_,z,_⟩;exact Ab2 z) ?_ ?_⟩
  ·clear s7 p e y SD B sm ln bs al pv;refineλi x σ Hd hx b6 N1 bj=>opq λc2 b3=>?_;obtain⟨lr,ly,ks,f,g,Af,v7,v8,v9,rfl,sm,p,e,pv,y,SD,a0,SL,B,a4⟩:=b6;obtain⟨sr,aw,rfl⟩:=qC3 hx;obtain⟨d,ab,a3⟩:=qAN SD aw;refine b3 ?_;have P:=((B.duem d).mp (D4 ab)).1;have a6:d∈ks:=B.full t d (B4 _) P;have bi:=P.len;refine xR rfl (xR rfl (xR rfl (xR rfl (xH a wd sz sr Ae j b d rfl ⟨T.same sm,a3,bi,λl rs H5 s3 fl gl ML=>?_⟩))));have bm:rs.length=(nxO Ae j b d).length:=C5 ML;refine⟨l,rfl,⟨_,Ab2 gl⟩,qOS (a:=l) (xs:=rs.map V.ref) (λk σ Hd=>∃(lr:List Addr) (ly ks:List La) (f:La->Nat) (g:La->PrO) (Af:KvO) (v8 v9:Option V),σ=[some (.ref a),some (.ref wd),some (.ref sz),some (.ref st),some (.ref rd),some (.ref du),some (.ref ll),some (.ref sr),v8,v9]/\Same H Hd/\Hd rd=some (.dT Af)/\EntO Hd Af ks f g/\PvO Ae j b ks f g/\Hd du=some (.lst (dr.map V.ref))/\LaysAt Hd dr due/\Hd ll=some (.lst (lr.map V.ref))/\LaysAt Hd lr ly/\BFO Ae j b t ks due ly f i k/\ks.length=k0+ly.length/\Hd l=some (.lst (rs.map V.ref))/\MosL Hd rs (nxO Ae j b d)/\d∈ks)
    ⟨lr,ly,ks,f,g,Af,v8,v9,rfl,sm.trans s3,s3 _ _ p,e.same s3,pv,s3 _ _ y,SD.same s3,s3 _ _ a0,SL.same s3,B,a4,gl,ML,a6⟩ (by rintro k σ Hd _ ⟨_,_,_,_,_,_,_,_,_,_,_,_,_,_,_,_,_,_,_,z,_⟩;exact Ab2 z) ?_ ?_⟩
   ·have nl:rd≠l/\ll≠l:=⟨qA7 p fl,qA7 a0 fl⟩;clear p e y SD a0 SL B a4 sm gl ML s3 a6 a3 pv;refineλk x σ Hd hx b7 N2 b0=>opq λbv au=>?_;obtain⟨lr,ly,ks,f,g,Af,v8,v9,rfl,sm,p,e,pv,y,SD,a0,SL,B,a4,gl,ML,a6⟩:=b7;obtain⟨mv,bp,rfl⟩:=qC3 hx;obtain⟨mo,an,ao⟩:=qAN ML bp;obtain⟨bt,af,a3⟩:=qAN SD aw;refine au ?_;rw[ab] at af;cases af;have aj:=D4 an;have nb:=qMM aj;refine xR rfl (xR rfl (xD sr mv d mo rfl ⟨a3,ao,nb.1.1,by lia,by lia,λr H6 s4 gr=>?_⟩))
    have gr:H6 r=some (.tup ((beO d mo).map oV)):=gr;have b2:=sm.trans s4;have a7:=s4 _ _ p;have a1:=e.same s4;have ag:=s4 _ _ y;have av:=SD.same s4;have ae:=s4 _ _ a0;have ar:=SL.same s4;have bd:=s4 _ _ gl;have ba:=ML.same s4;have ah:=s4 _ _ a3;have ai:=s4 _ _ ao;have lb:=B.len;clear p e y SD a0 SL gl ML a3 ao;refine xR rfl (xR rfl (xB rd _ rfl ⟨.inr ⟨Af,keyO (beO d mo),r,.inl a7,rfl,by rw[qC8];exact gr,rfl⟩,xR rfl ?_⟩))
    by_cases a9:beO d mo∈ks
    ·obtain⟨v,ev,_⟩:=a1.val a9;rw[ev];refine iteF ?_;exact b0 _ _ (xH lr ly ks f g Af _ _ rfl ⟨b2,a7,a1,pv,ag,av,ae,ar,B.hit ab an a9,a4,bd,ba,a6⟩)
    ·rw[a1.none a9];refine iteT ?_;obtain⟨v,ev,vx⟩:=a1.val a6;obtain⟨vr,xx,yy,e6,gv⟩:=vx.at;subst e6;have dg:DGet H6 rd (.ref sr) (some (.ref vr)):=by
      rw[<- ev];exact .inr ⟨Af,keyO d,sr,.inl a7,rfl,by rw[qC8];exact ah,rfl⟩
     have B2:=B.add ab an a9;have bl:=B2.len;rw[A6,C1] at bl;have bx:lr.length=ly.length:=C5 ar;have bz:=a1.len;have nt:∀kk xs,HO.dT kk≠.tup xs:=λkk xs q=>by cases q
     have ad:∀kk xs,HO.lst kk≠.tup xs:=λkk xs q=>by cases q
     refine xR rfl (xR rfl ⟨rd,.ref vr,rfl,dg,vr,_,_,xR rfl ⟨rfl,Ac0 gv,rfl,xR rfl ⟨(by show 1<=B75;decide),λlm ak=>⟨lm,[mv],[mo],rfl,qA1,.cons (qA4 ak _ _ _ ai) .nil,(by show 1<=20000;decide),λH7 s7=>⟨_,xR rfl ⟨rfl,xR rfl (xR rfl ⟨(by show 3<=B75;decide),λtp bf=>?_⟩)⟩⟩⟩⟩⟩⟩)
     rw[qRH];have s8:=(qA4 ak (.lst [.ref mv])).trans s7;have s9:=s8.trans (qA4 bf (.tup [.int ((f d:Int)+(dN mo:Int)),.ref sr,.ref mv]));have g9:(Ag H7 tp (.tup [.int ((f d:Int)+(dN mo:Int)),.ref sr,.ref mv])) tp=some (.tup [.int ((f d+dN mo:Nat):Int),.ref sr,.ref mv]):=by rw[qA1,Int.natCast_add]
     generalize Ag H7 tp (.tup [.int ((f d:Int)+(dN mo:Int)),.ref sr,.ref mv])=H9 at s9 g9;clear s7 s8 ak bf;have a5:=s9 _ _ a7;have ax:=s9 _ _ gr;have b9:=s9 _ _ ae;have a2:(Ag H9 rd (.dT (putK Af (keyO (beO d mo)) (.ref tp)))) ll=some (.lst (lr.map V.ref)):=(qAB am.1).trans b9;refine xR rfl (xR rfl ⟨rd,xR rfl ⟨.inr ⟨Af,keyO (beO d mo),r,a5,rfl,by rw[qC8];exact ax,qAQ (by lia),rfl⟩,xR rfl ⟨.inl ⟨rfl,_,Ab2 a2⟩,xR rfl ⟨ll,_,xR rfl ⟨rfl,a2,qAQ (by rw[A0];lia),?_⟩⟩⟩⟩⟩)
     refine b0 _ _ ⟨lr++[r],ly++[beO d mo],ks++[beO d mo],xE _ _ _ _ _ rfl ⟨qAK (qAK (b2.trans s9) a8) br,?_,(((a1.same s9).snoc a9 (v:=.ref tp) (n:=f d+dN mo) (o:=some (d,mo)) (xC tp sr mv rfl ⟨g9,s9 _ _ ah,s9 _ _ ai⟩)).put a5 (nt _)).put a2 (ad _),pv.snoc a6 aj a9 rfl,?_,((av.same s9).put a5 (nt _)).put a2 (ad _),?_,(((ar.same s9).snoc ax).put a5 (nt _)).put a2 (ad _),B2,?_,?_,qR0 (qR0 (ba.same s9) a5 (nt _)) a2 (ad _),B7.mpr (.inl a6)⟩⟩
     ·rw[qAB am.1.symm,qA1]
     ·rw[qAB am.2.symm,qAB bg.symm];exact s9 _ _ ag
     ·rw[qA1,qBF]
     ·simp only[A6,C1];lia
     ·rw[qAB nl.2.symm,qAB nl.1.symm];exact s9 _ _ bd
   ·refineλσ Hd b4=>opq λbw b5=>?_;obtain⟨lr,ly,ks,f,g,Af,v8,v9,rfl,sm,p,e,pv,y,SD,a0,SL,B,a4,gl,ML,a6⟩:=b4;refine b5 ?_;rw[A0,bm] at B;exact bj _ _ (xI lr ly ks f g Af _ _ _ rfl ⟨sm,p,e,pv,y,SD,a0,SL,B.next ab (B4 _),a4⟩)
  ·refineλσ Hd ay=>opq λbu b1=>?_;obtain⟨lr,ly,ks,f,g,Af,v7,v8,v9,rfl,sm,p,e,pv,y,SD,a0,SL,B,a4⟩:=ay;refine b1 ?_;rw[A0,ap] at B;have B2:=B.level (B4 _);have lb:=B2.len;refine xR rfl (b8 _ _ ⟨_,?_,ll,lr,ly,ks,f,g,Af,t+1,xD _ _ _ _ rfl ⟨rfl,sm,p,e,pv,a0,SL,B2⟩⟩);rw[if_neg hz];by_cases c:ly=[]
   ·rw[if_pos c,a4,c,W0]
    lia
   ·have:0<ly.length:=List.length_pos_iff.mpr c;rw[if_neg c,a4]
    lia
theorem MosL.rev {H:Hp} {rs:List Addr} {ms:List Mo} (h:MosL H rs ms):MosL H rs.reverse ms.reverse:=by
 unfold MosL at h ⊢
 induction h with
 |nil=>exact .nil
 |@cons r m l1 l2 a _ ih=>
  rw[o6,o6];exact Q5 ih a
theorem sc_plan_to:FnScope ["reached","stand","plan"] ["reached","stand"] (qAA qGR):=qBU
theorem ok_plan_to (F:Fun K "plan_to" "plan_to" qGR f fd):FnOk P w K mg base CX0 1 f fd ["reached","stand"] qT6:=by
 refine F.okA sc_plan_to λal A ag s H vs Q E hr h=>?_;obtain⟨d,t,o,Af,Ae,ab,aj,ks,fu,g,n,rfl,gd,ah,RC,a0,lk,gt,u,q⟩:=h;have hu:=qPV hr;refine⟨_,(qA3 (qAE (i:=2) sc_plan_to.nd rfl (F3 rfl) (qBH qA2)) (qA3 (qQQ L5 (qCY (qJM (qAT qAM (qE6 hu (pv 0) (pv 1) (λ_ _=>rfl)) qA5 (λ_ _=>rfl)))) (qA3 (qEP (qO0 M5 T5 T6 qED (pv 2) (qA0 (qAT qAM (qE6 hu (pv 0) (pv 1) (λ_ _=>rfl)) qA5 (λ_ _=>rfl)) qA2))) (qA6 (qAE (i:=1) sc_plan_to.nd rfl (F3 rfl) (qAT qAM (qE6 hu (pv 0) (pv 1) (λ_ _=>rfl)) qA5 (λ_ _=>rfl)))))) (qA3 (qEP (qb6 M5 PySem.F.slot_list_reverse PySem.F.type_list_reverse qSF (pv 2))) (qA6 (qAD (pv 2)))))),?_⟩
 try dsimp only[Cx.nox,Cx.wish,cxOf]
 obtain⟨u0,_,ac⟩:=RC.snd n u;have ep:pthO fu g n=qG4 g u0 n:=by unfold pthO;rw[show 2*fu n-cntO n=u0 by lia]
 have a7:=(qQO RC a0 u).2.2;rw[ep] at a7;refine⟨(by show 0<=B75;decide),λk e=>?_⟩
 have s1:=qA4 e (.lst []);refine⟨λm σ c=>∃(tr:Addr) (cur:La) (rs:List Addr) (done:List Mo),σ=[some (.ref d),some (.ref tr),some (.ref k)]/\Same H c/\c tr=some (.tup (cur.map oV))/\cur∈ks/\2*fu cur=m+cntO cur/\c k=some (.lst (rs.map V.ref))/\MosL c rs done/\qG4 g u0 n=qG4 g m cur++done.reverse,
  ⟨u0,t,n,[],[],rfl,s1,s1 _ _ gt,u,ac,qA1,.nil,by simp⟩,?_⟩
 refineλm σ c a9=>opq λam y=>?_;obtain⟨tr,cur,rs,done,rfl,sm,l,j,em,a,ML,ed⟩:=a9;refine y ?_;have ld:rs.length=done.length:=C5 ML;have ak:done.length+1<=ks.length:=by
  have:=congrArg Z1 ed;rw[A6,W4] at this
  lia
 obtain⟨v,ev,vx⟩:=(ah.same sm).val j;rcases a0 cur j with⟨a1,a2,a3⟩|⟨p,mv,a1,a2,a3,a4,a5⟩
 ·rw[a2] at vx;obtain⟨b,rfl,gv⟩:=vx;have dg:DGet c d (.ref tr) (some (.ref b)):=.inr ⟨Af,keyO cur,tr,.inr ⟨o,sm _ _ gd⟩,rfl,by rw[qC8];exact l,ev.symm⟩
  refine xR rfl (xR rfl ⟨d,.ref b,rfl,dg,b,_,_,xR rfl ⟨rfl,Ac0 gv,rfl,xR rfl ?_⟩⟩);refine iteF ?_;refine xR rfl ⟨.inl ⟨rfl,_,Ab2 a⟩,xB k _ rfl ⟨rfl,a,?_⟩⟩;refine xR rfl (q k rs.reverse _ (qAK sm e) e (by rw[qA1,B29]) ?_)
  have en:qG4 g m cur=[]:=by
   cases m with
   |zero=>rfl
   |succ m=>show(match g cur with|none=>[]|some (p,m')=>qG4 g m p++[m'])=[];rw[a2]
  rw[en,a8] at ed;rw[ep,ed];exact qR0 (MosL.rev ML) a λx z=>by cases z
 ·rw[a1] at vx;obtain⟨b,rp,rm,rfl,gv,af,ai⟩:=vx;have dg:DGet c d (.ref tr) (some (.ref b)):=.inr ⟨Af,keyO cur,tr,.inr ⟨o,sm _ _ gd⟩,rfl,by rw[qC8];exact l,ev.symm⟩
  have a6:=em;rw[a5] at a6;obtain⟨v',e1,e2⟩:=qJG RC a2 a3 (by rw[<- a4];exact a6)
  subst e1;refine xR rfl (xR rfl ⟨d,.ref b,rfl,dg,b,_,_,xR rfl ⟨rfl,Ac0 gv,rfl,xR rfl ?_⟩⟩);refine iteT ?_;refine qbF λN0 aa=>?_;refine xR rfl ⟨.inl ⟨rfl,_,Ab2 a⟩,xR rfl (xR rfl ⟨d,.ref b,rfl,dg,b,_,_,xR rfl ⟨rfl,Ac0 gv,rfl,k,_,xR rfl ⟨rfl,a,qAQ (by rw[A0];lia),?_⟩⟩⟩)⟩
  have s2:Same H (Ag c k (.lst (rs.map V.ref++[V.ref rm]))):=qAK sm e;have nt:∀kk x,HO.lst kk≠.tup x:=λkk x q=>by cases q
  have kp:∀(r:Addr) (x:List V),c r=some (.tup x)->(Ag c k (.lst (rs.map V.ref++[V.ref rm]))) r=some (.tup x):=λr x gg=>by
   rw[qAB (qFB gg a λz=>nt _ _ z.symm)];exact gg
  have ad:DGet (Ag c k (.lst (rs.map V.ref++[V.ref rm]))) d (.ref tr) (some (.ref b)):=.inr ⟨Af,keyO cur,tr,.inr ⟨o,s2 _ _ gd⟩,rfl,by rw[qC8];exact kp _ _ l,ev.symm⟩
  refine xR rfl (xR rfl ⟨d,.ref b,rfl,ad,b,_,_,xR rfl ⟨rfl,Ac0 (kp _ _ gv),rfl,?_⟩⟩);refine aa _ _ ⟨v',by lia,rp,p,rs++[rm],done++[mv],rfl,s2,kp _ _ af,a2,e2,by rw[qA1,qBF],?_,?_⟩
  ·exact qR0 (Q5 ML ai) a (nt _)
  ·rw[ed];have ae:qG4 g (v'+1) cur=qG4 g v' p++[mv]:=by show(match g cur with|none=>[]|some (p,m')=>qG4 g v' p++[m'])=_;rw[a1]
   rw[ae,Z3,O3]
   rfl
theorem qRZ:FnScope ["layout"] ["layout"] (qAA qGQ):=qBU
theorem ok_rank_of (F:Fun K "rank_of" "rank_of" qGQ f fd):FnOk P w K mg base CX0 1 f fd ["layout"] qT5:=by
 refine F.okA qRZ λa2 A a0 s H vs Q E hr h=>?_;obtain⟨la,b,rfl,n,l1,q⟩:=h;refine⟨_,(qA6 (qAD (qE5 rfl (lcs (own:=["result"]) (fv:=[]) (by kernel_rfl)) (qNY (pv 0)) (λz1=>qCC 0) (λz1=>qBM) (λz1=>(qEQ (qCY (qGV (pv 0))) (qTV qNN qA5) (pv 0)))))),?_⟩
 try dsimp only[Cx.nox,Cx.wish,cxOf]
 refine xR rfl ⟨la,rfl,⟨_,Ac0 n⟩,λp u=>?_⟩;refine qOF (p:=p) (a:=la) (xs:=b.map oV) (λi σ d=>∃(v:Option V),σ=[v]/\Same H d/\d p=some (.lst ((rkO (b.take i)).map V.int))) ?_ ?_ ?_ ?_
 ·exact⟨none,rfl,qA4 u _,qA1⟩
 ·rintro i σ d hi ⟨v,rfl,sm,_⟩;exact Ac0 (sm _ _ n)
 ·refineλi x σ d hx g=>opq λa3 t=>?_;obtain⟨v,rfl,sm,c⟩:=g;refine t ?_;rw[C6] at hx;obtain⟨o,ho,rfl⟩:=Z7.mp hx;have hi:=(B5.mp ho).1;have m:((rkO (b.take i)).map V.int).length<B75:=qB2 (by unfold rkO;rw[A0,A0,C9];lia)
  have r:∀y:Int,rk1 o=y->∀lst,lst=(rkO (b.take i)).map V.int++[V.int y]->lst=(rkO (b.take (i+1))).map V.int:=by
   intro y ey lst el;rw[el,<- ey,E8,ho];unfold rkO;rw[E9,C4,C4]
   rfl
  cases o with
  |none=>
   refine xR rfl (xR rfl ?_);rw[decide_eq_true (show oV none=V.non from rfl)];exact xR rfl ⟨_,c,m,xR rfl ⟨qAK sm u,by rw[qA1];exact congrArg (λl=>some (HO.lst l)) (r _ rfl _ rfl)⟩⟩
  |some z=>
   refine xR rfl (xR rfl ?_);rw[decide_eq_false (show¬oV (some z)=V.non fromλe=>nomatch e)];exact xR rfl ⟨_,c,m,xR rfl ⟨qAK sm u,by rw[qA1];exact congrArg (λl=>some (HO.lst l)) (r _ rfl _ rfl)⟩⟩
 ·refineλσ d k=>opq λa1 j=>?_;obtain⟨v,rfl,sm,c⟩:=k;refine j ?_;rw[A0,D3 (B4 _)] at c;exact q p d sm u c
theorem qPI {H:Hp} {ks:List La} {rs:List Addr} {zs:List (List Int×V)} (T:LaysAt H rs ks)(p:zs.Perm ((ks.map rkO).zip (rs.map V.ref)))(f:zs.Pairwise (λa b=>HT.lexLt b.1 a.1=false)):
  ∃(rs':List Addr) (L:List La),zs.map (·.2)=rs'.map V.ref/\LaysAt H rs' L/\L.Perm ks/\L.Pairwise (λx y=>HT.lexLt (rkO y) (rkO x)=false):=by
 have e:∀{ks:List La} {rs:List Addr},LaysAt H rs ks->(ks.map rkO).zip (rs.map V.ref)=(rs.zip ks).map λq=>(rkO q.2,V.ref q.1):=by
  intro ks rs T;unfold LaysAt at T
  induction T with
  |nil=>rfl
  |cons _ _ ih=>rw[D8,D8,O5,O5,D8,ih]
 have m:∀{ks:List La} {rs:List Addr},LaysAt H rs ks->(rs.zip ks).map (·.2)=ks/\∀q∈rs.zip ks,H q.1=some (.tup (q.2.map oV)):=by
  intro ks rs T;unfold LaysAt at T
  induction T with
  |nil=>exact⟨rfl,λq d=>nomatch d⟩
  |cons g _ ih=>
   rw[O5,D8,ih.1];refine⟨rfl,λq d=>?_⟩;rcases C0.mp d with z|z
   ·rw[z];exact g
   ·exact ih.2 q z
 obtain⟨c,i,n⟩:=_L.G.perm_map_inv p (rs.zip ks) (e T);subst n;obtain⟨j,k⟩:=m T;have l:∀(c:List (Addr×La)),(∀q∈c,H q.1=some (.tup (q.2.map oV)))->LaysAt H (c.map (·.1)) (c.map (·.2)):=by
  intro c
  induction c with
  |nil=>intro _;exact .nil
  |cons q c ih=>intro h;exact .cons (h q (by simp)) (ih λq d=>h q (C2 _ d))
 refine⟨c.map (·.1),c.map (·.2),?_,l c λq d=>k q (i.mem_iff.mp d),?_,?_⟩
 ·rw[X3,X3];rfl
 ·have:=i.map (·.2);rw[j] at this;exact this
 ·rw[Y7] at f ⊢;exact f
theorem sc_least_there:FnScope ["net","wides","sizes","asked","reached","ends","end"] ["net","wides","sizes","asked"] (qAA qBO):=qBU
theorem ok_least_there (F:Fun K "least_there" "least_there" qBO f fd) (hcd:fd.code=.ref cc) (hBM:BM mg base) (qCS:hdIn K cc Pt=true) (qC0:Clb P w K mg base 5 qCP qHB "layouts_reached" ["net","wides","sizes"] qQD) (qC5:Clb P w K mg base 1 qEG qG0 "has_all" ["results","works"] qEL) (C_rank_of:Clb P w K mg base 1 qK9 qSN "rank_of" ["layout"] qT5) (qHP:Clb P w K mg base 1 qKA qSO "plan_to" ["reached","stand"] qT6) (qCD:mg "sorted" = none) (qKL:mg "min" = none):FnOk P w K mg base CX0 6 f fd ["net","wides","sizes","asked"] (qQF Pt):=by
 refine F.okL hcd sc_least_there (λvs H Q E h=>?_) (λA av s H vs Q E hr h=>?_)
 ·obtain⟨a,wd,sz,t,Ae,a4,y,Ad,rfl,_⟩:=h
  rfl
 obtain⟨a,wd,sz,t,Ae,a4,y,Ad,rfl,a9,T,hT,la,q⟩:=h;have hu:=qPV hr;have rm:Room 1 _:=hr.mono (by decide)
 refine⟨_,(qA3 (qAE (i:=4) sc_least_there.nd rfl (A53 rfl) (qAP qC0 hr rfl (qA0 (pv 0) (qA0 (pv 1) (qA0 (pv 2) qA2))))) (qA3 (qPP (i:=5) sc_least_there.nd rfl rfl rfl (lcs (own:=["layout"]) (fv:=[3]) (by kernel_rfl)) (qMI (pv 4)) (λz2=>qCC 0) (λz2=>(qF8 (qCA (qAP qC5 hr rfl (qA0 (pv 0) (qA0 (pv 1) qA2)))))) (λz2=>(pv 0)) (by kernel_rfl)) (qA3 (qB8 (qDL (qQP (pv 5) (λ_=>rfl))) (qA6 (qAD (qBS (qA0 qAZ (qA0 (qWN C_rank_of.G (hr.mono (by decide)) C_rank_of.b rfl C_rank_of.m rfl qCD qFM (qA0 (pv 4) qA2)) qA2))))) qAH) (qA3 (qAE (i:=6) sc_least_there.nd rfl (F3 rfl) (qZ5 (p:="layout") (fv:=[4]) (q:="least_there.<locals>.<lambda>") rm rfl rfl qKL qP2 hBM rfl qCS (by kernel_rfl) (lms (by kernel_rfl)) rfl (λ_ _ _ _ _=>rfl) (qdK ) (qA0 (pv 5) qA2) (λz3=>(qAT (qMX (K:=K) rfl) (qE6 (qdG _) (pv 1) (pv 0) (λ_ _=>rfl)) qA5 (λ_ _=>rfl))))) (qA6 (qAD (qBS (qA0 qAZ (qA0 (qAP qHP hr rfl (qA0 (pv 4) (qA0 (pv 6) qA2))) (qA0 (qAT qAM (qE6 hu (pv 4) (pv 6) (λ_ _=>rfl)) qA5 (λ_ _=>rfl)) qA2)))))))))),?_⟩
 try dsimp only[Cx.nox,Cx.wish,cxOf]
 have k5:=T.k5;have n6:=T.n6;refine xR rfl (xR rfl (xR rfl (xF a wd sz Ae a4 y rfl ⟨T,λd o Af u fu g H1 s1 b1 hd ab RC af=>?_⟩)));have q:=q u fu;have lk:u.length<=16807:=F4 (qJX (n:=Ae.length) (k:=y.length) RC.nd λs hs=>let⟨_,m,_⟩:=RC.snd s hs;⟨m.1.len,m.1.ok⟩) (F4 (A09 (show Ae.length+1<=7 by lia) _) (w6 (show 0<7 by decide) k5))
 have l5:∀s∈u,s.length<=1000:=λs hs=>by
  obtain⟨_,m,_⟩:=RC.snd s hs;have:=m.1.len
  lia
 have ln:=ab.len;have hT:=s1 _ _ hT;have a9:=s1 _ _ a9;refine xR rfl (xC d o Af rfl ⟨hd,λle ak=>?_⟩);refine qR7 (p:=le) (a:=d) (o:=o) (Af:=Af) (λk σ Hd=>∃(v0:Option V) (er:List Addr),σ=[v0,some (.ref t)]/\Same H1 Hd/\Hd le=some (.lst (er.map V.ref))/\LaysAt Hd er ((u.take k).filter λs=>decide (∀x∈Ad,some x∈s))) ?_ ?_ ?_ ?_
 ·exact⟨none,[],rfl,qA4 ak _,qA1,.nil⟩
 ·refineλk σ Hd hk ai=>opq λay aj=>?_;obtain⟨v0,er,rfl,sd,_⟩:=ai;refine aj ?_;exact sd _ _ hd
 ·refineλk aa v r σ Hd hx ad ae=>opq λax ag=>?_;obtain⟨v0,er,rfl,sd,ge,SE⟩:=ae;obtain⟨st,a0,e1,v3⟩:=qAN ab hx;refine ag ?_;dsimp only at e1;subst e1;rw[qC8] at ad;have b0:=(B5.mp a0).1;have lE:er.length=((u.take k).filter λs=>decide (∀x∈Ad,some x∈s)).length:=C5 SE;have aq:=T1 (λs:La=>decide (∀x∈Ad,some x∈s)) (u.take k);rw[C9] at aq;refine xR rfl (xR rfl (xD r t st Ad rfl ⟨ad,sd _ _ hT,la,λH2 s2=>(xR rfl ?_)⟩));rw[E8,a0,E9,A20];by_cases c:∀x∈Ad,some x∈st
  ·rw[decide_eq_true c];refine xR rfl ⟨_,s2 _ _ ge,qAQ (by rw[A0];lia),?_⟩
   rw[qBF];refine⟨_,er++[r],rfl,qAK (sd.trans s2) ak,qA1,?_⟩;rw[W9,if_pos (decide_eq_true c)];exact((SE.same s2).snoc (s2 _ _ ad)).put (s2 _ _ ge) λxs z=>by cases z
  ·rw[decide_eq_false c];refine xB _ er rfl ⟨sd.trans s2,s2 _ _ ge,?_⟩;rw[W9,if_neg (by rw[decide_eq_false c];exact B6),B39,M4]
   exact SE.same s2
 refineλσ H2 an=>opq λaz am=>?_;obtain⟨v0,er,rfl,s2,ge,SE⟩:=an;refine am ?_;rw[ln,O1] at SE;have lE:er.length=(u.filter λs=>decide (∀x∈Ad,some x∈s)).length:=C5 SE;have sA:=s1.trans s2;have ac:=s2 _ _ hd;have a7:=ab.same s2;refine xR rfl ⟨_,.inl ⟨_,Ab2 ge,rfl⟩,?_⟩;cases er with
 |nil=>
  have he:(u.filter λs=>decide (∀x∈Ad,some x∈s))=[]:=P3.mp lE.symm;refine iteT ?_;refine xR rfl ⟨d,o,Af,u.map rkO,rfl,ac,by lia,λrs KA=>?_⟩
  have LA:LaysAt H2 rs u:=by
   have:∀{rs:List Addr} {Af:KvO} {u:List La},qRR H2 rs Af->EntO H2 Af u fu g->LaysAt H2 rs u:=by
    intro rs Af u h
    induction h generalizing u with
    |nil=>intro e;cases e;exact .nil
    |cons a _ ih=>
     intro e;cases e with
     |cons b t=>exact .cons (by have:=a;rw[b.1,qC8] at this;exact this) (ih t)
   exact this KA a7
  have as:rs.length=u.length:=C5 LA;refine⟨⟨by rw[A0,A0,as],λi x k hx hk H3 s3=>?_⟩,λH3 D zs s3 fD pm so=>?_⟩
  ·obtain⟨r,a8,rfl⟩:=qC3 hx;obtain⟨st,a0,gs⟩:=qAN LA a8;rw[C6,a0] at hk;cases hk;exact⟨r,st,rfl,s3 _ _ gs,l5 st (D4 a0),λl H4 s4 fl gl=>⟨s4,l,rfl,gl⟩⟩
  ·obtain⟨ah,L,ez,au,pL,sL⟩:=qPI LA pm so;rw[ez];refine⟨(by show 2<=B75;decide),λTT a6=>?_⟩
   have sT:=qA4 a6 (.tup [.str "none",.ref D]);have sB:=(sA.trans s3).trans (qA4 fD (.lst (ah.map V.ref)));have ao:H D=none:=(sA.trans s3).free fD;refine((q _ (sB.trans sT) RC).1 λs hs c=>?_) TT D ah L (sB.free a6) qA1 ao (sT _ _ qA1) (((au.same s3).same (qA4 fD _)).same sT) pL sL;have:s∈u.filter λs=>decide (∀x∈Ad,some x∈s):=Q4.mpr ⟨hs,decide_eq_true c⟩;rw[he] at this;cases this
 |cons r0 er=>
  refine iteF ?_;refine xR rfl ⟨s2 _ _ a9,le,(r0::er).map V.ref,(u.filter λs=>decide (∀x∈Ad,some x∈s)).map λs=>[(fu s:Int)],?_⟩;have aa:∀(i:Nat) (x:V) (k:List Int),((r0::er).map V.ref)[i]?=some x->((u.filter λs=>decide (∀x∈Ad,some x∈s)).map λs=>[(fu s:Int)])[i]?=some k->∃r s,x=.ref r/\k=[(fu s:Int)]/\s∈u/\(∀x∈Ad,some x∈s)/\H2 r=some (.tup (s.map oV)):=by
   intro i x k hx hk;obtain⟨r,a8,rfl⟩:=qC3 hx;obtain⟨st,a0,gs⟩:=qAN SE a8;rw[C6,a0] at hk;cases hk;have hm:=Q4.mp (D4 a0);exact xB r st rfl ⟨rfl,hm.1,of_decide_eq_true hm.2,gs⟩
  have al:∀{r:Addr} {s:La} {Hc:Hp},Same H2 Hc->s∈u->H2 r=some (.tup (s.map oV))->∃vr xx yy,DGet Hc d (.ref r) (some (.ref vr))/\Hc vr=some (.tup [.int (fu s:Int),xx,yy]):=by
   intro r s Hc sc hs gr;obtain⟨v,ev,vx⟩:=a7.val hs;obtain⟨vr,xx,yy,e6,e7⟩:=vx.at;subst e6;refine⟨vr,xx,yy,?_,sc _ _ e7⟩;rw[<- ev];exact .inr ⟨Af,keyO s,r,.inr ⟨o,sc _ _ ac⟩,rfl,by rw[qC8];exact sc _ _ gr,rfl⟩
  cases eZ:((r0::er).map V.ref).zip ((u.filter λs=>decide (∀x∈Ad,some x∈s)).map λs=>[(fu s:Int)]) with
  |nil=>
   exfalso
   have:=congrArg Z1 eZ;rw[A05,A0,A0,<- lE,J7,W0] at this
   lia
  |cons b rest=>
   obtain⟨k,h1,h2⟩:=qHW rest b;rw[<- eZ] at h1 h2;obtain⟨i,hi⟩:=V0 h1;rw[X8] at hi;obtain⟨r,st,e1,e2,e3,e4,e5⟩:=aa i _ _ hi.1 hi.2;have aw:∀s'∈u,(∀x∈Ad,some x∈s')->fu st<=fu s':=λs' ar c'=>by
    have hf:s'∈u.filter λs=>decide (∀x∈Ad,some x∈s):=Q4.mpr ⟨ar,decide_eq_true c'⟩;obtain⟨j,hj⟩:=V0 hf;have ap:=(B5.mp hj).1;have a8:j<((r0::er).map V.ref).length:=by rw[A0,lE];exact ap
    have hq:(((r0::er).map V.ref)[j],[(fu s':Int)])∈((r0::er).map V.ref).zip ((u.filter λs=>decide (∀x∈Ad,some x∈s)).map λs=>[(fu s:Int)]):=
     D4 (i:=j) (X8.mpr ⟨B0 a8,by rw[C6,hj];rfl⟩)
    have hl:=h2 _ hq;have e2:k=[(fu st:Int)]:=e2;rw[e2] at hl;dsimp only at hl;rw[HT.lexLt_cons] at hl;by_cases c:(fu s':Int)=(fu st:Int)
    ·lia
    ·rw[if_neg c] at hl;have:=of_decide_eq_false hl
     lia
   refine⟨qF3 b rest,rfl,ge,by rw[A0,A0,lE],λi x k hx hk Hc sc=>?_,rfl,λH3 s3=>?_⟩
   ·obtain⟨r',s',a1,a2,a3,_,a5⟩:=aa i x k hx hk;subst a1 a2;obtain⟨vr,xx,yy,dg,gv⟩:=al sc a3 a5;exact xR rfl (xR rfl ⟨d,.ref vr,rfl,dg,vr,_,_,xR rfl ⟨rfl,Ac0 gv,rfl,(λ_ _ z=>z),xR rfl rfl⟩⟩)
   ·have e1:qF3 b rest=.ref r:=e1;rw[e1];refine xR rfl (xR rfl (xK d r o Af Ae a4 y u fu g st rfl ⟨s3 _ _ ac,a7.same s3,RC,af,by lia,s3 _ _ e5,e3,λlp rs H4 s4 fl gl ML=>?_⟩))
    obtain⟨vr,xx,yy,dg,gv⟩:=al (Same.trans s3 s4) e3 e5;refine xR rfl (xR rfl ⟨d,.ref vr,rfl,dg,vr,_,_,xR rfl ⟨rfl,Ac0 gv,rfl,(by show 3<=B75;decide),λTT a6=>?_⟩⟩)
    have sT:=qA4 a6 (.tup [.str "plan",.ref lp,.int (fu st:Int)]);have sB:Same H H4:=(sA.trans s3).trans s4;obtain⟨p1,p2,p3⟩:=qQO RC af e3;exact(q _ (sB.trans sT) RC).2 st e3 e4 aw TT lp rs _ (sB.free a6) qA1 ((sA.trans s3).free fl) (sT _ _ gl) (MosL.same ML sT) p1 p2 (by lia)
theorem qNV:FnScope ["thing"] ["thing"] (qAA qEM):=qBU
theorem ok_is_number (F:Fun K "is_number" "is_number" qEM f fd) (qAC:mg "isinstance" = none) (qHT:mg "int" = none) (qG5:mg "bool" = none):FnOk P w K mg base CX0 1 f fd ["thing"] qT7:=by
 refine F.okA qNV λi A a s H l Q E j h=>?_;obtain⟨x,n,d,rfl,D,q⟩:=h;refine⟨_,(qA6 (qAD (qF9 (qA8 qAR rfl qAC qAG (qA0 (pv 0) (qA0 (qBQ (v:=.ty "int") rfl qHT qLZ rfl) qA2))) (qG7 (qTX (qA8 qAR rfl qAC qAG (qA0 (pv 0) (qA0 (qBQ (v:=.ty "bool") rfl qG5 qND rfl) qA2)))))))),?_⟩
 try dsimp only[Cx.nox,Cx.wish,cxOf]
 obtain⟨t,ty,g,b,k⟩:=qJF (K:=K) D;refine xR rfl ⟨x,"int",t,xR rfl ⟨ty,g,xR rfl ?_⟩⟩;have e:numB d=((numB d||qNE d) && !qNE d):=by cases d<;>rfl
 cases c:(numB d||qNE d) with
 |false=>
  rw[if_neg B6];rw[c,O9] at e;rw[e] at q;exact q
 |true=>
  rw[if_pos rfl];rw[c,Q6] at e;rw[e] at q;exact xR rfl ⟨x,"bool",t,xR rfl ⟨ty,b,xR rfl q⟩⟩
theorem qPK:FnScope ["thing","end"] ["thing","end"] (qAA qFQ):=qBU
theorem ok_is_below (F:Fun K "is_below" "is_below" qFQ f fd) (b:Clb P w K mg base 1 qEU qII "is_number" ["thing"] qT7):FnOk P w K mg base CX0 2 f fd ["thing","end"] qMA:=by
 refine F.okA qPK λk A a s H l Q E g h=>?_;obtain⟨x,n,d,e,rfl,D,q⟩:=h;refine⟨_,(qA6 (qAD (qF9 (qAP b g rfl (qA0 (pv 0) qA2)) (qG7 (qWQ qdC qU2 qA5 (pv 0) (pv 1)))))),?_⟩
 try dsimp only[Cx.nox,Cx.wish,cxOf]
 refine xR rfl ⟨x,n,d,rfl,D,xR rfl ?_⟩;cases c:numB d with
 |false=>
  rw[if_neg B6];have j:qCK e d=false:=by cases d<;>first|rfl|cases c
  rw[j] at q;exact q
 |true=>
  rw[if_pos rfl];obtain⟨i,rfl,rfl⟩:=qI5 D c;refine xR rfl (xB _ _ rfl ⟨rfl,?_⟩);refine xR rfl ?_;have q:Q (.bl (decide (0<=i)&&decide (i<e))) H:=q;cases c1:decide ((0:Int)<=i) with
  |false=>
   rw[c1,O9] at q;exact iteF q
  |true=>
   rw[c1,Q6] at q;exact iteT (xR rfl (xB _ _ rfl ⟨rfl,q⟩))
section
variable{P:B76}{w:World}{K:Ab1}{mg:Ab0}{base:Heap}{f:Addr}{fd:B88}
theorem qS0:FnScope ["thing"] ["thing"] (qAA qGS):=qBU
theorem ok_is_pair (F:Fun K "is_pair" "is_pair" qGS f fd) (qAC:mg "isinstance" = none) (qAS:mg "tuple" = none) (qB1:mg "len" = none):FnOk P w K mg base CX0 1 f fd ["thing"] qPE:=by
 refine F.okA qS0 λo A e s H y Q E u h=>?_;obtain⟨x,n,d,rfl,D,q⟩:=h;refine⟨_,(qA6 (qAD (qF9 (qA8 qAR rfl qAC qAG (qA0 (pv 0) (qA0 (qBQ (v:=.ty "tuple") rfl qAS qB5 rfl) qA2))) (qG7 (qCN qCL (qA8 qA9 rfl qB1 qB7 (qA0 (pv 0) qA2)) qA5 (qAL _)))))),?_⟩
 try dsimp only[Cx.nox,Cx.wish,cxOf]
 obtain⟨t,ty,k1,r,k⟩:=qJF (K:=K) D;refine xR rfl ⟨x,"tuple",t,xR rfl ⟨ty,k,xR rfl ?_⟩⟩;cases c:tupB d with
 |false=>
  refine iteF ?_;have b:qS7 d=false:=by cases d<;>first|rfl|cases c
  rw[b] at q;exact q
 |true=>
  refine iteT ?_;obtain⟨m,a,i,g,rfl,rfl,rfl,j,l,p⟩:=qDV D c;refine xR rfl (xB a _ rfl ⟨.inr (Ac0 j),rfl,?_⟩);have b:qS7 (.tuple g)=decide (V.int ((i.length:Nat):Int)=V.int 2):=decide_eq_decide.mpr ⟨λz=>by rw[l,z];rfl,λz=>by injection z with z;lia⟩
  rw[b] at q;exact q
end
section
variable{P:B76}{w:World}{K:Ab1}{mg:Ab0}{base:Heap}{f:Addr}{fd:B88}{qFF qEF:Addr}{qI3 qGK:B88}
theorem qIL:FnScope ["net","sizes","thing"] ["net","sizes","thing"] (qAA qCF):=qBU
theorem ok_is_move_there (F:Fun K "is_move_there" "is_move_there" qCF f fd) (a0:Clb P w K mg base 1 qFF qI3 "is_pair" ["thing"] qPE) (k:Clb P w K mg base 2 qEF qGK "is_below" ["thing","end"] qMA) (qAC:mg "isinstance" = none) (qAS:mg "tuple" = none) (qB1:mg "len" = none):FnOk P w K mg base CX0 3 f fd ["net","sizes","thing"] qT8:=by
 refine F.okA qIL λa4 A a3 s H vs Q E u h=>?_;obtain⟨a,sz,p,b,x,n,d,rfl,hN,gS,D,fl,q⟩:=h;refine⟨_,(qA3 (qB8 (qCA (qAP a0 u rfl (qA0 (pv 2) qA2))) (qA6 (qAD (qF9 (qCN qCL (qAT qAM (pv 2) qA5 (λ_ _=>rfl)) qAZ (qAL _)) (qG7 (qAP k u rfl (qA0 (qAT qAM (pv 2) qA5 (λ_ _=>rfl)) (qA0 (qA8 qA9 rfl qB1 qB7 (qA0 (pv 1) qA2)) qA2))))))) qAH) (qA3 (qB8 (PW.pt (qHV (qDL (qCA (qA8 qAR rfl qAC qAG (qA0 (pv 2) (qA0 (qBQ (v:=.ty "tuple") rfl qAS qB5 rfl) qA2))))) (qHV (qAF qMK (qA8 qA9 rfl qB1 qB7 (qA0 (pv 2) qA2)) qA5 (qAL _)) (qG6 (qAF qMK (qAT qAM (pv 2) qA5 (λ_ _=>rfl)) qAZ (qAL _)))))) (qA6 (qAD qDW)) qAH) (qA6 (qAD (qF9 (qAP k u rfl (qA0 (qAT qAM (pv 2) qA5 (λ_ _=>rfl)) (qA0 (qA8 qA9 rfl qB1 qB7 (qA0 (pv 0) qA2)) qA2))) (qG7 (qAP k u rfl (qA0 (qAT qAM (pv 2) qA5 (λ_ _=>rfl)) (qA0 (qA8 qA9 rfl qB1 qB7 (qA0 (pv 1) qA2)) qA2))))))))),?_⟩
 try dsimp only[Cx.nox,Cx.wish,cxOf]
 refine cut λN0 a1=>?_;refine xR rfl ⟨x,n,d,rfl,D,xR rfl ?_⟩;cases cp:qS7 d with
 |true=>
  obtain⟨m,r,xs,ds,rfl,rfl,rfl,j,lx,l⟩:=qDV D (by cases d<;>first|rfl|cases cp)
  obtain⟨i,g,rfl⟩:=qK3 (of_decide_eq_true cp);obtain⟨x0,o,rfl⟩:=qK3 lx;have D0:=l 0 x0 i rfl rfl;have D1:=l 1 o g rfl rfl;obtain⟨sc,eq⟩:=qIY (B1 "clear") (qHF D0 fl);refine iteT ?_;refine xR rfl (xD r _ _ _ rfl ⟨rfl,Ac0 j,rfl,sc,?_⟩);rw[eq];refine xR rfl ?_;have e:movD (p.length:Int) (b.length:Int) (.tuple [i,g])=(isS (B1 "clear") i&&qCK (b.length:Int) g):=rfl;rw[e] at q;cases c0:isS (B1 "clear") i with
  |false=>
   rw[if_neg B6];rw[c0,O9] at q;exact q H (.refl _)
  |true=>
   rw[if_pos rfl];rw[c0,Q6] at q;refine xR rfl (xD r _ _ _ rfl ⟨rfl,Ac0 j,rfl,xR rfl (xB sz _ rfl ⟨.inr (Ac0 gS),xD o m g _ rfl ⟨D1,?_⟩⟩)⟩);rw[A0];exact q H (.refl _)
 |false=>
  refine iteF (a1 _ _ (cut λN1 a2=>?_));obtain⟨t,ty,k1,k2,k3⟩:=qJF (K:=K) D;refine xR rfl ⟨x,"tuple",t,xR rfl ⟨ty,k3,xR rfl ?_⟩⟩;cases c:tupB d with
  |false=>
   have e:movD (p.length:Int) (b.length:Int) d=false:=by cases d<;>first|rfl|cases c
   rw[e] at q;refine iteT ?_;exact q H (.refl _)
  |true=>
   obtain⟨m,r,xs,ds,rfl,rfl,rfl,j,lx,l⟩:=qDV D c;have n2:ds.length≠2:=λz=>by rw[show qS7 (.tuple ds)=true from decide_eq_true z] at cp;cases cp
   refine iteF ?_;refine xR rfl (xB r _ rfl ⟨.inr (Ac0 j),rfl,xR rfl ?_⟩);by_cases l3:xs.length=3
   ·obtain⟨x0,o,x2,rfl⟩:=qFD l3;obtain⟨i,g,y,rfl⟩:=qFD (lx.symm.trans l3);have D0:=l 0 x0 i rfl rfl;have D1:=l 1 o g rfl rfl;have D2:=l 2 x2 y rfl rfl;obtain⟨sc,eq⟩:=qIY (B1 "do") (qHF D0 fl)
    refine iteF ?_;refine xR rfl ⟨r,_,_,xR rfl ⟨rfl,Ac0 j,rfl,sc,xR rfl ?_⟩⟩;rw[eq];have e:movD (p.length:Int) (b.length:Int) (.tuple [i,g,y])=(isS (B1 "do") i&&(qCK (p.length:Int) g&&qCK (b.length:Int) y)):=rfl
    rw[e] at q;cases c0:isS (B1 "do") i with
    |false=>
     refine iteT ?_;rw[c0,O9] at q;exact q H (.refl _)
    |true=>
     refine iteF ?_;rw[c0,Q6] at q;obtain⟨ra,hA,NL⟩:=id hN;refine a2 _ _ ?_;refine xR rfl (xD r _ _ _ rfl ⟨rfl,Ac0 j,rfl,xR rfl (xB a _ rfl ⟨.inr (Ac0 hA),xD o m g _ rfl ⟨D1,?_⟩⟩)⟩);rw[A0,C5 NL];refine xR rfl ?_;cases c1:qCK (p.length:Int) g with
     |false=>
      rw[if_neg B6];rw[c1,O9] at q;exact q H (.refl _)
     |true=>
      rw[if_pos rfl];rw[c1,Q6] at q;refine xR rfl (xD r _ _ _ rfl ⟨rfl,Ac0 j,rfl,xR rfl (xB sz _ rfl ⟨.inr (Ac0 gS),xD x2 m y _ rfl ⟨D2,?_⟩⟩)⟩);rw[A0];exact q H (.refl _)
   ·rw[decide_eq_false (show¬V.int ((xs.length:Nat):Int)=V.int 3 fromλz=>by injection z with z;lia)]
    refine iteT ?_;rw[qbH n2 (by lia)] at q
    exact q H (.refl _)
end
theorem sc_does_there:FnScope ["net","wides","sizes","asked","thing","layout","move"] ["net","wides","sizes","asked","thing"] (qAA qDY):=qBU
theorem ok_does_there (F:Fun K "does_there" "does_there" qDY f fd) (ai:A67 K (.ref qB4) (.ref qB4)=some true) (qFV:mg "Barred" = some (.ref qB4)) (ar:Clb P w K mg base 3 qDU qIQ "is_move_there" ["net","sizes","thing"] qT8) (aq:FnOk P w K mg base (CX1 P w) 4 qCH qE9 ["net","wides","sizes","layout","move"] (qNP qB4)) (as:Binds K qE9 ["net","wides","sizes","layout","move"] []) (au:M8 K (.ref qCH)=true) (al:mg "moved_there" = some (.ref qCH)) (qC5:Clb P w K mg base 1 qEG qG0 "has_all" ["results","works"] qEL) (qAC:mg "isinstance" = none) (qDK:mg "list" = none) (qKM:mg "all" = none) (qB1:mg "len" = none):FnOk P w K mg base CX0 5 f fd ["net","wides","sizes","asked","thing"] qTB:=by
 refine F.okA sc_does_there λaz A ap s H vs Q E hr h=>?_;obtain⟨a,wd,sz,t,Ae,u,b,Ad,x,n,d,rfl,TK,gt,la,D,fl,ae,q⟩:=h;have hN:=TK.net_;have gS:=TK.sizes_;have aj:Room 4 _:=Room.mono hr (by decide)
 refine⟨_,(qA3 (qB8 (PW.pt (qHV (qDL (qCA (qA8 qAR rfl qAC qAG (qA0 (pv 4) (qA0 (qBQ (v:=.ty "list") rfl qDK qFN rfl) qA2))))) (qG6 (qDL (qCA (qA8 (qJ6 rfl) rfl qKM qRO (qA0 (qE5 rfl (lcs (own:=["move"]) (fv:=[0,2]) (by kernel_rfl)) (qBW (pv 4)) (λz1=>qCC 0) (λz1=>qBM) (λz1=>(qAP ar hr rfl (qA0 (pv 1) (qA0 (pv 2) (qA0 (pv 0) qA2)))))) qA2))))))) (qA6 (qAD qDW)) qAH) (qA3 (qAE (i:=5) sc_does_there.nd rfl (F3 rfl) (qAO qMJ (qBS (qA0 qDN qA2)) (qA8 qA9 rfl qB1 qB7 (qA0 (pv 2) qA2)))) (qA3 (qZ1 (j:=none) rfl rfl sc_does_there.nd (qb7 rfl rfl rfl (qBW (pv 4)) (qBD (i:=6) sc_does_there.nd rfl (F3 rfl)) (qZ8 (i:=5) sc_does_there.nd rfl (F3 rfl) aq aj rfl al au as (qA0 (pv 0) (qA0 (pv 1) (qA0 (pv 2) (qA0 (pv 5) (qA0 (pv 6) qA2))))))) rfl qFV trivial (λev=>(qA6 (qAD qDW)))) (qA6 (qAD (qAP qC5 hr rfl (qA0 (pv 5) (qA0 (pv 3) qA2)))))))),?_⟩
 try dsimp only[Cx.nox,Cx.wish,cxOf]
 refine cut λN0 ao=>?_;obtain⟨tv,ty,k1⟩:=qPC (K:=K) D;refine xR rfl ⟨x,"list",tv,xR rfl ⟨ty,k1,xR rfl ?_⟩⟩;cases c:lstB d with
 |false=>
  refine iteT ?_;exact q false H (.refl _) ⟨λz=>(nomatch z),λ⟨ms,e,_⟩=>by rw[e] at c;cases c⟩
 |true=>
  obtain⟨m,l,xs,ds,rfl,rfl,rfl,gl,lx,el⟩:=qN7 D c;refine iteF ?_;have ae:ds.length<=20000:=ae;refine xR rfl ⟨l,rfl,⟨_,Ab2 gl⟩,λp hp=>?_⟩;refine qE7 (p:=p) (a:=l) (xs:=xs) (λi σ k=>∃(v:Option V),σ=[v,some (.ref a),some (.ref sz)]/\Same H k/\k p=some (.lst (((ds.take i).map (movD (Ae.length:Int) (b.length:Int))).map V.bl))) ?_ ?_ ?_ ?_
  ·exact⟨none,rfl,qA4 hp _,qA1⟩
  ·rintro i σ k hi ⟨v,rfl,sm,_⟩;exact Ab2 (sm _ _ gl)
  ·refineλi y σ k hx ab=>opq λb0 a7=>?_;obtain⟨v,rfl,sm,a0⟩:=ab;refine a7 ?_;have hi:=(B5.mp hx).1;have hd:=B0 (show i<ds.length by lia)
   have Dy:=(el i y _ hx hd).same sm;have fy:fstB ds[i]=true:=L7.mp fl _ (Q9 _);refine xR rfl (xR rfl (xR rfl ⟨a,sz,Ae,b,y,m,ds[i],rfl,hN.same sm,sm _ _ gS,Dy,fy,λH2 s2=>?_⟩));refine⟨_,s2 _ _ a0,qAQ (by rw[A0,A0,C9];lia),xR rfl ⟨qAK (sm.trans s2) hp,?_⟩⟩
   rw[qA1,E8,hd,E9,C4,C4]
   rfl
  refineλσ k ac=>opq λax a3=>?_;obtain⟨v,rfl,sm,a0⟩:=ac;refine a3 ?_;rw[lx,O1] at a0;refine xB p _ rfl ⟨Ab2 a0,xR rfl ?_⟩;cases ca:((ds.map (movD (Ae.length:Int) (b.length:Int))).all id) with
  |false=>
   refine iteT ?_;refine q false k sm ⟨λz=>(nomatch z),λ⟨ms,e,s,R,_⟩=>?_⟩
   injection e with e
   have:((ds.map (movD (Ae.length:Int) (b.length:Int))).all id)=true:=by
    rw[e,X3,List.all_map];exact L7.mpr λm hm=>qbI (qTI R m hm)
   rw[this] at ca;cases ca
  |true=>
   refine iteF (ao _ _ (cut fun N1 ag=>?_));have a9:∀ d ∈ ds,∃ m ∈ qBN (Ae.length:Int) (b.length:Int),d=moD m:=fun d hd=>qbG (by
    have:=L7.mp ca _ (List.mem_map_of_mem hd);exact this)
   have k1:=TK.k1;have k5:=TK.k5;have n6:=TK.n6;have ak:(((b.map V.int).length:Nat):Int)=(b.length:Int):=by rw[A0]
   refine⟨(by show 1<=B75;decide),λt1 a5=>?_⟩
   have s1:=sm.trans (qA4 a5 (.tup [.non]));refine xR rfl (xB sz _ rfl ⟨.inr (Ac0 (s1 _ _ gS)),?_⟩);rw[ak];refine qFS qA1 k1 (by lia) λan H1 ad g=>?_
   have sA:=s1.trans ad;clear s1 ad a5 a0 ca sm;refine ag _ _ (cut λN2 ah=>?_);refine⟨_,rfl,l,rfl,⟨_,Ab2 (sA _ _ gl)⟩,qFZ (a:=l) (xs:=xs) (λi σ k=>∃(la:Addr) (lay:La) (ms:List Mo) (v6:Option V),σ=[some (.ref a),some (.ref wd),some (.ref sz),some (.ref t),some (.ref l),some (.ref la),v6]/\Same H k/\k la=some (.tup (lay.map oV))/\lay.length=b.length/\RunO Ae u b (l0 b) ms lay/\ds.take i=ms.map moD)
    ⟨an,l0 b,[],none,rfl,sA,g,Z9,.nil,rfl⟩ (λi σ k _ hP=>by obtain⟨_,_,_,_,_,sm,_⟩:=hP;exact Ab2 (sm _ _ gl)) ?_ ?_⟩
   ·clear g sA;refineλi x σ k hx a8=>opq λay aa=>?_;obtain⟨la,lay,ms,v6,rfl,sm,g,ll,R,ed⟩:=a8;refine aa ?_;have hi:=(B5.mp hx).1;have hd:=B0 (show i<ds.length by lia)
    obtain⟨mo,a2,em⟩:=a9 _ (D4 hd);have Dx:=el i x _ hx hd;rw[em] at Dx hd;obtain⟨mv,rfl,a1⟩:=qVG Dx;have a1:=sm _ _ a1;obtain⟨ns,o,sv,wv,TI,ef⟩:=(TK.same sm).tinO g ll a1 a2;refine xR rfl (xR rfl (xR rfl (xR rfl (xR rfl (xN a wd sz la mv Ae u b lay mo ns o sv wv rfl ⟨TI,λe r H2 s2 gr=>?_,λw0 e dx H2 s2 g2=>⟨ai,λex af=>?_⟩⟩)))))
    ·have nx:=qbE a2 (ef.trans e);have nb:=qMM nx;exact⟨r,beO lay mo,ms++[mo],xR rfl ⟨sm.trans s2,gr,by unfold beO;rw[W2];exact ll,R.app (.cons nx .nil),by rw[E8,hd,ed,C4];rfl⟩⟩
    ·refine q false _ ((sm.trans s2).trans (qA4 af _)) ⟨λz=>(nomatch z),λ⟨av,e',s,R',_⟩=>?_⟩
     injection e' with e'
     refine P1 (qQM (d:=moD mo) (ds:=ds.drop (i+1)) R (λm hm am=>?_) R' ?_)
     ·have:=qR1 a2 (qIF hm) am;subst this;have:=(qMM hm).2.2;rw[ef,e] at this;cases this
     ·rw[<- ed,<- e'];have h2:=X1 i ds;rw[Q0 (show i<ds.length by lia),em] at h2
      exact h2
   ·clear g sA;refineλσ k a4=>opq λaw a6=>?_;obtain⟨la,lay,ms,v6,rfl,sm,g,ll,R,ed⟩:=a4;refine a6 ?_;rw[lx,O1] at ed;refine ah _ _ ?_;refine xR rfl (xR rfl (xD la t lay Ad rfl ⟨g,sm _ _ gt,‹Ad.length<=1000›,λH2 s2=>?_⟩));refine q _ H2 (sm.trans s2) ⟨λz=>⟨ms,by rw[ed],lay,R,of_decide_eq_true z⟩,λ⟨av,e',s,R',ha⟩=>?_⟩
    injection e' with e'
    obtain⟨_,rfl⟩:=qME R R' (ed.symm.trans e');exact decide_eq_true ha
theorem sc_is_layout:FnScope ["net","wides","sizes","thing","there","size","result"] ["net","wides","sizes","thing"] (qAA qEN):=qBU
theorem ok_is_layout (F:Fun K "is_layout" "is_layout" qEN f fd) (ab:Clb P w K mg base 2 qEF qGK "is_below" ["thing","end"] qMA) (qAC:mg "isinstance" = none) (qAS:mg "tuple" = none) (qB1:mg "len" = none) (qRT:mg "zip" = none):FnOk P w K mg base CX0 3 f fd ["net","wides","sizes","thing"] qQH:=by
 refine F.okA sc_is_layout λak A af s H vs Q E hr h=>?_;obtain⟨a,wd,sz,Ae,o,g,x,n,d,rfl,TK,D,q⟩:=h;have hu:=qPV hr;refine⟨_,(qA3 (qB8 (PW.pt (qHV (qDL (qCA (qA8 qAR rfl qAC qAG (qA0 (pv 3) (qA0 (qBQ (v:=.ty "tuple") rfl qAS qB5 rfl) qA2))))) (qG6 (qAF qMK (qA8 qA9 rfl qB1 qB7 (qA0 (pv 3) qA2)) (qA8 qA9 rfl qB1 qB7 (qA0 (pv 2) qA2)) (qAL _))))) (qA6 (qAD qDW)) qAH) (qA3 (qAE (i:=4) sc_is_layout.nd rfl (F3 rfl) qWP) (qA3 (qDM L5 rfl (qXT rfl qRT qYC (qA0 (pv 2) (qA0 (pv 3) qA2))) (qNZ rfl (qBV (qBD (i:=5) sc_is_layout.nd rfl (F3 rfl)) (qBV (qBD (i:=6) sc_is_layout.nd rfl (F3 rfl)) qHX))) (qA3 (qB8 (qCY (qGV (pv 6))) (qA6 qPQ) qAH) (qA3 (qB8 (PW.pt (qHV (qDL (qCA (qAP ab hr rfl (qA0 (pv 6) (qA0 (qA8 qA9 rfl qB1 qB7 (qA0 (pv 0) qA2)) qA2))))) (qHV (qAF qO6 (qAT qAM (pv 1) (pv 6) (λ_ _=>rfl)) (pv 5) (qAL _)) (qG6 (qCY (qXV hu (pv 6) (pv 4))))))) (qA6 (qAD qDW)) qAH) (qA6 (qMH hu (pv 4) (pv 6) qDW rfl))))) (qA6 (qAD qDW))))),?_⟩
 try dsimp only[Cx.nox,Cx.wish,cxOf]
 refine cut λN0 ad=>?_;obtain⟨tv,ty,k1,k2,k3⟩:=qJF (K:=K) D;refine xR rfl ⟨x,"tuple",tv,xR rfl ⟨ty,k3,xR rfl ?_⟩⟩;cases c:tupB d with
 |false=>
  have e:qFC (Ae.length:Int) o g d=false:=by cases d<;>first|rfl|cases c
  rw[e] at q;refine iteT ?_;exact q H (.refl _)
 |true=>
  obtain⟨m,r,xs,t,rfl,rfl,rfl,gr,lx,el⟩:=qDV D c;refine iteF ?_;obtain⟨gw,lw,gz⟩:=(⟨TK.wides_,TK.lw,TK.sizes_⟩:_/\_/\_);have aj:=TK.k1;have k5:=TK.k5;refine xR rfl (xB r _ rfl ⟨.inr (Ac0 gr),xR rfl (xB sz _ rfl ⟨.inr (Ac0 gz),rfl,xR rfl ?_⟩)⟩);rw[A0];have e:qFC (Ae.length:Int) o g (.tuple t)=(decide (t.length=g.length)&&layS (Ae.length:Int) o [] g t):=rfl;rw[e] at q;by_cases ln:t.length=g.length
  ·rw[decide_eq_true (show V.int ((xs.length:Nat):Int)=V.int ((g.length:Nat):Int) by rw[lx,ln])]
   rw[decide_eq_true ln,Q6] at q;refine iteF (ad _ _ (cut λN1 a9=>?_));intro th a4;have s1:=qA4 a4 (.dK []);have g1:(Ag H th (.dK [])) th=some (.dK []):=qA1;generalize Ag H th (.dK [])=H1 at s1 g1 ⊢;refine a9 _ _ (cut λN2 aa=>?_);refine⟨_,rfl,_,rfl,true,sz,r,rfl,⟨_,Ac0 (s1 _ _ gz)⟩,⟨_,Ac0 (s1 _ _ gr)⟩,qZP (b:=true) (l:=sz) (m:=r) (xs:=g.map V.int) (ys:=xs) (by rw[A0];lia) (λi σ Hc=>∃(Af:List (Key×V)) (ks:List Int) (v5 v6:Option V),σ=[some (.ref a),some (.ref wd),some (.ref sz),some (.ref r),some (.ref th),v5,v6]/\Same H Hc/\Hc th=some (.dK Af)/\KeysI Af ks/\ks.length<=i/\layS (Ae.length:Int) o [] g t=layS (Ae.length:Int) o ks (g.drop i) (t.drop i))
    ⟨[],[],none,none,rfl,s1,g1,.nil,B4 _,rfl⟩ (λi σ Hc _ ⟨_,_,_,_,_,sm,_⟩=>⟨Ac0 (sm _ _ gz),Ac0 (sm _ _ gr)⟩) ?_ ?_⟩
   ·refineλi sx y σ Hc T hs hy a5 hT=>opq λai a6=>?_;obtain⟨Af,ks,v5,v6,rfl,sm,a7,KI,lk,eS⟩:=a5;obtain⟨sv,es,rfl⟩:=qI2 hs;refine a6 ?_;have hi:=(B5.mp hy).1;have hd:=B0 (show i<t.length by lia)
    have Dy:=(el i y _ hy hd).same sm;have sT:=qA4 hT (.tup [.int sv,y]);have gT:(Ag Hc T (.tup [.int sv,y])) T=some (.tup [.int sv,y]):=qA1;have u:=sT _ _ a7;have a0:=Dy.same sT;have p:=sm.trans sT;generalize Ag Hc T (.tup [.int sv,y])=Hd at sT gT u a0 p ⊢;have ae:t.drop i=t[i]::t.drop (i+1):=by rw[Q0 (show i<t.length by lia)]
    have ah:g.drop i=sv::g.drop (i+1):=by
     obtain⟨h',e'⟩:=B5.mp es;rw[Q0 h',e']
    rw[ae,ah] at eS;generalize t[i]=dy at a0 eS;refine xB T _ rfl ⟨Ac0 gT,rfl,xB _ _ rfl (xB _ _ rfl ⟨rfl,?_⟩)⟩;refine cut λM0 ag=>?_;refine xR rfl (xR rfl ?_);by_cases a1:y=.non
    ·subst a1;obtain rfl:=(qQ4 a0).mp rfl;rw[decide_eq_true (rfl:V.non=V.non)];refine iteT ?_;exact xD Af ks _ _ rfl ⟨p,u,KI,by lia,eS⟩
    have ac:dy≠.none:=λz=>a1 ((qQ4 a0).mpr z);rw[decide_eq_false a1];refine iteF (ag _ _ (cut λM1 a8=>?_));obtain⟨ra,hA,NL⟩:=TK.net_.same p;refine xR rfl (xR rfl (xB a _ rfl ⟨.inr (Ac0 hA),xD y m dy _ rfl ⟨a0,?_⟩⟩));rw[A0,C5 NL];refine xR rfl ?_;cases cb:qCK (Ae.length:Int) dy with
    |false=>
     refine iteT ?_;rw[eS,qMR ac cb] at q;exact q Hd p
    |true=>
     refine iteF ?_;obtain⟨j,rfl,j0,j1⟩:=qHL cb;obtain⟨i2,rfl,e2⟩:=qI5 a0 rfl;cases e2;have hw:=B0 (show j.toNat<o.length by lia)
     have ew:o.getD j.toNat 0=o[j.toNat]:=by rw[J9,hw];rfl
     generalize o[j.toNat]=wv at hw ew;have e3:layS (Ae.length:Int) o ks (sv::g.drop (i+1)) (.int j::t.drop (i+1))=((decide (0<=j)&&decide (j<(Ae.length:Int)))&&(decide (o.getD j.toNat 0<=sv)&&(decide (j∉ks)&&layS (Ae.length:Int) o (ks++[j]) (g.drop (i+1)) (t.drop (i+1))))):=rfl;rw[e3,decide_eq_true j0,decide_eq_true j1,Q6,Q6,ew] at eS;refine xR rfl (xR rfl (xD wd _ _ _ rfl ⟨rfl,Ac0 (p _ _ gw),qE1 j0 (by rw[C6,hw];rfl),xR rfl (xB _ _ rfl ⟨rfl,xR rfl ?_⟩)⟩))
     by_cases cw:sv<wv
     ·rw[decide_eq_true cw];refine iteT ?_;rw[eS,decide_eq_false (show¬wv<=sv by lia),O9] at q
      exact q Hd p
     ·rw[decide_eq_false cw];refine iteF ?_;rw[decide_eq_true (show wv<=sv by lia),Q6] at eS
      refine xR rfl (xR rfl (xB th _ rfl ⟨DGet.k (k:=d7 j) u,xR rfl ?_⟩));rw[KI.has];by_cases cm:j∈ks
      ·rw[decide_eq_true cm];refine iteT ?_;rw[eS,decide_eq_false (λz:¬j∈ks=>z cm),O9] at q;exact q Hd p
      ·rw[decide_eq_false cm];refine iteF ?_;rw[decide_eq_true cm,Q6] at eS;have KP:=KI.put j (.bl true);have ea:addI ks j=ks++[j]:=if_neg cm;rw[ea] at KP;refine a8 _ _ ?_;refine xR rfl (xR rfl (xB th _ rfl ⟨DPut.k (k:=d7 j) (v:=.bl true) u (qAQ (by have:=KI.len;lia)),?_⟩))
       exact⟨_,ks++[j],xB _ _ rfl ⟨qAK p a4,qA1,KP,by rw[A6,C1];lia,eS⟩⟩
   ·refineλσ Hc a3=>opq λal a2=>?_;obtain⟨Af,ks,v5,v6,rfl,sm,a7,KI,lk,eS⟩:=a3;refine a2 ?_;have e0:layS (Ae.length:Int) o ks (g.drop (g.map V.int).length) (t.drop (g.map V.int).length)=true:=by
     rw[A0,B30,<- ln,B30]
     rfl
    rw[eS,e0] at q;exact aa _ _ (q Hc sm)
  ·rw[decide_eq_false (show¬V.int ((xs.length:Nat):Int)=V.int ((g.length:Nat):Int) fromλz=>by injection z with z;lia)]
   rw[decide_eq_false ln,O9] at q;refine iteT ?_;exact q H (.refl _)
theorem sc_never_there:FnScope ["net","wides","sizes","asked","thing","known","layout","move"] ["net","wides","sizes","asked","thing"] (qAA qD1):=qBU
theorem ok_never_there (F:Fun K "never_there" "never_there" qD1 f fd) (b7:Clb P w K mg base 3 qGL qOT "is_layout" ["net","wides","sizes","thing"] qQH) (bi:Clb P w K mg base 4 qDA qGA "moves_there" ["net","wides","sizes","layout"] qM9) (qBB:Clb P w K mg base 1 qBX qCX "layout_behind" ["layout","move"] qLJ) (qC5:Clb P w K mg base 1 qEG qG0 "has_all" ["results","works"] qEL) (qAC:mg "isinstance" = none) (qDK:mg "list" = none) (qKM:mg "all" = none) (qB1:mg "len" = none) (b3:mg "any" = none):FnOk P w K mg base CX0 5 f fd ["net","wides","sizes","asked","thing"] qQE:=by
 refine F.okA sc_never_there λbw A bd s H vs Q E hr h=>?_;obtain⟨a,wd,sz,t,Ae,wides,sizes,Ad,x,n,d,rfl,TK,gt,la,D,au,q⟩:=h;have hu:=qPV hr;refine⟨_,(qA3 (qB8 (PW.pt (qHV (qDL (qCA (qA8 qAR rfl qAC qAG (qA0 (pv 4) (qA0 (qBQ (v:=.ty "list") rfl qDK qFN rfl) qA2))))) (qG6 (qDL (qCA (qA8 (qJ6 rfl) rfl qKM qRO (qA0 (qE5 rfl (lcs (own:=["layout"]) (fv:=[0,1,2]) (by kernel_rfl)) (qBW (pv 4)) (λz1=>qCC 0) (λz1=>qBM) (λz1=>(qAP b7 hr rfl (qA0 (pv 1) (qA0 (pv 2) (qA0 (pv 3) (qA0 (pv 0) qA2))))))) qA2))))))) (qA6 (qAD qDW)) qAH) (qA3 (qAE (i:=5) sc_never_there.nd rfl (F3 rfl) qWO) (qA3 (qDM L5 rfl (qBW (pv 4)) (qBD (i:=6) sc_never_there.nd rfl (F3 rfl)) (qA6 (qMH hu (pv 5) (pv 6) qDW rfl))) (qA3 (qDM L5 rfl (qMI (qTY (pv 5))) (qBD (i:=6) sc_never_there.nd rfl (F3 rfl)) (qA6 (qDM L5 rfl (qBW (qAP bi hr rfl (qA0 (pv 0) (qA0 (pv 1) (qA0 (pv 2) (qA0 (pv 6) qA2)))))) (qBD (i:=7) sc_never_there.nd rfl (F3 rfl)) (qA6 (qB8 (qCY (qO1 hu (qAP qBB hr rfl (qA0 (pv 6) (qA0 (pv 7) qA2))) (pv 5))) (qA6 (qAD qDW)) qAH))))) (qA6 (qAD (qF9 (qXU (qXV hu (qAO qMJ (qBS (qA0 qDN qA2)) (qA8 qA9 rfl qB1 qB7 (qA0 (pv 2) qA2))) (pv 5))) (qG7 (qTX (qA8 (qRL rfl) rfl b3 qYD (qA0 (qE5 rfl (lcs (own:=["layout"]) (fv:=[3]) (by kernel_rfl)) (qMI (pv 5)) (λz2=>qCC 0) (λz2=>qBM) (λz2=>(qAP qC5 hr rfl (qA0 (pv 0) (qA0 (pv 1) qA2))))) qA2))))))))))),?_⟩
 try dsimp only[Cx.nox,Cx.wish,cxOf]
 refine cut λN0 b9=>?_;obtain⟨tv,ty,k1⟩:=qPC (K:=K) D;refine xR rfl ⟨x,"list",tv,xR rfl ⟨ty,k1,xR rfl ?_⟩⟩;cases c:lstB d with
 |false=>
  refine iteT ?_;refine q false H (.refl _) ⟨λz=>(nomatch z),λz=>?_⟩;cases d<;>first|exact z.elim|cases c
 |true=>
  obtain⟨m,l,xs,u,rfl,rfl,rfl,gl,lx,el⟩:=qN7 D c;refine iteF ?_;have au:u.length<=20000:=au;refine xR rfl ⟨l,rfl,⟨_,Ab2 gl⟩,λp hp=>?_⟩;refine qE7 (p:=p) (a:=l) (xs:=xs) (λi σ g=>∃(v:Option V),σ=[v,some (.ref a),some (.ref wd),some (.ref sz)]/\Same H g/\g p=some (.lst (((u.take i).map (qFC (Ae.length:Int) wides sizes)).map V.bl))) ?_ ?_ ?_ ?_
  ·exact⟨none,rfl,qA4 hp _,qA1⟩
  ·rintro i σ g hi ⟨v,rfl,sm,_⟩;exact Ab2 (sm _ _ gl)
  ·refineλi y σ g hx an=>opq λbx ah=>?_;obtain⟨v,rfl,sm,a0⟩:=an;refine ah ?_;have hi:=(B5.mp hx).1;have hd:=B0 (show i<u.length by lia)
   have Dy:=(el i y _ hx hd).same sm;refine xR rfl (xR rfl (xR rfl (xR rfl ⟨a,wd,sz,Ae,wides,sizes,y,m,u[i],rfl,TK.same sm,Dy,λH2 s2=>?_⟩)));refine⟨_,s2 _ _ a0,qAQ (by rw[A0,A0,C9];lia),xR rfl ⟨qAK (sm.trans s2) hp,?_⟩⟩
   rw[qA1,E8,hd,E9,C4,C4]
   rfl
  refineλσ g ao=>opq λbp ac=>?_;obtain⟨v,rfl,sm,a0⟩:=ao;refine ac ?_;rw[lx,O1] at a0;refine xB p _ rfl ⟨Ab2 a0,xR rfl ?_⟩;have e:((u.map (qFC (Ae.length:Int) wides sizes)).all id)=u.all (qFC (Ae.length:Int) wides sizes):=by rw[List.all_map];rfl
  rw[e];have eN:qM2 Ae wides sizes Ad (.list u)=(u.all (qFC (Ae.length:Int) wides sizes)=true/\JO Ae wides sizes Ad (u.map dLa)):=rfl;rw[eN] at q;cases ca:u.all (qFC (Ae.length:Int) wides sizes) with
  |false=>
   refine iteT ?_;exact q false g sm ⟨λz=>(nomatch z),λz=>by rw[ca] at z;exact(nomatch z.1)⟩
  |true=>
  have a3:∀d∈u,qFC (Ae.length:Int) wides sizes d=true:=L7.mp ca;refine iteF (b9 _ _ (cut λN1 ay=>?_));intro dk a5;have s1:=sm.trans (qA4 a5 (.dT []));have g1:(Ag g dk (.dT [])) dk=some (.dT (kvB [])):=qA1;generalize Ag g dk (.dT [])=H1 at s1 g1 ⊢;refine ay _ _ (cut λN2 b0=>?_);have b6:=s1 _ _ gl;refine⟨_,rfl,l,rfl,⟨_,Ab2 b6⟩,qFZ (a:=l) (xs:=xs) (λi σ g=>∃(v6:Option V),σ=[some (.ref a),some (.ref wd),some (.ref sz),some (.ref t),some (.ref l),some (.ref dk),v6,none]/\Same H g/\g dk=some (.dT (kvB (qKV ((u.map dLa).take i)))))
   ⟨none,rfl,s1,g1⟩ (λi σ g _ hP=>by obtain⟨_,_,sc,_⟩:=hP;exact Ab2 (sc _ _ gl)) ?_ ?_⟩
  ·refineλi x σ g hx ak=>opq λbr am=>?_;obtain⟨v6,rfl,sc,gd⟩:=ak;refine am ?_;have hi:=(B5.mp hx).1;have hd:=B0 (show i<u.length by lia)
   obtain⟨r,rfl,gr,_,_,_⟩:=qUH ((el i x _ hx hd).same sc) (a3 _ (Q9 _));have b1:g r=some (.tup ((keyO (dLa u[i])).map kI)):=by rw[qC8];exact gr
   have ln:=qQW ((u.map dLa).take i);rw[C9,A0] at ln;refine xR rfl (xR rfl (xB dk _ rfl ⟨DPut.t (k:=keyO (dLa u[i])) gd b1 (qAQ (by unfold kvB;rw[A0];lia)),?_⟩))
   refine xR rfl ⟨qAK sc (sm.free a5),?_⟩;rw[qA1,qZK,qU5 (s:=dLa u[i]) (by rw[C6,hd];rfl)]
  ·refineλσ g ae=>opq λbo af=>?_;obtain⟨v6,rfl,sc,gd⟩:=ae;refine af ?_;rw[D3 (show(u.map dLa).length<=xs.length by rw[A0];lia)] at gd
   have ln:=qQW (u.map dLa);rw[A0] at ln;have ok:∀s∈qKV (u.map dLa),s.length=sizes.length/\LayOk (Ae.length:Int) s/\FitO wides sizes s:=λs hs=>by
    obtain⟨d,hd,rfl⟩:=J8.mp (once_mem.mp hs);obtain⟨j,hj,rfl⟩:=Q2 hd;obtain⟨_,_,_,a,b,c⟩:=qUH (el j _ _ (B0 (show j<xs.length by lia)) (B0 hj)) (a3 _ hd)
    exact⟨a,b,c⟩
   have jo:=qZM (Ae:=Ae) (wides:=wides) (sizes:=sizes) (Ad:=Ad) (L:=u.map dLa);generalize qKV (u.map dLa)=ks at gd ln ok jo;refine b0 _ _ (cut λN3 ba=>?_);have bf:H dk=none:=sm.free a5;refine xR rfl (xB dk _ rfl ⟨gd,λo=>(xC dk o _ rfl ⟨qA1,?_⟩)⟩);have sd:Same H (Ag g dk (.frz o (.dT (kvB ks)))):=qAK sc bf;have a2:(Ag g dk (.frz o (.dT (kvB ks)))) dk=some (.frz o (.dT (kvB ks))):=qA1;generalize Ag g dk (.frz o (.dT (kvB ks)))=Hd at sd a2 ⊢;refine qSM (a:=dk) (o:=o) (Af:=kvB ks) (λi σ He=>∃(v6 v7:Option V),σ=[some (.ref a),some (.ref wd),some (.ref sz),some (.ref t),some (.ref l),some (.ref dk),v6,v7]/\Same Hd He/\∀s∈ks.take i,∀m∈nxO Ae wides sizes s,beO s m∈ks)
    ⟨v6,none,rfl,.refl _,λs h=>by rw[A69] at h;exact(nomatch h)⟩ (λi σ He _ ⟨_,_,_,z,_⟩=>z _ _ a2) ?_ ?_
   ·refineλi k v r σ He a1 gr ar=>opq λbs aq=>?_;obtain⟨v6,v7,rfl,se,cl⟩:=ar;refine aq ?_;unfold kvB at a1;rw[C6] at a1;obtain⟨s,hs,e1⟩:=Z7.mp a1;cases e1;rw[qC8] at gr;have al:=D4 hs;obtain⟨o1,o2,o3⟩:=ok s al;have k5:=TK.k5;refine xR rfl (xR rfl (xR rfl (xR rfl (xH a wd sz r Ae wides sizes s rfl ⟨TK.same (sd.trans se),gr,o1,λp es H3 s3 fp gp ML=>?_⟩))));have bj:=C5 ML;refine⟨p,rfl,⟨_,Ab2 gp⟩,qFZ (a:=p) (xs:=es.map V.ref) (λk σ Hf=>∃(v7:Option V),σ=[some (.ref a),some (.ref wd),some (.ref sz),some (.ref t),some (.ref l),some (.ref dk),some (.ref r),v7]/\Same H3 Hf/\∀m∈(nxO Ae wides sizes s).take k,beO s m∈ks)
     ⟨v7,rfl,.refl _,λm h=>by rw[A69] at h;exact(nomatch h)⟩ (λk σ Hf _ hP=>by obtain⟨_,_,zf,_⟩:=hP;exact Ab2 (zf _ _ gp)) ?_ ?_⟩
    ·refineλk x σ Hf hx aj=>opq λbu ap=>?_;obtain⟨v7,rfl,sf,ck⟩:=aj;obtain⟨mv,bg,rfl⟩:=qC3 hx;obtain⟨mo,ai,b8⟩:=qAN ML bg;refine ap ?_;have as:=D4 ai;have nb:=qMM as;refine xR rfl (xR rfl (xD r mv s mo rfl ⟨sf _ _ (s3 _ _ gr),sf _ _ b8,nb.1.1,by lia,by lia,λr2 H4 s4 b5=>?_⟩))
     refine xR rfl (xB dk _ rfl ⟨.inr ⟨kvB ks,keyO (beO s mo),r2,.inr ⟨o,s4 _ _ (sf _ _ (s3 _ _ (se _ _ a2)))⟩,rfl,by rw[qC8];exact b5,rfl⟩,xR rfl ?_⟩)
     rw[qUK];by_cases cm:beO s mo∈ks
     ·rw[decide_eq_true cm];refine xR rfl ⟨sf.trans s4,λm hm=>?_⟩;rw[E8,ai,E9,B7,B3] at hm;rcases hm with z|z
      ·exact ck m z
      ·rw[z];exact cm
     ·rw[decide_eq_false cm];exact q false H4 (sd.trans (se.trans (s3.trans (sf.trans s4)))) ⟨λz=>(nomatch z),λz=>absurd ((jo.mpr z.2).2 s al |>.2.2 mo as) cm⟩
    ·refineλσ Hf ad=>opq λbv aw=>?_;obtain⟨v7,rfl,sf,ck⟩:=ad;refine aw ?_;rw[A0,bj,O1] at ck;refine xB _ _ rfl ⟨se.trans (s3.trans sf),λs' ag=>?_⟩;rw[E8,hs,E9,B7,B3] at ag;rcases ag with z|z
     ·exact cl s' z
     ·rw[z];exact ck
   ·refineλσ He av=>opq λbq ax=>?_;obtain⟨v6,v7,rfl,se,cl⟩:=av;refine ax ?_;refine ba _ _ ?_;rw[show(kvB ks).length=ks.length from A0 _,O1] at cl;have bh:=TK.k1;have bt:=TK.k5;have sE:=sd.trans se;have a9:=se _ _ a2;have b2:(((sizes.map V.int).length:Nat):Int)=(sizes.length:Int):=by rw[A0]
    refine⟨(by show 1<=B75;decide),λt1 az=>?_⟩
    have s1:=qA4 az (.tup [.non]);refine xR rfl (xB sz _ rfl ⟨.inr (Ac0 (s1 _ _ (sE _ _ TK.sizes_))),?_⟩);rw[b2];refine qFS qA1 bh (by lia) λb4 H5 bb be=>?_
    have sF:=s1.trans bb;refine xR rfl (xB dk _ rfl ⟨.inr ⟨kvB ks,keyO (l0 sizes),b4,.inr ⟨o,sF _ _ a9⟩,rfl,by rw[qC8];exact be,rfl⟩,?_⟩)
    rw[qUK];have sG:=sE.trans sF;have bc:=sG _ _ gt;refine xR rfl ?_;by_cases c0:l0 sizes∈ks
    ·rw[if_pos (decide_eq_true c0)];refine xR rfl (xC dk o _ rfl ⟨sF _ _ a9,λp hp=>?_⟩);refine qR7 (p:=p) (a:=dk) (o:=o) (Af:=kvB ks) (λi σ g=>∃(v:Option V),σ=[v,some (.ref t)]/\Same H5 g/\g p=some (.lst (((ks.take i).map λs=>decide (∀x∈Ad,some x∈s)).map V.bl))) ?_ ?_ ?_ ?_
     ·exact⟨none,rfl,qA4 hp _,qA1⟩
     ·refineλi σ g hi aa=>opq λbn a8=>?_;obtain⟨v,rfl,sm,_⟩:=aa;refine a8 ?_;exact sm _ _ (sF _ _ a9)
     ·refineλi k v r σ g a1 gr a7=>opq λbm a6=>?_;obtain⟨v0,rfl,sm,a0⟩:=a7;refine a6 ?_;unfold kvB at a1;rw[C6] at a1;obtain⟨s,hs,e1⟩:=Z7.mp a1;cases e1;rw[qC8] at gr;have hi:=(B5.mp hs).1;refine xR rfl (xR rfl (xD r t s Ad rfl ⟨gr,sm _ _ bc,la,λH2 s2=>?_⟩));refine⟨_,s2 _ _ a0,qAQ (by rw[A0,A0,C9];lia),xR rfl ⟨qAK (sm.trans s2) hp,?_⟩⟩
      rw[qA1,E8,hs,E9,C4,C4]
      rfl
     refineλσ g ab=>opq λbk a4=>?_;obtain⟨v,rfl,sm,a0⟩:=ab;refine a4 ?_;rw[show(kvB ks).length=ks.length from A0 _,O1] at a0;refine xB p _ rfl ⟨Ab2 a0,xR rfl ?_⟩;refine q _ g (sG.trans sm) ?_;rw[B08,List.any_map,V7,Ne,t9]
     constructor
     ·intro z;refine⟨ca,jo.mp ⟨c0,λs hs=>⟨(ok s hs).2.2,λw=>z ⟨s,hs,decide_eq_true w⟩,λm hm=>cl s hs m hm⟩⟩⟩
     ·rintro⟨_,z⟩ ⟨s,hs,w⟩;exact((jo.mpr z).2 s hs).2.1 (of_decide_eq_true w)
    ·rw[decide_eq_false c0,if_neg B6];exact q false H5 sG ⟨λz=>(nomatch z),λz=>absurd (jo.mpr z.2).1 c0⟩
theorem qKP:FnScope ["net","wides","sizes","asked","thing"] ["net","wides","sizes","asked","thing"] (qAA qD0):=qBU
theorem ok_shows_there (F:Fun K "shows_there" "shows_there" qD0 f fd) (a2:Clb P w K mg base 1 qFF qI3 "is_pair" ["thing"] qPE) (a6:Clb P w K mg base 5 qET qL7 "never_there" ["net","wides","sizes","asked","thing"] qQE) (a8:Clb P w K mg base 5 qFG qN1 "does_there" ["net","wides","sizes","asked","thing"] qTB) (a3:Clb P w K mg base 1 qEU qII "is_number" ["thing"] qT7) (a4:Clb P w K mg base 1 qG2 qK7 "steps_of" ["plan"] qM7) (qAC:mg "isinstance" = none) (qAS:mg "tuple" = none) (qB1:mg "len" = none):FnOk P w K mg base CX0 6 f fd ["net","wides","sizes","asked","thing"] qM8:=by
 refine F.okA qKP λaa A a5 s H vs Q E hr h=>?_;obtain⟨a,wd,sz,t,Ae,g,j,Ad,x,n,d,rfl,TK,gt,la,D,ok,q⟩:=h;refine⟨_,(qA3 (qB8 (PW.pt (qNX (qCA (qAP a2 hr rfl (qA0 (pv 4) qA2))) (qJL (qAF qCL (qAT qAM (pv 4) qA5 (λ_ _=>rfl)) qAZ (qAL _))))) (qA6 (qAD (qAP a6 hr rfl (qA0 (pv 0) (qA0 (pv 1) (qA0 (pv 2) (qA0 (pv 3) (qA0 (qAT qAM (pv 4) qA5 (λ_ _=>rfl)) qA2)))))))) qAH) (qA3 (qB8 (PW.pt (qHV (qDL (qCA (qA8 qAR rfl qAC qAG (qA0 (pv 4) (qA0 (qBQ (v:=.ty "tuple") rfl qAS qB5 rfl) qA2))))) (qHV (qAF qMK (qA8 qA9 rfl qB1 qB7 (qA0 (pv 4) qA2)) qA5 (qAL _)) (qG6 (qAF qMK (qAT qAM (pv 4) qA5 (λ_ _=>rfl)) qAZ (qAL _)))))) (qA6 (qAD qDW)) qAH) (qA3 (qB8 (qDL (qCA (qAP a8 hr rfl (qA0 (pv 0) (qA0 (pv 1) (qA0 (pv 2) (qA0 (pv 3) (qA0 (qAT qAM (pv 4) qA5 (λ_ _=>rfl)) qA2)))))))) (qA6 (qAD qDW)) qAH) (qA6 (qAD (qF9 (qAP a3 hr rfl (qA0 (qAT qAM (pv 4) qA5 (λ_ _=>rfl)) qA2)) (qG7 (qCN qCL (qAT qAM (pv 4) qA5 (λ_ _=>rfl)) (qAP a4 hr rfl (qA0 (qAT qAM (pv 4) qA5 (λ_ _=>rfl)) qA2)) (qAL _))))))))),?_⟩
 try dsimp only[Cx.nox,Cx.wish,cxOf]
 refine cut λN0 a0=>?_;refine xR rfl ⟨x,n,d,rfl,D,xR rfl ?_⟩;cases cp:qS7 d with
 |true=>
  obtain⟨m,r,xs,ds,rfl,rfl,rfl,o,lx,el⟩:=qDV D (by cases d<;>first|rfl|cases cp)
  obtain⟨u,p,rfl⟩:=qK3 (of_decide_eq_true cp);obtain⟨x0,x1,rfl⟩:=qK3 lx;have D0:=el 0 x0 u rfl rfl;have D1:=el 1 x1 p rfl rfl;obtain⟨sc,eq⟩:=qIY (B1 "none") (qHF D0 ok.1);have e:qKI Ae g j Ad (.tuple [u,p])=(isS (B1 "none") u=true/\qM2 Ae g j Ad p):=rfl;rw[e] at q;refine xR rfl ⟨r,_,_,xR rfl ⟨rfl,Ac0 o,rfl,sc,xR rfl ?_⟩⟩;rw[eq];cases c0:isS (B1 "none") u with
  |true=>
   rw[c0] at q;refine iteT ?_;refine xR rfl (xR rfl (xR rfl (xR rfl (xR rfl (xD r _ _ _ rfl ⟨rfl,Ac0 o,rfl,xK a wd sz t Ae g j Ad x1 m p rfl ⟨TK,gt,la,D1,ok.2,λb H' k y=>q b H' k (y.trans ⟨λz=>⟨rfl,z⟩,λz=>z.2⟩)⟩⟩)))))
  |false=>
   rw[c0] at q;refine iteF (a0 _ _ (cut λN1 a1=>?_));obtain⟨tt,ty,k1,k2,k3⟩:=qJF (K:=K) D;refine xR rfl ⟨.ref r,"tuple",tt,xR rfl ⟨ty,k3,xR rfl ?_⟩⟩;refine iteF ?_;refine xR rfl (xB r _ rfl ⟨.inr (Ac0 o),rfl,xR rfl ?_⟩);refine iteT ?_;exact q false H (.refl _) ⟨λz=>(nomatch z),λz=>(nomatch z.1)⟩
 |false=>
  refine iteF (a0 _ _ (cut λN1 a1=>?_));obtain⟨tt,ty,k1,k2,k3⟩:=qJF (K:=K) D;refine xR rfl ⟨x,"tuple",tt,xR rfl ⟨ty,k3,xR rfl ?_⟩⟩;cases c:tupB d with
  |false=>
   refine iteT ?_;exact q false H (.refl _) ⟨λz=>(nomatch z),λz=>by cases d<;>first|exact P1 z|cases c⟩
  |true=>
   obtain⟨m,r,xs,ds,rfl,rfl,rfl,o,lx,el⟩:=qDV D c;refine iteF ?_;refine xR rfl (xB r _ rfl ⟨.inr (Ac0 o),rfl,xR rfl ?_⟩);by_cases l3:xs.length=3
   ·obtain⟨x0,x1,x2,rfl⟩:=qFD l3;obtain⟨u,p,d2,rfl⟩:=qFD (lx.symm.trans l3);have D0:=el 0 x0 u rfl rfl;have D1:=el 1 x1 p rfl rfl;have D2:=el 2 x2 d2 rfl rfl;obtain⟨sc,eq⟩:=qIY (B1 "plan") (qHF D0 ok.1);have e:qKI Ae g j Ad (.tuple [u,p,d2])=(isS (B1 "plan") u=true/\∃ms,p=.list (ms.map moD)/\qSU Ae g j Ad ms/\d2=.int (dosO ms:Int)):=rfl;rw[e] at q;refine iteF ?_;refine xR rfl ⟨r,_,_,xR rfl ⟨rfl,Ac0 o,rfl,sc,xR rfl ?_⟩⟩;rw[eq];cases c0:isS (B1 "plan") u with
    |false=>
     rw[c0] at q;refine iteT ?_;exact q false H (.refl _) ⟨λz=>(nomatch z),λz=>(nomatch z.1)⟩
    |true=>
     rw[c0] at q;obtain⟨o1,o2⟩:=ok.2 c0;refine iteF (a1 _ _ (cut λN2 a7=>?_));refine xR rfl (xR rfl (xR rfl (xR rfl (xR rfl (xD r _ _ _ rfl ⟨rfl,Ac0 o,rfl,xK a wd sz t Ae g j Ad x1 m p rfl ⟨TK,gt,la,D1,o1,o2,λb H' k y=>(xR rfl ?_)⟩⟩)))));cases b with
     |false=>
      refine iteT ?_;exact q false H' k ⟨λz=>(nomatch z),λ⟨_,ms,e1,e2,_⟩=>y.mpr ⟨ms,e1,e2⟩⟩
     |true=>
      refine iteF (a7 _ _ ?_);obtain⟨ms,rfl,dp⟩:=y.mp rfl;refine xR rfl (xD r _ _ _ rfl ⟨rfl,Ac0 (k _ _ o),rfl,xC x2 m d2 rfl ⟨D2.same k,xR rfl ?_⟩⟩);cases cn:numB d2 with
      |false=>
       rw[if_neg B6];refine q false H' k ⟨λz=>(nomatch z),λ⟨_,a9,_,_,e3⟩=>?_⟩;rw[e3] at cn;cases cn
      |true=>
       rw[if_pos rfl];obtain⟨i,rfl,rfl⟩:=qI5 D2 cn;obtain⟨l,rs,rfl,gl,MM⟩:=qRJ (D1.same k);have lm:ms.length<=20000:=by
        have:=o2;rw[show lenB (.list (ms.map moD))=((ms.map moD).length<=20000) from rfl,A0] at this;exact this
       refine xR rfl (xD r _ _ _ rfl ⟨rfl,Ac0 (k _ _ o),rfl,xR rfl (xD r _ _ _ rfl ⟨rfl,Ac0 (k _ _ o),rfl,xC l rs ms rfl ⟨gl,MM,lm,λH2 s2=>?_⟩⟩)⟩);refine⟨rfl,q _ H2 (k.trans s2) ⟨λz=>⟨rfl,ms,rfl,dp,by rw[V.int.inj (of_decide_eq_true z)]⟩,λ⟨_,a9,e1,⟨s',R',_⟩,e3⟩=>?_⟩⟩
       injection e1 with e1
       injection e3 with e3
       obtain⟨s0,R0,_⟩:=dp;obtain⟨e4,_⟩:=qME R0 R' e1;rw[e4];exact decide_eq_true (congrArg V.int e3)
   ·rw[decide_eq_false (show¬V.int ((xs.length:Nat):Int)=V.int 3 fromλz=>by injection z with z;lia)]
    refine iteT ?_;exact q false H (.refl _) ⟨λz=>(nomatch z),λz=>by
     match ds,z with
     |[_,_],_=>cases cp
     |[_,_,_],_=>exact absurd (lx.trans rfl) l3⟩
theorem qPL:FnScope ["_law_layout","_law_asked_here"] ["_law_layout","_law_asked_here"] (qAA qFR):=qBU
theorem ok_Lhas_all (F:Fun K "_law_has_all" "_law_has_all" qFR f fd):FnOk P w K mg base CX0 1 f fd ["_law_layout","_law_asked_here"] qEL:=by
 refine F.okA qPL λa6 A a3 s H vs Q E hr h=>?_;obtain⟨la,r,b,g,rfl,a1,n,l1,q⟩:=h;have a0:=hr.units0;refine⟨_,(qA6 (qAD (qCN (qO7 a0) (qE5 rfl (lcs (own:=["_law_work"]) (fv:=[0]) (by kernel_rfl)) (qNY (pv 1)) (λz1=>qCC 0) (λz1=>(qF8 (qAF (qO4 (K:=K) rfl) (pv 0) (pv 1) (by with_unfolding_all rfl)))) (λz1=>(pv 0))) (qBH qA2) (qAL _)))),?_⟩
 try dsimp only[Cx.nox,Cx.wish,cxOf]
 refine xR rfl ⟨r,rfl,⟨_,Ac0 n⟩,λp hp=>?_⟩;refine qOF (p:=p) (a:=r) (xs:=g.map V.int) (λi σ u=>∃(v:Option V),σ=[v,some (.ref la)]/\Same H u/\u p=some (.lst (((g.take i).filter λx=>!decide (some x∈b)).map V.int))) ?_ ?_ ?_ ?_
 ·exact⟨none,rfl,qA4 hp _,qA1⟩
 ·rintro i σ u hi ⟨v,rfl,sm,_⟩;exact Ac0 (sm _ _ n)
 ·refineλi x σ u t j=>opq λa7 o=>?_;obtain⟨v,rfl,sm,d⟩:=j;obtain⟨z,ez,rfl⟩:=qI2 t;refine o ?_;have hi:i<g.length:=(B5.mp ez).1;have lk:=qFE (p:=λx=>!decide (some x∈b)) (l:=g) (i:=i);refine xR rfl (xR rfl (xB la _ rfl ⟨.inr (Ac0 (sm _ _ a1)),rfl,qHA b,xR rfl ?_⟩));rw[qK0,qDT ez];by_cases e:some z∈b
  ·rw[decide_eq_true e];refine xR rfl ⟨sm,?_⟩;simpa using d
  ·rw[decide_eq_false e];refine xR rfl ⟨_,d,qB2 (by rw[A0];lia),xR rfl ⟨qAK sm hp,?_⟩⟩
   rw[qA1,if_pos (show(!false)=true from rfl),C4]
   rfl
 refineλσ H1 m=>opq λa5 k=>?_;obtain⟨v,rfl,a4,d⟩:=m;refine k ?_;rw[A0,qIS rfl] at d;refine⟨(by show 0<=B75;decide),λe0 a2=>?_⟩
 have s0:=qA4 a2 (.lst []);refine xC p e0 _ rfl ⟨rfl,Ab2 (s0 _ _ d),Ab2 qA1,?_⟩;have e:((g.filter λx=>!decide (some x∈b)).map V.int).isEmpty=decide (∀x∈g,some x∈b):=by
  by_cases c:∀x∈g,some x∈b
  ·rw[decide_eq_true c];have:(g.filter λx=>!decide (some x∈b))=[]:=by
    rw[Z8];intro x t;simp[c x t]
   rw[this];rfl
  ·rw[decide_eq_false c];cases hf:(g.filter λx=>!decide (some x∈b)) with
   |nil=>
    refine absurd (λx t=>?_) c;have:=(Z8.mp hf) x t;simpa using this
   |cons y ys=>rfl
 rw[e];exact q _ (a4.trans s0)
theorem sc_Lled:FnScope ["_law_net_here","_law_wides","_law_sizes","_law_plan","_law_layout","_law_moves","_law_move"] ["_law_net_here","_law_wides","_law_sizes","_law_plan"] (qAA qQL):=qBU
theorem ok_Lled (F:Fun K "_law_led" "_law_led" qQL f fd) (al:Clb P w K mg base 1 qE2 qHC "_law_all_moves" ["_law_net_here","_law_sizes"] qPG) (au:Clb P w K mg base 4 qFH qG1 "_law_same" ["_law_found","_law_due"] (spS 4)) (as:Clb P w K mg base 1 qJ2 qOV "_law_fault" ["_law_net_here","_law_wides","_law_sizes","_law_layout","_law_move"] (spTh false)) (aq:Clb P w K mg base 1 qV7 qZR "_law_put" ["_law_layout","_law_move"] qLJ) (qB1:mg "len" = none) (ao:mg "any" = none):FnOk P w K mg base CX0 5 f fd ["_law_net_here","_law_wides","_law_sizes","_law_plan"] qT9:=by
 refine F.okA sc_Lled λb2 A ar s H vs Q E hr h=>?_;obtain⟨a,wd,sz,l,q,g,c,n,xs,ds,rfl,T,hl,lx,el,qy,qn⟩:=h;refine⟨_,(qA3 (qAE (i:=4) sc_Lled.nd rfl (F3 rfl) (qAO qMJ (qBS (qA0 qDN qA2)) (qA8 qA9 rfl qB1 qB7 (qA0 (pv 2) qA2)))) (qA3 (qAE (i:=5) sc_Lled.nd rfl (F3 rfl) (qAP al hr rfl (qA0 (pv 0) (qA0 (pv 2) qA2)))) (qA3 (qDM L5 rfl (qBW (pv 3)) (qBD (i:=6) sc_Lled.nd rfl (A53 rfl)) (qA3 (qB8 (qDL (qCA (qA8 (qRL rfl) rfl ao qYD (qA0 (qE5 rfl (lcs (own:=["_law_other"]) (fv:=[6]) (by kernel_rfl)) (qBW (pv 5)) (λz1=>qCC 0) (λz1=>qBM) (λz1=>(qAP au hr rfl (qA0 (pv 1) (qA0 (pv 0) qA2))))) qA2)))) (qA6 (qAD qDN)) qAH) (qA3 (qB8 (qCY (qJM (qAP as hr rfl (qA0 (pv 0) (qA0 (pv 1) (qA0 (pv 2) (qA0 (pv 4) (qA0 (pv 6) qA2)))))))) (qA6 (qAD qDN)) qAH) (qA6 (qAE (i:=4) sc_Lled.nd rfl (F3 rfl) (qAP aq hr rfl (qA0 (pv 4) (qA0 (pv 6) qA2)))))))) (qA6 (qAD (pv 4)))))),?_⟩
 try dsimp only[Cx.nox,Cx.wish,cxOf]
 have k1:=T.k1;have k5:=T.k5;have n6:=T.n6;have am:(((c.map V.int).length:Nat):Int)=(c.length:Int):=by rw[A0]
 refine⟨(by show 1<=B75;decide),λt1 aj=>?_⟩
 have s1:=qA4 aj (.tup [.non]);refine xR rfl (xB sz _ rfl ⟨.inr (Ac0 (s1 _ _ T.sizes_)),?_⟩);rw[am];refine qFS qA1 k1 (by lia) λu H1 ad k=>?_
 have sA:=s1.trans ad;refine xR rfl (xR rfl (xD a sz q c rfl ⟨T.net_.same sA,n6,sA _ _ T.sizes_,k5,λml H2 s2 fm MA=>?_⟩));obtain⟨t,gm,MM⟩:=MA;have sB:=sA.trans s2;have ai:t.length=(qBN (q.length:Int) (c.length:Int)).length:=C5 MM;refine⟨_,rfl,l,rfl,⟨_,Ab2 (sB _ _ hl)⟩,qFZ (a:=l) (xs:=xs) (λi σ Hc=>∃(u:Addr) (lay:La) (ms:List Mo) (v6:Option V),σ=[some (.ref a),some (.ref wd),some (.ref sz),some (.ref l),some (.ref u),some (.ref ml),v6]/\Same H Hc/\Hc u=some (.tup (lay.map oV))/\lay.length=c.length/\RunO q g c (l0 c) ms lay/\ds.take i=ms.map moD/\Hc ml=some (.lst (t.map V.ref))/\MosL Hc t (qBN (q.length:Int) (c.length:Int)))
  ⟨u,l0 c,[],none,rfl,sB,s2 _ _ k,Z9,.nil,rfl,gm,MM⟩ (λi σ Hc _ hP=>by obtain⟨_,_,_,_,_,sm,_⟩:=hP;exact Ab2 (sm _ _ hl)) ?_ ?_⟩
 ·clear s1 ad k sA s2 fm gm MM sB;refineλi x σ Hc hx ae=>opq λb0 af=>?_;obtain⟨u,lay,ms,v6,rfl,sm,k,ll,R,ed,gm,MM⟩:=ae;refine af ?_;have hi:=(B5.mp hx).1;have hd:=B0 (show i<ds.length by lia)
  have a0:ds=ms.map moD++ds[i]::ds.drop (i+1):=by
   have h2:=X1 i ds;rw[Q0 (show i<ds.length by lia),ed] at h2
   exact h2.symm
  generalize ds[i]=d at hd a0;have Dx:=(el i x _ hx hd).same sm;have a1:(∀m∈nxO q g c lay,d≠moD m)->∀ms s,ds=ms.map moD->¬RunO q g c (l0 c) ms s:=λno b3 s e' R'=>qQM R no R' (a0.symm.trans e');refine cut λN1 ah=>?_;refine xR rfl ⟨ml,rfl,⟨_,Ab2 gm⟩,λp hp=>?_⟩;refine qE7 (p:=p) (a:=ml) (xs:=t.map V.ref) (λj σ Hd=>∃(v:Option V) (bs:List Bool),σ=[v,some x]/\Same Hc Hd/\Hd p=some (.lst (bs.map V.bl))/\bs.length=j/\(bs.any id=true↔∃m'∈(qBN (q.length:Int) (c.length:Int)).take j,d=moD m')) ?_ ?_ ?_ ?_
  ·exact⟨none,[],rfl,qA4 hp _,qA1,rfl,⟨λz=>(nomatch z),λ⟨_,z,_⟩=>(nomatch z)⟩⟩
  ·rintro j σ Hd hj ⟨v,bs,rfl,sd,_⟩;exact Ab2 (sd _ _ gm)
  ·refineλj y σ Hd hy ac=>opq λax a4=>?_;obtain⟨v,bs,rfl,sd,a2,lb,ib⟩:=ac;obtain⟨ro,av,rfl⟩:=qC3 hy;obtain⟨m',a5,ap⟩:=qAN MM av;refine a4 ?_;have hj:=(B5.mp a5).1;have az:=qM1 (q.length:Int) c.length;have b1:c.length*(((q.length:Int)).toNat+1)<=5*7:=q9 (by lia) (by lia)
   refine xR rfl (xR rfl ⟨x,.ref ro,_,1,d,moD m',rfl,Dx.same sd,qR2 (sd _ _ ap),qaS m',λb H5 s5 aa=>?_⟩);refine⟨_,s5 _ _ a2,qB2 (by rw[A0];lia),_,bs++[b],rfl,qAK (sd.trans s5) hp,by rw[qA1,C4];rfl,by rw[A6,lb];rfl,?_⟩
   rw[List.any_append,A01,ib,E8,a5,E9];refine⟨λz=>z.elim (λ⟨m,h1,h2⟩=>⟨m,w5 _ h1,h2⟩) λz=>⟨m',F7 _ (B3.mpr rfl),aa.mp (by simpa using z)⟩,λ⟨m,h1,h2⟩=>(B7.mp h1).elim (λz=>.inl ⟨m,z,h2⟩) λz=>.inr ?_⟩
   rw[B3.mp z] at h2;simpa using aa.mpr h2
  refineλσ Hd a8=>opq λay a9=>?_;obtain⟨v,bs,rfl,sd,a2,lb,ib⟩:=a8;refine a9 ?_;rw[A0,ai,O1] at ib;refine xB p _ rfl ⟨Ab2 a2,?_⟩;have ag:=sm.trans sd;cases ca:bs.any id with
  |false=>
   refine xR rfl (iteT ?_);refine qn (a1 λm hm e=>?_) Hd ag;rw[ib.mpr ⟨m,qIF hm,e⟩] at ca;cases ca
  |true=>
   refine xR rfl (iteF (ah _ _ (cut λN2 ak=>?_)));obtain⟨mo,a3,em⟩:=ib.mp ca;subst em;obtain⟨mv,rfl,ab⟩:=qVG Dx;obtain⟨ns,o,sv,wv,TI,ef⟩:=(T.same ag).tinO (sd _ _ k) ll (sd _ _ ab) a3;refine xR rfl (xR rfl (xR rfl (xR rfl (xR rfl (xN a wd sz u mv q g c lay mo ns o sv wv rfl ⟨TI,(λe=>nomatch e),λH6 s6=>?_⟩)))));have s7:=sd.trans s6;refine xR rfl ?_;rcases qM6 mo ns lay o sv wv with e|⟨w0,e⟩
   ·rw[e,decide_eq_true (rfl:V.non=V.non)];have nx:=qbE a3 (ef.trans e);have nb:=qMM nx;refine iteF (ak _ _ ?_);exact xR rfl (xR rfl (xD u mv lay mo rfl ⟨s7 _ _ k,s7 _ _ ab,nb.1.1,by lia,by lia,λr H8 s8 gr=>⟨r,beO lay mo,ms++[mo],xR rfl ⟨(sm.trans s7).trans s8,gr,by unfold beO;rw[W2];exact ll,R.app (.cons nx .nil),by rw[E8,hd,ed,C4];rfl,s8 _ _ (s7 _ _ gm),(MosL.same MM s7).same s8⟩⟩⟩))
   ·rw[e,decide_eq_false (show¬V.str w0=V.non fromλz=>nomatch z)];refine iteT ?_;refine qn (a1 λm hm an=>?_) H6 (sm.trans s7);have:=qR1 a3 (qIF hm) an;subst this;have:=(qMM hm).2.2;rw[ef,e] at this;cases this
 ·refineλσ Hc a6=>opq λaw a7=>?_;obtain⟨u,lay,ms,v6,rfl,sm,k,ll,R,ed,gm,MM⟩:=a6;refine a7 ?_;rw[lx,O1] at ed;exact xR rfl (qy ms lay ed R u Hc sm k ll)
theorem sc_Ljudged:FnScope ["_law_net_here","_law_wides","_law_sizes","_law_asked_here","_law_thing","_law_layout","_law_known","_law_move"] ["_law_net_here","_law_wides","_law_sizes","_law_asked_here","_law_thing"] (qAA qGU):=qBU
theorem ok_Ljudged (F:Fun K "_law_judged" "_law_judged" qGU f fd) (a6:Clb P w K mg base 5 qRD qV4 "_law_led" ["_law_net_here","_law_wides","_law_sizes","_law_plan"] qT9) (a8:Clb P w K mg base 1 qI4 qPX "_law_has_all" ["_law_layout","_law_asked_here"] qEL) (ab:Clb P w K mg base 4 qFH qG1 "_law_same" ["_law_found","_law_due"] (spS 4)) (qB1:mg "len" = none):FnOk P w K mg base CX0 6 f fd ["_law_net_here","_law_wides","_law_sizes","_law_asked_here","_law_thing"] qNQ:=by
 refine F.okA sc_Ljudged λah A a9 s H vs Q E hr h=>?_;obtain⟨a,wd,sz,t,T,l,Ae,j,g,Ad,n,ds,sv,dv,rfl,TK,gt,la,⟨gT,Dl,Dv⟩,ag,q⟩:=h;obtain⟨m,l2,xs,ad,rfl,e1,e2,gl,lx,el⟩:=qN7 Dl rfl
 injection e1 with e1
 injection e2 with e2
 subst e1 e2;refine⟨_,(qA3 (qB8 (qAF qCL (qAT qAM (pv 4) qA5 (λ_ _=>rfl)) qAZ (qAL _)) (qA3 (qAE (i:=5) sc_Ljudged.nd rfl (F3 rfl) (qAP a6 hr rfl (qA0 (pv 0) (qA0 (pv 1) (qA0 (pv 2) (qA0 (qAT qAM (pv 4) qA5 (λ_ _=>rfl)) qA2)))))) (qA3 (qB8 (PW.pt (qHV (qCY (qGV (pv 5))) (qG6 (qDL (qCA (qAP a8 hr rfl (qA0 (pv 5) (qA0 (pv 3) qA2)))))))) (qA6 (qAD qDW)) qAH) (qA6 (qAD (qAP ab hr rfl (qA0 (qAT qAM (pv 4) qA5 (λ_ _=>rfl)) (qA0 (qA8 qA9 rfl qB1 qB7 (qA0 (qE5 rfl (lcs (own:=["_law_move"]) (fv:=[]) (by kernel_rfl)) (qBW (qAT qAM (pv 4) qA5 (λ_ _=>rfl))) (λz1=>qCC 0) (λz1=>(qF8 (qAF qCL (qAT (qMX (K:=K) rfl) (pv 0) qA5 (λ_ _=>rfl)) qAZ (qAL _)))) (λz1=>(pv 0))) qA2)) qA2))))))) qAH) qTL),?_⟩
 try dsimp only[Cx.nox,Cx.wish,cxOf]
 refine cut λN0 ae=>?_;refine xR rfl (xD T _ _ _ rfl ⟨rfl,Ac0 gT,rfl,rfl,xR rfl ?_⟩);rw[decide_eq_true (rfl:V.str (B1 "plan")=V.str (B1 "plan"))];refine iteT ?_;refine xR rfl (xR rfl (xR rfl (xR rfl (xD T _ _ _ rfl ⟨rfl,Ac0 gT,rfl,xJ a wd sz l Ae j g m xs ds rfl ⟨TK,gl,lx,el,λms s ed R r H2 s2 gr ls=>?_,λno H2 s2=>?_⟩⟩))))
 ·refine cut λN1 d=>d _ _ (cut λN2 a0=>?_);refine xR rfl (xR rfl ?_);rw[decide_eq_false (show¬V.ref r=V.non fromλz=>nomatch z)];refine iteF ?_;refine xR rfl (xR rfl (xD r t s Ad rfl ⟨gr,s2 _ _ gt,la,λH3 u=>(xR rfl ?_)⟩));have u:=s2.trans u;by_cases ha:∀x∈Ad,some x∈s
  ·rw[decide_eq_true ha];refine iteF (a0 _ _ ?_);have a5:=u _ _ gT;obtain⟨l',rs,e,a4,MM⟩:=qRJ (ms:=ms) (by rw[<- ed];exact Dl.same u)
   injection e with e
   subst e;have a7:=C5 MM;have af:ds.length=ms.length:=by rw[ed,A0]
   refine xR rfl (xD T _ _ _ rfl ⟨rfl,Ac0 a5,rfl,xR rfl (xD T _ _ _ rfl ⟨rfl,Ac0 a5,rfl,l,rfl,⟨_,Ab2 a4⟩,λp hp=>?_⟩)⟩);refine qE7 (p:=p) (a:=l) (xs:=rs.map V.ref) (λi σ o=>∃(v:Option V) (fs:List Addr),σ=[v]/\Same H3 o/\o p=some (.lst (fs.map V.ref))/\fs.length=((ms.take i).filter λm=>m.dk).length) ?_ ?_ ?_ ?_
   ·exact⟨none,[],rfl,qA4 hp _,qA1,rfl⟩
   ·rintro i σ o hi ⟨v,fs,rfl,sm,_⟩;exact Ab2 (sm _ _ a4)
   ·refineλi x σ o hx a2=>opq λai a1=>?_;obtain⟨v,fs,rfl,sm,c,lf⟩:=a2;obtain⟨mv,aa,rfl⟩:=qC3 hx;obtain⟨m,hm,hH⟩:=qAN MM aa;refine a1 ?_;have hi:=(B5.mp hm).1;have lk:=qN0 (p:=λm:Mo=>m.dk) (l:=ms) (i:=i);refine xR rfl (xD mv _ _ _ rfl ⟨rfl,Ac0 (sm _ _ hH),show atI m.vs 0=some (.str (match m.dk with|true=>"do" |false=>"clear")) from by unfold Mo.vs;cases m.dk<;>rfl,rfl,xR rfl ?_⟩)
    rw[qDT hm];cases hdk:m.dk with
    |true=>
     rw[decide_eq_true (rfl:V.str (B1 "do")=V.str (B1 "do"))]
     refine xR rfl ⟨_,c,qAQ (by rw[A0];lia),_,fs++[mv],rfl,qAK sm hp,by rw[qA1,qBF],?_⟩
     rw[if_pos rfl,A6,A6,lf];rfl
    |false=>
     rw[decide_eq_false (show¬V.str (B1 "clear")=V.str (B1 "do") fromλz=>qC9 (V.str.inj z))]
     refine xB _ fs rfl ⟨sm,c,?_⟩;rw[if_neg B6,M4,lf]
   refineλσ o a3=>opq λac y=>?_;obtain⟨v,fs,rfl,sm,c,lf⟩:=a3;refine y ?_;rw[A0,a7,qIS rfl] at lf;refine xB p _ rfl ⟨.inl (Ab2 c),?_⟩;have e:(((fs.map V.ref).length:Nat):Int)=(dosO ms:Int):=by rw[A0,lf];rfl
   rw[e];have D0:DatN o 0 (.int (dosO ms:Int)) (.int (dosO ms:Int)):=.inr (.inr (.inl ⟨_,rfl,rfl⟩));refine⟨sv,.int (dosO ms:Int),0,0,dv,.int (dosO ms:Int),rfl,Dv,D0,.inl (.inl ⟨_,rfl⟩),λb H4 s4 ib=>?_⟩;refine q b H4 ((u.trans sm).trans s4) (ib.trans ⟨λz=>⟨ms,ed,⟨s,R,ha⟩,z⟩,λ⟨k,e',⟨s',R',_⟩,z⟩=>?_⟩);obtain⟨e5,_⟩:=qME R R' (ed.symm.trans e');rw[e5];exact z
  ·rw[decide_eq_false ha];refine iteT ?_;refine q false H3 u ⟨λz=>(nomatch z),λ⟨k,e',⟨s',R',h'⟩,_⟩=>?_⟩;obtain⟨_,rfl⟩:=qME R R' (ed.symm.trans e');exact absurd h' ha
 ·refine cut λN1 d=>d _ _ (cut λN2 a0=>?_);refine xR rfl (xR rfl ?_);rw[decide_eq_true (rfl:V.non=V.non)];refine iteT ?_;exact q false H2 s2 ⟨λz=>(nomatch z),λ⟨k,e',⟨s',R',_⟩,_⟩=>absurd R' (no k s' e')⟩
theorem sc_Lshown_right:FnScope ["_law_net_here","_law_wides","_law_sizes","_law_asked_here","_law_thing","_law_found"] ["_law_net_here","_law_wides","_law_sizes","_law_asked_here","_law_thing"] (qAA qCQ):=qBU
theorem ok_Lshown_right (F:Fun K "_law_shown_right" "_law_shown_right" qCQ f fd) (qBR:Clb P w K mg base 6 qD9 qG9 "shows_there" ["net","wides","sizes","asked","thing"] qM8) (k:Clb P w K mg base 6 qKB qSP "_law_judged" ["_law_net_here","_law_wides","_law_sizes","_law_asked_here","_law_thing"] qNQ) (qAC:mg "isinstance" = none) (qG5:mg "bool" = none):FnOk P w K mg base CX0 7 f fd ["_law_net_here","_law_wides","_law_sizes","_law_asked_here","_law_thing"] qQC:=by
 refine F.okA sc_Lshown_right λa0 A m s H vs Q E x h=>?_;obtain⟨a,wd,u,t,T,l,Ae,c,d,z,n,ds,sv,dv,rfl,TK,p,la,y,g,fs,q⟩:=h;refine⟨_,(qA3 (qAE (i:=5) sc_Lshown_right.nd rfl (F3 rfl) (qAP qBR x rfl (qA0 (pv 0) (qA0 (pv 1) (qA0 (pv 2) (qA0 (pv 3) (qA0 (pv 4) qA2))))))) (qA6 (qAD (qF9 (qA8 qAR rfl qAC qAG (qA0 (pv 5) (qA0 (qBQ (v:=.ty "bool") rfl qG5 qND rfl) qA2))) (qG7 (qCN qCL (pv 5) (qAP k x rfl (qA0 (pv 0) (qA0 (pv 1) (qA0 (pv 2) (qA0 (pv 3) (qA0 (pv 4) qA2)))))) (qAL _))))))),?_⟩
 try dsimp only[Cx.nox,Cx.wish,cxOf]
 refine xR rfl (xR rfl (xR rfl (xR rfl (xR rfl (xK a wd u t Ae c d z (.ref T) _ _ rfl ⟨TK,p,la,y.dat,⟨rfl,λ_=>⟨fs,g⟩⟩,λb H1 j r=>?_⟩)))));rw[qLL] at r;refine xR rfl ⟨.bl b,"bool",xB _ true rfl ⟨.bl b,rfl,xR rfl ?_⟩⟩;rw[if_pos rfl];refine xR rfl (xR rfl (xR rfl (xR rfl (xR rfl (xR rfl (xN a wd u t T l Ae c d z n ds sv dv rfl ⟨TK.same j,j _ _ p,la,y.same j,g,λb2 H2 s2 o=>⟨rfl,?_⟩⟩))))));have e:b=b2:=R4.mpr (r.trans o.symm);subst e;rw[decide_eq_true rfl];exact q H2 (j.trans s2)
theorem sc_Lbent:FnScope ["_law_state","_law_net_here","_law_wides","_law_sizes","_law_told","_law_plan","_law_steps","_law_at","_law_way","_law_move","_law_odd","_law_layout","_law_some","_law_gone"] ["_law_state","_law_net_here","_law_wides","_law_sizes","_law_told"] (qAA qMD):=qBU
theorem ok_Lbent (F:Fun K "_law_bent" "_law_bent" qMD f fd) (qAV:Clb P w K mg base 1 qEW qES "_law_take" ["_law_state","_law_many"] qIB) (d4:Clb P w K mg base 5 qRD qV4 "_law_led" ["_law_net_here","_law_wides","_law_sizes","_law_plan"] qT9) (d7:Clb P w K mg base 1 qE2 qHC "_law_all_moves" ["_law_net_here","_law_sizes"] qPG) (db:Clb P w K mg base 1 qJ2 qOV "_law_fault" ["_law_net_here","_law_wides","_law_sizes","_law_layout","_law_move"] (spTh false)) (qDK:mg "list" = none) (qB1:mg "len" = none) (qHT:mg "int" = none) (qG5:mg "bool" = none):FnOk P w K mg base CX0 6 f fd ["_law_state","_law_net_here","_law_wides","_law_sizes","_law_told"] qTC:=by
 refine F.okA sc_Lbent λdx A da s H vs Q E hr h=>?_;obtain⟨d,c,a,wd,sz,T,p,t,ns,Ae,a4,a2,rs,ms,s0,rfl,S,tb,TK,gT,gp,MM,R,lm,q⟩:=h;have aq:=hr.units0;have tb:t<=1000000000-1000:=tb;refine⟨_,(qA3 (qAE (i:=5) sc_Lbent.nd rfl (F3 rfl) (qAJ qFL rfl qDK qFN (qA0 (qAT qAM (pv 4) qA5 (λ_ _=>rfl)) qA2))) (qA3 (qAE (i:=6) sc_Lbent.nd rfl (F3 rfl) (qAT qAM (pv 4) qA5 (λ_ _=>rfl))) (qA3 (qAE (i:=7) sc_Lbent.nd rfl (F3 rfl) (qAP qAV hr rfl (qA0 (pv 0) (qA0 (qAO qBT (qA8 qA9 rfl qB1 qB7 (qA0 (pv 5) qA2)) qA5) qA2)))) (qA3 (qAE (i:=8) sc_Lbent.nd rfl (F3 rfl) (qAP qAV hr rfl (qA0 (pv 0) (qA0 qA5 qA2)))) (qA3 (qB8 (PW.pt (qNX (qAF qO6 (pv 8) qA5 (qAL _)) (qJL (qAF (qFA aq) (pv 5) (qBH qA2) (qAL _))))) (qA3 (qAE (i:=7) sc_Lbent.nd rfl (F3 rfl) (qAP qAV hr rfl (qA0 (pv 0) (qA0 (qA8 qA9 rfl qB1 qB7 (qA0 (pv 5) qA2)) qA2)))) (qA3 (qAE (i:=9) sc_Lbent.nd rfl (F3 rfl) (qAT qCO (pv 5) (pv 7) (λ_ _=>rfl))) (qA3 (qAE (i:=10) sc_Lbent.nd rfl (F3 rfl) (qBH (qA0 (qAJ qFL rfl qDK qFN (qA0 (pv 9) qA2)) (qA0 (qAO qDP (qBS (qA0 qAZ qA2)) (qAY qF7 (pv 9) (qB3 qA5) qBK)) (qA0 (qAO qDP (pv 9) (qBS (qA0 qA5 qA2))) (qA0 (qAY qF7 (pv 9) qBK (qB3 qA5)) (qA0 (qAO qDP (qBS (qA0 (qAT qAM (pv 9) qA5 (λ_ _=>rfl)) (qA0 (qCN qO6 (qAT qAM (pv 9) qA5 (λ_ _=>rfl)) qA5 (qAL _)) qA2))) (qAY qF7 (pv 9) (qB3 qA5) qBK)) (qA0 qDN (qA0 (qAY qF7 (pv 9) (qB3 qA5) qBK) qA2))))))))) (qA6 (qLO (qAT qCO (pv 10) (qAP qAV hr rfl (qA0 (pv 0) (qA0 qA5 qA2))) (λ_ _=>rfl)) (qQT (pv 5) (pv 7) qIT)))))) (qA6 (qB8 (qAF qU2 (pv 8) qA5 (qAL _)) (qA3 (qAE (i:=11) sc_Lbent.nd rfl (A53 rfl) (qAP d4 hr rfl (qA0 (pv 1) (qA0 (pv 2) (qA0 (pv 3) (qA0 (qAY qCM (pv 5) qBK (qB3 (pv 7))) qA2)))))) (qA3 (qPP (i:=12) sc_Lbent.nd rfl rfl rfl (lcs (own:=["_law_move"]) (fv:=[1,2,3,11]) (by kernel_rfl)) (qBW (qAP d7 hr rfl (qA0 (pv 1) (qA0 (pv 3) qA2)))) (λz1=>qCC 0) (λz1=>(qF8 (qCY (qGV (qAP db hr rfl (qA0 (pv 1) (qA0 (pv 2) (qA0 (pv 3) (qA0 (pv 4) (qA0 (pv 0) qA2)))))))))) (λz1=>(pv 0)) (by kernel_rfl)) (qA6 (qB8 (qAF (qFA aq) (pv 12) (qBH qA2) (qAL _)) (qA3 (qAE (i:=9) sc_Lbent.nd rfl (F3 rfl) (qAT qCO (pv 12) (qAP qAV hr rfl (qA0 (pv 0) (qA0 (qA8 qA9 rfl qB1 qB7 (qA0 (pv 12) qA2)) qA2))) (λ_ _=>rfl))) (qA3 (qEP (qO0 M5 PySem.F.slot_list_insert PySem.F.type_list_insert qU8 (pv 5) (qA0 (pv 7) (qA0 (pv 9) qA2)))) (qA6 (qAE (i:=6) sc_Lbent.nd rfl (F3 rfl) (qAO qBT (pv 6) (qAJ qHK rfl qHT qLZ (qA0 (qCN qCL (qAT qAM (pv 9) qA5 (λ_ _=>rfl)) qAZ (qAL _)) qA2))))))) qAH)))) (qA6 (qB8 (qAF qCL (pv 8) qA5 (qAL _)) (qA3 (qAE (i:=13) sc_Lbent.nd rfl (F3 rfl) (qAY qCM (pv 5) (qB3 (pv 7)) (qB3 (qAO qBT (pv 7) qA5)))) (qA3 (qAE (i:=5) sc_Lbent.nd rfl (F3 rfl) (qAO qG8 (qAY qCM (pv 5) qBK (qB3 (pv 7))) (qAY qCM (pv 5) (qB3 (qAO qBT (pv 7) qA5)) qBK))) (qA6 (qAE (i:=6) sc_Lbent.nd rfl (F3 rfl) (qAO qDO (pv 6) (qA8 qA9 rfl qB1 qB7 (qA0 (qE5 rfl (lcs (own:=["_law_move"]) (fv:=[]) (by kernel_rfl)) (qBW (pv 13)) (λz2=>qCC 0) (λz2=>(qF8 (qAF qCL (qAT (qMX (K:=K) rfl) (pv 0) qA5 (λ_ _=>rfl)) qAZ (qAL _)))) (λz2=>(pv 0))) qA2))))))) (qA6 (qB8 (qAF qCL (pv 8) qA5 (qAL _)) (qA6 (qAE (i:=5) sc_Lbent.nd rfl (F3 rfl) (qAO qG8 (qAO qG8 (qAY qCM (pv 5) qBK (qB3 (pv 7))) (qAO qU1 (qAY qCM (pv 5) (qB3 (pv 7)) (qB3 (qAO qBT (pv 7) qA5))) qA5)) (qAY qCM (pv 5) (qB3 (qAO qBT (pv 7) qA5)) qBK)))) (qA6 (qB8 (qAF qCL (pv 8) qA5 (qAL _)) (qA6 (qAE (i:=5) sc_Lbent.nd rfl (F3 rfl) (qAO qG8 (qAO qG8 (qAY qCM (pv 5) qBK (qB3 (pv 7))) (qTW (qAY qCM (pv 5) (qB3 (pv 7)) (qB3 (qAO qBT (pv 7) qA5))) (qB3 (qTV qNN qA5)))) (qAY qCM (pv 5) (qB3 (qAO qBT (pv 7) qA5)) qBK)))) (qA6 (qB8 (PW.pt (qNX (qAF qCL (pv 8) qA5 (qAL _)) (qJL (qAF (qFA aq) (pv 5) (qBH qA2) (qAL _))))) (qA3 (qAE (i:=7) sc_Lbent.nd rfl (F3 rfl) (qAP qAV hr rfl (qA0 (pv 0) (qA0 (qA8 qA9 rfl qB1 qB7 (qA0 (pv 5) qA2)) qA2)))) (qA6 (qLO (qAO qDP (qAY qF7 (qAT qCO (pv 5) (pv 7) (λ_ _=>rfl)) qBK (qB3 (qTV qNN qA5))) (qBS (qA0 (qAO qDO (qAP qAV hr rfl (qA0 (pv 0) (qA0 (qAO qBT (qA8 qA9 rfl qB1 qB7 (qA0 (pv 3) qA2)) qA5) qA2))) qA5) qA2))) (qQT (pv 5) (pv 7) qIT)))) (qA6 (qB8 (PW.pt (qNX (qAF qCL (pv 8) qA5 (qAL _)) (qJL (qAF (qFA aq) (pv 5) (qBH qA2) (qAL _))))) (qA3 (qAE (i:=7) sc_Lbent.nd rfl (F3 rfl) (qAP qAV hr rfl (qA0 (pv 0) (qA0 (qA8 qA9 rfl qB1 qB7 (qA0 (pv 5) qA2)) qA2)))) (qA6 (qLO (qAO qDP (qBS (qA0 (qAT qAM (qAT qCO (pv 5) (pv 7) (λ_ _=>rfl)) qA5 (λ_ _=>rfl)) (qA0 (qAO qDO (qAP qAV hr rfl (qA0 (pv 0) (qA0 (qAO qBT (qA8 qA9 rfl qB1 qB7 (qA0 (pv 1) qA2)) qA5) qA2))) qA5) qA2))) (qAY qF7 (qAT qCO (pv 5) (pv 7) (λ_ _=>rfl)) (qB3 qA5) qBK)) (qQT (pv 5) (pv 7) qIT)))) (qA6 (qAE (i:=6) sc_Lbent.nd rfl (F3 rfl) (qAT qCO (qBH (qA0 (qAO qBT (pv 6) qA5) (qA0 (qAO qDO (pv 6) qA5) (qA0 (qAJ qSS rfl qG5 qND (qA0 (pv 6) qA2)) (qA0 qA5 qA2))))) (qAP qAV hr rfl (qA0 (pv 0) (qA0 qA5 qA2))) (λ_ _=>rfl))))))))))))))))) (qA6 (qAD (qBS (qA0 qAZ (qA0 (pv 5) (qA0 (pv 6) qA2))))))))))),?_⟩
 try dsimp only[Cx.nox,Cx.wish,cxOf]
 have n6:=TK.n6;have k5:=TK.k5;have k1:=TK.k1;have n1:=TK.n1;have cg:=C5 MM;have dr:dosO ms<=ms.length:=T1 ..;refine xR rfl (xD T _ _ _ rfl ⟨rfl,Ac0 gT,rfl,xB p _ rfl ⟨.inl (Ab2 gp),λl hl=>?_⟩⟩);have B:BK H (Ag H l (.lst (rs.map V.ref))) d c a wd sz l t ns Ae a4 a2 rs ms:=⟨S.same (qA4 hl _),.of_same (qA4 hl _),qA1,MosL.same MM (qA4 hl _),TK.same (qA4 hl _),(λz=>by rw[z,S.dict] at hl;cases hl),(λz=>by rw[z,S.list] at hl;cases hl)⟩
 have az:=qA4 hl (.lst (rs.map V.ref)) _ _ gT;generalize Ag H l (.lst (rs.map V.ref))=H1 at B az ⊢;refine xR rfl (xD T _ _ _ rfl ⟨rfl,Ac0 az,rfl,?_⟩);refine xR rfl (xR rfl (xB l _ rfl ⟨.inl (Ab2 B.gl),xB _ _ rfl ⟨rfl,xE d c t ns _ rfl ⟨B.st,(by show t<=1000000000;lia),(by rw[A0];lia),(by rw[A0];lia),λdg dd H2 a0 a1 S2 K2=>?_⟩⟩⟩))
 obtain⟨u,rfl⟩:=Z4 a0;rw[A0,cg] at a1;have B2:=B.take S2 K2;refine xR rfl ⟨d,c,t+1,xB dd 10 rfl ⟨S2,(by show t+1<=1000000000;lia),by decide,by decide,λa3 dw H3 w0 w1 S3 K3=>?_⟩⟩
 have B:=B2.take S3 K3;clear S S2 S3 TK gT gp MM az K2 K3 B2;have a6:∀m∈ms,m∈qBN (Ae.length:Int) (a2.length:Int):=qTI R;refine cut λN0 c6=>c6 _ _ (cut λN1 b6=>?_);have ab:∀(Hc:Hp) (l':Addr) (xs:List V) (sv:V) (t':Int) (ns':List Int) (v7 v8 v9 v10 v11 v12 v13:Option V),StAt Hc d c t' ns'->t<=t'->t'<=t+10->Keep d c H Hc->Hc l'=some (.lst xs)->AllIt Hc xs->xs.length<=16810->LfV sv->
   N1 [some (.ref d),some (.ref a),some (.ref wd),some (.ref sz),some (.ref T),some (.ref l'),some sv,v7,v8,v9,v10,v11,v12,v13] Hc:=by
  intro Hc l' xs sv t' ns' v7 v8 v9 v10 v11 v12 v13 S' h1 h2 K' g A' lx ls;refine b6 _ _ ?_;refine xR rfl (xR rfl ⟨(by show 3<=B75;decide),λT' cl=>?_⟩)
  have sT:=qA4 cl (.tup [.str "plan",.ref l',sv]);exact q T' l' xs sv t' ns' _ (S'.same sT) h1 h2 (K'.trans (.of_same sT)) qA1 (sT _ _ g) (A'.same sT) lx ls
 clear q b6;have fs:(dosO ms:Int)<=16806:=by lia
 have e1:(u:Int)+1=((u+1:Nat):Int):=by lia
 have e2:(u:Int)+2=((u+2:Nat):Int):=by lia
 refine qQ0 λU0 bz=>?_;have E0:∀Hc ns',BK H Hc d c a wd sz l (t+1+1) ns' Ae a4 a2 rs ms->U0 [some (.ref d),some (.ref a),some (.ref wd),some (.ref sz),some (.ref T),some (.ref l),some (.int (dosO ms:Int)),some (.int (u:Int)),some (.int a3),none,none,none,none,none] Hc:=by
  refineλHc ns' B=>bz _ _ ?_;refine qQ0 λU1 d1=>?_;have E1:∀Hc ns',BK H Hc d c a wd sz l (t+1+1) ns' Ae a4 a2 rs ms->U1 [some (.ref d),some (.ref a),some (.ref wd),some (.ref sz),some (.ref T),some (.ref l),some (.int (dosO ms:Int)),some (.int (u:Int)),some (.int a3),none,none,none,none,none] Hc:=by
   refineλHc ns' B=>d1 _ _ ?_;refine qQ0 λU2 c1=>?_;have E2:∀Hc ns',BK H Hc d c a wd sz l (t+1+1) ns' Ae a4 a2 rs ms->U2 [some (.ref d),some (.ref a),some (.ref wd),some (.ref sz),some (.ref T),some (.ref l),some (.int (dosO ms:Int)),some (.int (u:Int)),some (.int a3),none,none,none,none,none] Hc:=by
    refineλHc ns' B=>c1 _ _ ?_;refine qQ0 λU3 cv=>?_;have E3:∀Hc ns',BK H Hc d c a wd sz l (t+1+1) ns' Ae a4 a2 rs ms->U3 [some (.ref d),some (.ref a),some (.ref wd),some (.ref sz),some (.ref T),some (.ref l),some (.int (dosO ms:Int)),some (.int (u:Int)),some (.int a3),none,none,none,none,none] Hc:=by
     refineλHc ns' B=>cv _ _ ?_;refine qQ0 λU4 bx=>?_;have E4:∀Hc ns',BK H Hc d c a wd sz l (t+1+1) ns' Ae a4 a2 rs ms->U4 [some (.ref d),some (.ref a),some (.ref wd),some (.ref sz),some (.ref T),some (.ref l),some (.int (dosO ms:Int)),some (.int (u:Int)),some (.int a3),none,none,none,none,none] Hc:=by
      refineλHc ns' B=>bx _ _ ?_;refine qQ0 λU5 cw=>?_;have E5:∀Hc ns',BK H Hc d c a wd sz l (t+1+1) ns' Ae a4 a2 rs ms->U5 [some (.ref d),some (.ref a),some (.ref wd),some (.ref sz),some (.ref T),some (.ref l),some (.int (dosO ms:Int)),some (.int (u:Int)),some (.int a3),none,none,none,none,none] Hc:=by
       refineλHc ns' B=>cw _ _ ?_;refine qQ0 λU6 cx=>?_;have E6:∀Hc ns',BK H Hc d c a wd sz l (t+1+1) ns' Ae a4 a2 rs ms->U6 [some (.ref d),some (.ref a),some (.ref wd),some (.ref sz),some (.ref T),some (.ref l),some (.int (dosO ms:Int)),some (.int (u:Int)),some (.int a3),none,none,none,none,none] Hc:=by
        refineλHc ns' B=>cx _ _ ?_;refine xR rfl (xB _ _ rfl ⟨rfl,xR rfl (xB _ _ rfl ⟨rfl,xR rfl (.inl (xR rfl ⟨(by show 4<=B75;decide),λe he=>?_⟩))⟩)⟩)
        have ne:=B.ne he;obtain⟨G1,n,s1,g1⟩:=qAI he (.lst [.int ((dosO ms:Int)+1),.int ((dosO ms:Int)-1),.bl ((dosO ms:Int) != 0),.int 0]);rw[n];clear n;have B:=B.same s1;refine xR rfl (xE d c _ ns' 4 rfl ⟨B.st,(by show t+1+1<=1000000000;lia),by decide,by decide,λk aj H5 k0 k1 S5 K5=>?_⟩)
        have B:=B.take S5 K5;have ge:=K5 _ _ g1 ne.1 ne.2.1;obtain⟨y,hy,ay⟩:=qYE k0 (show k<(([.int ((dosO ms:Int)+1),.int ((dosO ms:Int)-1),.bl ((dosO ms:Int) != 0),.int 0]:List V).length:Int) from k1);refine xD e _ k y rfl ⟨rfl,Ab2 ge,ay,?_⟩;refine ab H5 l _ y _ aj _ _ _ _ _ _ _ B.st (by lia) (by lia) B.keep B.gl (B.all a6 λr hr=>hr) (by rw[A0];lia) ?_
        rcases C0.mp hy with rfl|hy
        ·exact qCV (by lia) (by lia)
        rcases C0.mp hy with rfl|hy
        ·exact qCV (by lia) (by lia)
        rcases C0.mp hy with rfl|hy
        ·exact qbL
        rw[B3.mp hy];exact qCV (by lia) (by lia)
       refine xR rfl ⟨rfl,xR rfl ?_⟩;by_cases cc:a3=6
       rotate_left
       ·rw[decide_eq_false (show¬V.int a3=V.int 6 fromλz=>cc (V.int.inj z))];exact iteF (iteF (E6 _ _ B))
       rw[decide_eq_true (show V.int a3=V.int 6 by rw[cc])]
       refine iteT ?_;refine xR rfl ⟨(by show 0<=B75;decide),λe0 ao=>?_⟩
       obtain⟨G2,n,s2,g2⟩:=qAI ao (.lst []);rw[n];clear n;have B:=B.same s2;refine xC l e0 _ rfl ⟨rfl,Ab2 B.gl,Ab2 g2,xR rfl ?_⟩;by_cases re:rs=[]
       ·rw[show(rs.map V.ref).isEmpty=true by rw[re];rfl]
        exact iteF (E6 _ _ B)
       have rl:1<=rs.length:=m5 λz=>re (Q1 z);rw[show(rs.map V.ref).isEmpty=false from by cases hrs:rs with|nil=>exact absurd hrs re|cons _ _=>rfl]
       refine iteT ?_;refine xR rfl (xR rfl (xB l _ rfl ⟨.inl (Ab2 B.gl),xE d c _ _ _ rfl ⟨B.st,(by show t+1+1<=1000000000;lia),(by rw[A0];lia),(by rw[A0];lia),λk aj H5 k0 k1 S5 K5=>?_⟩⟩))
       rw[A0] at k1;have B:=B.take S5 K5;obtain⟨j,rfl⟩:=Z4 k0;obtain⟨mv,am,m,hm,gm⟩:=B.at k0 k1;obtain⟨lf,l3,l2⟩:=qWS (a6 m hm) n6 k5;obtain⟨ah,i0,ad,lw,al,ed⟩:=qJR (a6 m hm) n6 k5;have ix:=qMY (xs:=rs.map V.ref) (j:=j) (by rw[A0];lia)
       obtain⟨ra,hA,NL⟩:=id B.tk.net_;have dc:ra.length=Ae.length:=C5 NL;refine xR rfl (xR rfl ⟨l,_,(j:Int),xR rfl ⟨rfl,Ab2 B.gl,am,mv,_,_,xR rfl ⟨rfl,Ac0 gm,ad,xR rfl (xR rfl ⟨a,xR rfl ⟨.inr (Ac0 hA),_,xR rfl ⟨rfl,d,c,_,_,xR rfl ⟨B.st,(by show t+1+1+1<=1000000000;lia),(by rw[A0];lia),(by rw[A0];lia),λk2 bd H6 q0 q1 S6 K6=>?_⟩⟩⟩⟩)⟩⟩⟩)
       rw[A0,dc] at q1;have gm:=K6 _ _ gm (B.st.tup gm).1 (B.st.tup gm).2;have B:=B.take S6 K6;refine xB _ _ rfl ⟨rfl,(by show 2<=B75;decide),λu1 b5=>?_⟩
       obtain⟨G3,n,s3,g3⟩:=qAI b5 (.tup [.str ah,.int (k2-1)]);rw[n];clear n;have B:=B.same s3;have gm:=s3 _ _ gm;have gu:=g3;refine xR rfl (xR rfl ⟨l,_,(j:Int),xR rfl ⟨rfl,Ab2 B.gl,am,xR rfl ⟨mv,xR rfl ⟨gm,λu2 H7 s7 g7=>?_⟩⟩⟩⟩);have B:=B.same s7;have gm:=s7 _ _ gm;have gu:=s7 _ _ gu;have cm:=qHG (xs:=m.vs) (lo:=some 2) (hi:=none);refine xD u1 u2 _ _ rfl ⟨rfl,Ac0 gu,Ac0 g7,.inl ⟨by simp,gu⟩,F5 (qAQ (by show 2+_<=_;lia)),λy H8 s8 g8=>?_⟩
       have B:=B.same s8;have gm:=s8 _ _ gm;have gu:=s8 _ _ gu;have g7:=s8 _ _ g7;refine xR rfl (xR rfl (xD l _ (j:Int) j rfl ⟨rfl,B.gl,ix,?_⟩));obtain⟨S9,K9,M9⟩:=B.put hl (.lst ((rs.map V.ref).set j (.ref y)));refine ab _ l _ _ _ _ _ _ _ _ _ _ _ S9 (by lia) (by lia) K9 qA1 (λx hx=>?_) (by rw[W2,A0];lia) (qCV (by lia) (by lia))
       rcases X7 hx with hx|rfl
       ·exact qJQ M9 a6 n6 k5 (λr hr=>hr) x hx
       ·refine qH3 (b:=true) (qC2 g8 B.gl λxs z=>nomatch z) (by rw[A6];show 2+_<=6;lia) λx hx=>?_
        rcases B7.mp hx with hx|hx
        ·rcases C0.mp hx with rfl|hx
         ·exact lw
         rw[B3.mp hx];exact qCV (by lia) (by lia)
        ·exact lf x (cm.1 x hx)
      refine xR rfl ⟨rfl,xR rfl ?_⟩;by_cases cc:a3=5
      rotate_left
      ·rw[decide_eq_false (show¬V.int a3=V.int 5 fromλz=>cc (V.int.inj z))];exact iteF (iteF (E5 _ _ B))
      rw[decide_eq_true (show V.int a3=V.int 5 by rw[cc])]
      refine iteT ?_;refine xR rfl ⟨(by show 0<=B75;decide),λe0 ao=>?_⟩
      obtain⟨G4,n,s4,g4⟩:=qAI ao (.lst []);rw[n];clear n;have B:=B.same s4;refine xC l e0 _ rfl ⟨rfl,Ab2 B.gl,Ab2 g4,xR rfl ?_⟩;by_cases re:rs=[]
      ·rw[show(rs.map V.ref).isEmpty=true by rw[re];rfl]
       exact iteF (E5 _ _ B)
      have rl:1<=rs.length:=m5 λz=>re (Q1 z);rw[show(rs.map V.ref).isEmpty=false from by cases hrs:rs with|nil=>exact absurd hrs re|cons _ _=>rfl]
      refine iteT ?_;refine xR rfl (xR rfl (xB l _ rfl ⟨.inl (Ab2 B.gl),xE d c _ _ _ rfl ⟨B.st,(by show t+1+1<=1000000000;lia),(by rw[A0];lia),(by rw[A0];lia),λk aj H5 k0 k1 S5 K5=>?_⟩⟩))
      rw[A0] at k1;have B:=B.take S5 K5;obtain⟨j,rfl⟩:=Z4 k0;obtain⟨mv,am,m,hm,gm⟩:=B.at k0 k1;obtain⟨lf,l3,l2⟩:=qWS (a6 m hm) n6 k5;obtain⟨ah,i0,ad,lw,al,ed⟩:=qJR (a6 m hm) n6 k5;have ix:=qMY (xs:=rs.map V.ref) (j:=j) (by rw[A0];lia)
      refine xR rfl (xR rfl ⟨l,_,(j:Int),xR rfl ⟨rfl,Ab2 B.gl,am,xR rfl (xR rfl ⟨mv,xR rfl ⟨gm,λu1 H6 s6 g6=>?_⟩⟩)⟩⟩);have B:=B.same s6;have gm:=s6 _ _ gm;have cm:=qHG (xs:=m.vs) (lo:=none) (hi:=some (-1));have au:(((a2.map V.int).length:Nat):Int)=(a2.length:Int):=by rw[A0]
      refine xR rfl (xR rfl (xB sz _ rfl ⟨.inr (Ac0 B.tk.sizes_),xB _ _ rfl ⟨rfl,xE d c _ _ _ rfl ⟨B.st,(by show t+1+1+1<=1000000000;lia),(by rw[au];lia),(by rw[au];lia),λk2 bd H7 q0 q1 S7 K7=>?_⟩⟩⟩))
      rw[au] at q1;have gm:=K7 _ _ gm (B.st.tup gm).1 (B.st.tup gm).2;have g6:=K7 _ _ g6 (B.st.tup g6).1 (B.st.tup g6).2;have B:=B.take S7 K7;refine xB _ _ rfl ⟨rfl,(by show 1<=B75;decide),λu2 d0=>?_⟩
      obtain⟨G5,n,s5,g5⟩:=qAI d0 (.tup [.int (k2-1)]);rw[n];clear n;have B:=B.same s5;have gm:=s5 _ _ gm;have g6:=s5 _ _ g6;have gu:=g5;refine xD u1 u2 _ _ rfl ⟨rfl,Ac0 g6,Ac0 gu,.inr ⟨by simp,gu⟩,F5 (qAQ (by show _+1<=_;lia)),λy H8 s8 g8=>?_⟩
      have B:=B.same s8;have gm:=s8 _ _ gm;have g6:=s8 _ _ g6;have gu:=s8 _ _ gu;refine xR rfl (xR rfl (xD l _ (j:Int) j rfl ⟨rfl,B.gl,ix,?_⟩));obtain⟨S9,K9,M9⟩:=B.put hl (.lst ((rs.map V.ref).set j (.ref y)));refine ab _ l _ _ _ _ _ _ _ _ _ _ _ S9 (by lia) (by lia) K9 qA1 (λx hx=>?_) (by rw[W2,A0];lia) (qCV (by lia) (by lia))
      rcases X7 hx with hx|rfl
      ·exact qJQ M9 a6 n6 k5 (λr hr=>hr) x hx
      ·refine qH3 (b:=true) (qC2 g8 B.gl λxs z=>nomatch z) (by rw[A6];show _+1<=6;lia) λx hx=>?_
       rcases B7.mp hx with hx|hx
       ·exact lf x (cm.1 x hx)
       ·rw[B3.mp hx];exact qCV (by lia) (by lia)
     refine xR rfl ⟨rfl,xR rfl ?_⟩;by_cases cc:a3=4
     rotate_left
     ·rw[decide_eq_false (show¬V.int a3=V.int 4 fromλz=>cc (V.int.inj z))];exact iteF (E4 _ _ B)
     rw[decide_eq_true (show V.int a3=V.int 4 by rw[cc])]
     refine iteT ?_;refine xR rfl (xR rfl ⟨(u:Int),rfl,xB l _ rfl ⟨Ab2 B.gl,λp1 ae=>?_⟩⟩);rw[qBG];obtain⟨G6,n,s6,g6⟩:=qAI ae (.lst ((cutI rs none (some (u:Int))).map V.ref));rw[n];clear n;have B:=B.same s6;refine xR rfl (xR rfl ⟨(u:Int),rfl,xR rfl (xB _ _ rfl ⟨rfl,xR rfl (xB l _ rfl ⟨Ab2 B.gl,λp2 an=>?_⟩)⟩)⟩);rw[qBG,e2];obtain⟨G7,n,s7,g7⟩:=qAI an (.lst ((cutI rs (some (u:Int)) (some ((u+2:Nat):Int))).map V.ref));rw[n];clear n;have B:=B.same s7;refine xR rfl (xR rfl ⟨rfl,xB p2 _ rfl ⟨Ab2 g7,λp3 ap=>?_⟩⟩);rw[<- B29];obtain⟨G8,n,s8,g8⟩:=qAI ap (.lst ((cutI rs (some (u:Int)) (some ((u+2:Nat):Int))).reverse.map V.ref));rw[n];clear n;have B:=B.same s8;have l1:=qVJ (xs:=rs) (k:=u);have l2:=qQ5 (xs:=rs) (k:=u) (j:=2);have l3:=qVK (xs:=rs) (k:=u+2);refine xD p1 p3 _ _ rfl ⟨rfl,s8 _ _ (s7 _ _ g6),g8,F5 (qAQ (by rw[A0,A0,W4];lia)),λp4 as=>?_⟩
     rw[<- C4];obtain⟨G9,n,s9,g9⟩:=qAI as (.lst ((cutI rs none (some (u:Int))++(cutI rs (some (u:Int)) (some ((u+2:Nat):Int))).reverse).map V.ref));rw[n];clear n;have B:=B.same s9;refine xR rfl (xR rfl (xB _ _ rfl ⟨rfl,xR rfl (xB l _ rfl ⟨Ab2 B.gl,λp5 b4=>?_⟩)⟩));rw[qBG,e2];obtain⟨ea,n,b7,d3⟩:=qAI b4 (.lst ((cutI rs (some ((u+2:Nat):Int)) none).map V.ref));rw[n];clear n;have B:=B.same b7;refine xD p4 p5 _ _ rfl ⟨rfl,b7 _ _ g9,d3,F5 (qAQ (by rw[A0,A0,A6,W4];lia)),λp6 aw=>?_⟩
     rw[<- C4];obtain⟨dh,n,ci,d5⟩:=qAI aw (.lst ((cutI rs none (some (u:Int))++(cutI rs (some (u:Int)) (some ((u+2:Nat):Int))).reverse++cutI rs (some ((u+2:Nat):Int)) none).map V.ref));rw[n];clear n;have B:=B.same ci;refine ab _ p6 _ _ _ ns' _ _ _ _ _ _ _ B.st (by lia) (by lia) B.keep d5 (B.all a6 λr hr=>?_) (by rw[A0,A6,A6,W4];lia) (qCV (by lia) (by lia))
     rcases B7.mp hr with hr|hr
     ·rcases B7.mp hr with hr|hr
      ·exact qCT.1 r hr
      ·exact qCT.1 r (j4.mp hr)
     ·exact qCT.1 r hr
    refine xR rfl ⟨rfl,xR rfl ?_⟩;by_cases cc:a3=3
    rotate_left
    ·rw[decide_eq_false (show¬V.int a3=V.int 3 fromλz=>cc (V.int.inj z))];exact iteF (E3 _ _ B)
    rw[decide_eq_true (show V.int a3=V.int 3 by rw[cc])]
    refine iteT ?_;refine xR rfl (xR rfl ⟨(u:Int),rfl,xB l _ rfl ⟨Ab2 B.gl,λp1 ae=>?_⟩⟩);rw[qBG];obtain⟨eb,n,c7,d2⟩:=qAI ae (.lst ((cutI rs none (some (u:Int))).map V.ref));rw[n];clear n;have B:=B.same c7;refine xR rfl (xR rfl ⟨(u:Int),rfl,xR rfl (xB _ _ rfl ⟨rfl,xR rfl (xB l _ rfl ⟨Ab2 B.gl,λp2 an=>?_⟩)⟩)⟩);rw[qBG,e1];obtain⟨dv,n,bo,ct⟩:=qAI an (.lst ((cutI rs (some (u:Int)) (some ((u+1:Nat):Int))).map V.ref));rw[n];clear n;have B:=B.same bo;have l1:=qVJ (xs:=rs) (k:=u);have l2:=qQ5 (xs:=rs) (k:=u) (j:=1);have l3:=qVK (xs:=rs) (k:=u+1);refine xC p2 2 _ rfl ⟨rfl,ct,by decide,by decide,F5 (qAQ (by rw[A0];show _*2<=_;lia)),λp3 ap=>?_⟩
    rw[qcJ,<- C4];obtain⟨e6,n,bf,d9⟩:=qAI ap (.lst ((cutI rs (some (u:Int)) (some ((u+1:Nat):Int))++cutI rs (some (u:Int)) (some ((u+1:Nat):Int))).map V.ref));rw[n];clear n;have B:=B.same bf;refine xD p1 p3 _ _ rfl ⟨rfl,bf _ _ (bo _ _ d2),d9,F5 (qAQ (by rw[A0,A0,A6];lia)),λp4 as=>?_⟩
    rw[<- C4];obtain⟨du,n,cq,cr⟩:=qAI as (.lst ((cutI rs none (some (u:Int))++(cutI rs (some (u:Int)) (some ((u+1:Nat):Int))++cutI rs (some (u:Int)) (some ((u+1:Nat):Int)))).map V.ref));rw[n];clear n;have B:=B.same cq;refine xR rfl (xR rfl (xB _ _ rfl ⟨rfl,xR rfl (xB l _ rfl ⟨Ab2 B.gl,λp5 b4=>?_⟩)⟩));rw[qBG,e1];obtain⟨ec,n,bv,c5⟩:=qAI b4 (.lst ((cutI rs (some ((u+1:Nat):Int)) none).map V.ref));rw[n];clear n;have B:=B.same bv;refine xD p4 p5 _ _ rfl ⟨rfl,bv _ _ cr,c5,F5 (qAQ (by rw[A0,A0,A6,A6];lia)),λp6 aw=>?_⟩
    rw[<- C4];obtain⟨e9,n,cf,cj⟩:=qAI aw (.lst ((cutI rs none (some (u:Int))++(cutI rs (some (u:Int)) (some ((u+1:Nat):Int))++cutI rs (some (u:Int)) (some ((u+1:Nat):Int)))++cutI rs (some ((u+1:Nat):Int)) none).map V.ref));rw[n];clear n;have B:=B.same cf;refine ab _ p6 _ _ _ ns' _ _ _ _ _ _ _ B.st (by lia) (by lia) B.keep cj (B.all a6 λr hr=>?_) (by rw[A0,A6,A6,A6];lia) (qCV (by lia) (by lia))
    rcases B7.mp hr with hr|hr
    ·rcases B7.mp hr with hr|hr
     ·exact qCT.1 r hr
     ·rcases B7.mp hr with hr|hr<;>exact qCT.1 r hr
    ·exact qCT.1 r hr
   refine xR rfl ⟨rfl,xR rfl ?_⟩;by_cases cc:a3=2
   rotate_left
   ·rw[decide_eq_false (show¬V.int a3=V.int 2 fromλz=>cc (V.int.inj z))];exact iteF (E2 _ _ B)
   rw[decide_eq_true (show V.int a3=V.int 2 by rw[cc])]
   refine iteT ?_;refine xR rfl (xR rfl ⟨(u:Int),rfl,xR rfl (xB _ _ rfl ⟨rfl,xR rfl (xB l _ rfl ⟨Ab2 B.gl,λp0 c9=>?_⟩)⟩)⟩);rw[qBG,e1];obtain⟨dj,n,c3,cy⟩:=qAI c9 (.lst ((cutI rs (some (u:Int)) (some ((u+1:Nat):Int))).map V.ref));rw[n];clear n;have B:=B.same c3;refine xR rfl (xR rfl ⟨(u:Int),rfl,xB l _ rfl ⟨Ab2 B.gl,λp1 ae=>?_⟩⟩);rw[qBG];obtain⟨e8,n,bb,ck⟩:=qAI ae (.lst ((cutI rs none (some (u:Int))).map V.ref));rw[n];clear n;have B:=B.same bb;refine xR rfl (xR rfl (xB _ _ rfl ⟨rfl,xR rfl (xB l _ rfl ⟨Ab2 B.gl,λp2 an=>?_⟩)⟩));rw[qBG,e1];obtain⟨de,n,b3,ce⟩:=qAI an (.lst ((cutI rs (some ((u+1:Nat):Int)) none).map V.ref));rw[n];clear n;have B:=B.same b3;have l1:=qVJ (xs:=rs) (k:=u);have l2:=qQ5 (xs:=rs) (k:=u) (j:=1);have l3:=qVK (xs:=rs) (k:=u+1);refine xD p1 p2 _ _ rfl ⟨rfl,b3 _ _ ck,ce,F5 (qAQ (by rw[A0,A0];lia)),λp3 ap=>?_⟩
   rw[<- C4];obtain⟨ch,n,bt,co⟩:=qAI ap (.lst ((cutI rs none (some (u:Int))++cutI rs (some ((u+1:Nat):Int)) none).map V.ref));rw[n];clear n;have B:=B.same bt;have g0:=bt _ _ (b3 _ _ (bb _ _ cy));obtain⟨us,eu⟩:∃us,cutI rs (some (u:Int)) (some ((u+1:Nat):Int))=us:=⟨_,rfl⟩;have iu:∀r∈us,r∈rs:=λr hr=>qCT.1 r (eu▸hr);rw[eu] at g0 l2;refine xR rfl (xR rfl ⟨p0,rfl,⟨_,Ab2 g0⟩,λq hq=>?_⟩);refine qE7 (p:=q) (a:=p0) (xs:=us.map V.ref) (λi σ Hd=>∃(v:Option V) (fs:List Addr),σ=[v]/\Same ch Hd/\Hd q=some (.lst (fs.map V.ref))/\fs.length<=i) ?_ ?_ ?_ ?_
   ·exact⟨none,[],rfl,qA4 hq _,qA1,B4 _⟩
   ·rintro i σ Hd hi ⟨v,fs,rfl,sm,_⟩;exact Ab2 (sm _ _ g0)
   ·refineλi x σ Hd hx bg=>opq λe7 bp=>?_;obtain⟨v,fs,rfl,sm,a7,lf⟩:=bg;obtain⟨mv,ar,rfl⟩:=qC3 hx;refine bp ?_;have hi:=(B5.mp ar).1;obtain⟨m,hm,gm⟩:=B.mo (iu _ (D4 ar));obtain⟨ah,i0,ad,lw,al,ed⟩:=qJR (a6 m hm) n6 k5;refine xR rfl (xD mv _ _ _ rfl ⟨rfl,Ac0 (sm _ _ gm),ad,rfl,xR rfl ?_⟩);rw[ed];cases m.dk with
    |true=>exact xR rfl ⟨_,a7,qAQ (by rw[A0];lia),_,fs++[mv],rfl,qAK sm hq,by rw[qA1,qBF],by rw[A6,C1];lia⟩
    |false=>exact xB _ fs rfl ⟨sm,a7,by lia⟩
   refineλσ Hd ba=>opq λdp bc=>?_;obtain⟨v,fs,rfl,sm,a7,lf⟩:=ba;refine bc ?_;rw[A0] at lf;have B:=B.same sm;refine xB q _ rfl ⟨.inl (Ab2 a7),xB _ _ rfl ⟨rfl,?_⟩⟩;refine ab Hd p3 _ _ _ ns' _ _ _ _ _ _ _ B.st (by lia) (by lia) B.keep (sm _ _ co) (B.all a6 λr hr=>(B7.mp hr).elim (qCT.1 r) (qCT.1 r)) (by rw[A0,A6];lia) (qCV (by rw[A0];lia) (by rw[A0];lia))
  refine xR rfl (xB _ _ rfl ⟨rfl,xR rfl ?_⟩);by_cases cc:a3<2
  rotate_left
  ·rw[decide_eq_false cc];exact iteF (E1 _ _ B)
  rw[decide_eq_true cc];refine iteT ?_;refine xR rfl (xR rfl (xR rfl ?_));refine xR rfl (xR rfl ⟨(u:Int),rfl,xB l _ rfl ⟨Ab2 B.gl,λp1 ae=>?_⟩⟩);rw[qBG];obtain⟨e4,n,bm,bu⟩:=qAI ae (.lst ((cutI rs none (some (u:Int))).map V.ref));rw[n];clear n;have B:=B.same bm;rw[qQ6] at bu;obtain⟨dy,R1⟩:=qWE R u;have M1:=qJN u B.mos;have l4:(rs.take u).length=(ms.take u).length:=C5 M1;refine⟨a,wd,sz,p1,Ae,a4,a2,1,_,(ms.take u).map moD,rfl,B.tk,bu,by rw[A0,A0,l4],λi x' d' h1 h2=>?_,λdm s' ed R' r H2 s2 gr ls=>?_,λno=>absurd R1 (no _ _ rfl)⟩
  ·obtain⟨r,hr,rfl⟩:=qC3 h1;obtain⟨m,hm,g⟩:=qAN M1 hr;rw[C6,hm] at h2;cases h2;exact qR2 g
  have B:=B.same s2;clear bm M1 R1 R' ed;refine xR rfl (xR rfl (xD a sz Ae a2 rfl ⟨B.tk.net_,n6,B.tk.sizes_,k5,λml H3 s3 fm MA=>?_⟩));obtain⟨be,gm,MM⟩:=MA;have B:=B.same s3;have gr:=s3 _ _ gr;have d6:be.length=(qBN (Ae.length:Int) (a2.length:Int)).length:=C5 MM;have e3:=qM1 (Ae.length:Int) a2.length;have dl:a2.length*(((Ae.length:Int)).toNat+1)<=5*7:=q9 (by lia) (by lia)
  refine⟨ml,rfl,⟨_,Ab2 gm⟩,λq hq=>?_⟩;have nq:=B.ne hq;refine qE7 (p:=q) (a:=ml) (xs:=be.map V.ref) (λi σ Hd=>∃(v:Option V) (fs:List Addr),σ=[v,some (.ref a),some (.ref wd),some (.ref sz),some (.ref r)]/\Same H3 Hd/\Hd q=some (.lst (fs.map V.ref))/\fs.length<=i/\∀f∈fs,∃m∈qBN (Ae.length:Int) (a2.length:Int),Hd f=some (.tup m.vs)) ?_ ?_ ?_ ?_
  ·exact⟨none,[],rfl,qA4 hq _,qA1,B4 _,λf hf=>nomatch hf⟩
  ·rintro i σ Hd hi ⟨v,fs,rfl,sm,_⟩;exact Ab2 (sm _ _ gm)
  ·refineλi x σ Hd hx br=>opq λdn bn=>?_;obtain⟨v,fs,rfl,sm,a7,lf,af⟩:=br;obtain⟨mv,ar,rfl⟩:=qC3 hx;obtain⟨m,hm,bh⟩:=qAN MM ar;refine bn ?_;have ak:=D4 hm;have hi:=(B5.mp hm).1;obtain⟨ns,o,sv,wv,TI,ef⟩:=(B.tk.same sm).tinO (sm _ _ gr) ls (sm _ _ bh) ak;refine xR rfl (xR rfl (xR rfl (xR rfl (xR rfl (xN a wd sz r mv Ae a4 a2 s' m ns o sv wv rfl ⟨TI,(λe=>nomatch e),λH6 s6=>?_⟩)))));have b2:=sm.trans s6;refine xR rfl ?_;rcases qM6 m ns s' o sv wv with e|⟨w0,e⟩
   ·rw[e,decide_eq_true (rfl:V.non=V.non)];refine xR rfl ⟨_,s6 _ _ a7,qAQ (by rw[A0];lia),_,fs++[mv],rfl,qAK b2 hq,by rw[qA1,qBF],by rw[A6,C1];lia,λf hf=>?_⟩
    have tp:∀{f:Addr} {m':Mo},H6 f=some (.tup m'.vs)->(Ag H6 q (.lst (fs.map V.ref++[.ref mv]))) f=some (.tup m'.vs):=λ{f m'} z=>qC2 z (s6 _ _ a7) (λxs z=>nomatch z);rcases B7.mp hf with hf|hf
    ·obtain⟨m',h1,h2⟩:=af f hf;exact⟨m',h1,tp (s6 _ _ h2)⟩
    ·rw[B3.mp hf];exact⟨m,ak,tp (b2 _ _ bh)⟩
   ·rw[e,decide_eq_false (show¬V.str w0=V.non fromλz=>nomatch z)];exact xB _ fs rfl ⟨b2,s6 _ _ a7,by lia,λf hf=>let⟨m',h1,h2⟩:=af f hf;⟨m',h1,s6 _ _ h2⟩⟩
  refineλσ Hd bk=>opq λds bj=>?_;obtain⟨v,fs,rfl,sm,a7,lf,af⟩:=bk;refine bj ?_;rw[A0,d6] at lf;have B:=B.same sm;refine xR rfl ⟨(by show 0<=B75;decide),λe he=>?_⟩
  obtain⟨cb,n,b0,c2⟩:=qAI he (.lst []);rw[n];clear n;have B:=B.same b0;have a7:=b0 _ _ a7;have af:∀f∈fs,∃m∈qBN (Ae.length:Int) (a2.length:Int),cb f=some (.tup m.vs):=λf hf=>let⟨m',h1,h2⟩:=af f hf;⟨m',h1,b0 _ _ h2⟩
  refine xC q e _ rfl ⟨rfl,Ab2 a7,Ab2 c2,xR rfl ?_⟩;by_cases fe:fs=[]
  ·rw[show(fs.map V.ref).isEmpty=true by rw[fe];rfl]
   refine iteF ?_;exact ab _ l _ _ _ ns' _ _ _ _ _ _ _ B.st (by lia) (by lia) B.keep B.gl (B.all a6 λr hr=>hr) (by rw[A0];lia) (qCV (by lia) (by lia))
  have rl:1<=fs.length:=m5 λz=>fe (Q1 z);rw[show(fs.map V.ref).isEmpty=false from by cases hrs:fs with|nil=>exact absurd hrs fe|cons _ _=>rfl]
  refine iteT ?_;refine xR rfl (xR rfl (xR rfl (xB q _ rfl ⟨.inl (Ab2 a7),xE d c _ _ _ rfl ⟨B.st,(by show t+1+1<=1000000000;lia),(by rw[A0];lia),(by rw[A0];lia),λk aj H5 k0 k1 S5 K5=>?_⟩⟩)))
  rw[A0] at k1;have a7:=K5 _ _ a7 nq.1 nq.2.1;have hf:=B0 (show k.toNat<fs.length by lia)
  obtain⟨m,ak,gm⟩:=af _ (Q9 (show k.toNat<fs.length by lia))
  generalize fs[k.toNat]=mv at hf gm;have gm:=K5 _ _ gm (B.st.tup gm).1 (B.st.tup gm).2;have B:=B.take S5 K5;obtain⟨ah,i0,ad,lw,al,ed⟩:=qJR ak n6 k5;refine xD q _ k (.ref mv) rfl ⟨rfl,Ab2 a7,qE1 k0 (by rw[C6,hf];rfl),?_⟩
  refine xR rfl ⟨.inl ⟨rfl,_,Ab2 B.gl⟩,xR rfl (xR rfl (xD l _ (u:Int) (.ref mv) rfl ⟨rfl,B.gl,by lia,by rw[A0];lia,by rw[A0];lia,?_⟩))⟩
  obtain⟨S6,K6,M6⟩:=B.put hl (.lst ((rs.map V.ref).take (u:Int).toNat++.ref mv::(rs.map V.ref).drop (u:Int).toNat));have ax:(Ag H5 l (.lst ((rs.map V.ref).take (u:Int).toNat++.ref mv::(rs.map V.ref).drop (u:Int).toNat))) mv=some (.tup m.vs):=qC2 gm B.gl λxs z=>nomatch z;have bs:(Ag H5 l (.lst ((rs.map V.ref).take (u:Int).toNat++.ref mv::(rs.map V.ref).drop (u:Int).toNat))) l=some (.lst ((rs.map V.ref).take (u:Int).toNat++.ref mv::(rs.map V.ref).drop (u:Int).toNat)):=qA1;generalize Ag H5 l (.lst ((rs.map V.ref).take (u:Int).toNat++.ref mv::(rs.map V.ref).drop (u:Int).toNat))=H6 at S6 K6 M6 ax bs ⊢;refine xR rfl (xR rfl (xD mv _ _ _ rfl ⟨rfl,Ac0 ax,ad,rfl,.inr (xR rfl (xB _ _ rfl ⟨rfl,?_⟩))⟩));refine ab H6 l _ _ _ aj _ _ _ _ _ _ _ S6 (by lia) (by lia) K6 bs (λx hx=>?_) (by rw[A6,J7,C9,J2,A0];lia) (qCV (by split<;>lia) (by split<;>lia))
  rcases B7.mp hx with hx|hx
  ·exact qJQ M6 a6 n6 k5 (λr hr=>hr) x (Q8 hx)
  ·rcases C0.mp hx with rfl|hx
   ·exact qZE ax ak n6 k5
   ·exact qJQ M6 a6 n6 k5 (λr hr=>hr) x (Q7 hx)
 refine xR rfl (xB _ _ rfl ⟨rfl,xR rfl ?_⟩);by_cases cc:7<a3
 rotate_left
 ·rw[decide_eq_false cc];exact iteF (iteF (E0 _ _ B))
 rw[decide_eq_true cc];refine iteT ?_;refine xR rfl ⟨(by show 0<=B75;decide),λe0 ao=>?_⟩
 obtain⟨di,n,ca,cu⟩:=qAI ao (.lst []);rw[n];clear n;have B:=B.same ca;refine xC l e0 _ rfl ⟨rfl,Ab2 B.gl,Ab2 cu,xR rfl ?_⟩;by_cases re:rs=[]
 ·rw[show(rs.map V.ref).isEmpty=true by rw[re];rfl]
  exact iteF (E0 _ _ B)
 have rl:1<=rs.length:=m5 λz=>re (Q1 z);rw[show(rs.map V.ref).isEmpty=false from by cases hrs:rs with|nil=>exact absurd hrs re|cons _ _=>rfl]
 refine iteT ?_;refine xR rfl (xR rfl (xB l _ rfl ⟨.inl (Ab2 B.gl),xE d c _ _ _ rfl ⟨B.st,(by show t+1+1<=1000000000;lia),(by rw[A0];lia),(by rw[A0];lia),λk aj H5 k0 k1 S5 K5=>?_⟩⟩))
 rw[A0] at k1;have B:=B.take S5 K5;obtain⟨j,rfl⟩:=Z4 k0;obtain⟨mv,am,m,hm,gm⟩:=B.at k0 k1;obtain⟨lf,l3,l2⟩:=qWS (a6 m hm) n6 k5;obtain⟨ah,i0,ad,lw,al,ed⟩:=qJR (a6 m hm) n6 k5;have ix:=qMY (xs:=rs.map V.ref) (j:=j) (by rw[A0];lia)
 refine xR rfl (xR rfl (xD l _ (j:Int) _ rfl ⟨rfl,Ab2 B.gl,am,?_⟩));refine xR rfl (xB mv _ rfl ⟨.inr (Ac0 gm),λo1 b8=>?_⟩);have b1:=B.ne b8;obtain⟨dq,n,bw,c4⟩:=qAI b8 (.lst m.vs);rw[n];clear n;have B:=B.same bw;have gm:=bw _ _ gm;have x1:=c4;refine⟨(by show 1<=B75;decide),λu1 b5=>?_⟩
 obtain⟨e5,n,av,d8⟩:=qAI b5 (.tup [.str "Do"]);rw[n];clear n;have B:=B.same av;have gm:=av _ _ gm;have x1:=av _ _ x1;have gu:=d8;refine xR rfl (xR rfl (xB mv _ rfl ⟨gm,λu2 A2 z2 a5=>?_⟩));have B:=B.same z2;have gm:=z2 _ _ gm;have x1:=z2 _ _ x1;have gu:=z2 _ _ gu;have b9:=qHG (xs:=m.vs) (lo:=some 1) (hi:=none);have c8:=qHG (xs:=m.vs) (lo:=some 2) (hi:=none);have cp:=qHG (xs:=m.vs) (lo:=none) (hi:=some 1);refine xD u1 u2 _ _ rfl ⟨rfl,Ac0 gu,Ac0 a5,.inl ⟨by simp,gu⟩,F5 (qAQ (by show 1+_<=_;lia)),λo2 A3 z3 x2=>?_⟩
 have B:=B.same z3;have gm:=z3 _ _ gm;have x1:=z3 _ _ x1;have gu:=z3 _ _ gu;have a5:=z3 _ _ a5;refine xR rfl ⟨(by show 1<=B75;decide),λu3 cd=>?_⟩
 obtain⟨dz,n,ai,cs⟩:=qAI cd (.tup [.int 0]);rw[n];clear n;have B:=B.same ai;have gm:=ai _ _ gm;have x1:=ai _ _ x1;have gu:=ai _ _ gu;have a5:=ai _ _ a5;have x2:=ai _ _ x2;have a8:=cs;refine xD mv u3 _ _ rfl ⟨rfl,Ac0 gm,Ac0 a8,.inr ⟨by simp,a8⟩,F5 (qAQ (by show _+1<=_;lia)),λo3 A4 z4 x3=>?_⟩
 have B:=B.same z4;have gm:=z4 _ _ gm;have x1:=z4 _ _ x1;have gu:=z4 _ _ gu;have a5:=z4 _ _ a5;have x2:=z4 _ _ x2;have a8:=z4 _ _ a8;refine xR rfl (xR rfl (xB mv _ rfl ⟨gm,λo4 A5 z5 x4=>?_⟩));have B:=B.same z5;have gm:=z5 _ _ gm;have x1:=z5 _ _ x1;have gu:=z5 _ _ gu;have a5:=z5 _ _ a5;have x2:=z5 _ _ x2;have a8:=z5 _ _ a8;have x3:=z5 _ _ x3;refine xR rfl ⟨mv,_,_,xR rfl ⟨rfl,Ac0 gm,ad,xR rfl ⟨mv,_,_,xR rfl ⟨rfl,Ac0 gm,al,_,xR rfl ⟨rfl,(by show 2<=B75;decide),λu5 cn=>?_⟩⟩⟩⟩⟩
 obtain⟨df,n,ac,c0⟩:=qAI cn (.tup [.str ah,.bl (decide (0<i0))]);rw[n];clear n;have B:=B.same ac;have gm:=ac _ _ gm;have x1:=ac _ _ x1;have gu:=ac _ _ gu;have a5:=ac _ _ a5;have x2:=ac _ _ x2;have a8:=ac _ _ a8;have x3:=ac _ _ x3;have x4:=ac _ _ x4;have aa:=c0;refine xR rfl (xR rfl (xB mv _ rfl ⟨gm,λu6 A7 z7 ag=>?_⟩));have B:=B.same z7;have gm:=z7 _ _ gm;have x1:=z7 _ _ x1;have gu:=z7 _ _ gu;have a5:=z7 _ _ a5;have x2:=z7 _ _ x2;have a8:=z7 _ _ a8;have x3:=z7 _ _ x3;have x4:=z7 _ _ x4;have aa:=z7 _ _ aa;refine xD u5 u6 _ _ rfl ⟨rfl,Ac0 aa,Ac0 ag,.inl ⟨by simp,aa⟩,F5 (qAQ (by show 2+_<=_;lia)),λo5 A8 z8 x5=>?_⟩
 have B:=B.same z8;have gm:=z8 _ _ gm;have x1:=z8 _ _ x1;have gu:=z8 _ _ gu;have a5:=z8 _ _ a5;have x2:=z8 _ _ x2;have a8:=z8 _ _ a8;have x3:=z8 _ _ x3;have x4:=z8 _ _ x4;have aa:=z8 _ _ aa;have ag:=z8 _ _ ag;refine xR rfl (xR rfl (xB mv _ rfl ⟨gm,λo7 A9 z9 x7=>?_⟩));have B:=B.same z9;have gm:=z9 _ _ gm;have x1:=z9 _ _ x1;have gu:=z9 _ _ gu;have a5:=z9 _ _ a5;have x2:=z9 _ _ x2;have a8:=z9 _ _ a8;have x3:=z9 _ _ x3;have x4:=z9 _ _ x4;have aa:=z9 _ _ aa;have ag:=z9 _ _ ag;have x5:=z9 _ _ x5;refine⟨(by show 7<=B75;decide),λol bq=>?_⟩
 have bi:=B.ne bq;obtain⟨dt,n,a9,cz⟩:=qAI bq (.lst [.ref o1,.ref o2,.ref o3,.ref o4,.ref o5,.non,.ref o7]);rw[n];clear n;have B:=B.same a9;have gm:=a9 _ _ gm;have x1:=a9 _ _ x1;have gu:=a9 _ _ gu;have a5:=a9 _ _ a5;have x2:=a9 _ _ x2;have a8:=a9 _ _ a8;have x3:=a9 _ _ x3;have x4:=a9 _ _ x4;have aa:=a9 _ _ aa;have ag:=a9 _ _ ag;have x5:=a9 _ _ x5;have x7:=a9 _ _ x7;have xl:=cz;refine xR rfl (xR rfl (xE d c _ _ 7 rfl ⟨B.st,(by show t+1+1+1<=1000000000;lia),by decide,by decide,λk2 bd H6 q0 q1 S6 K6=>?_⟩))
 have x1:=K6 _ _ x1 b1.1 b1.2.1;have x2:=K6 _ _ x2 (B.st.tup x2).1 (B.st.tup x2).2;have x3:=K6 _ _ x3 (B.st.tup x3).1 (B.st.tup x3).2;have x4:=K6 _ _ x4 (B.st.tup x4).1 (B.st.tup x4).2;have x5:=K6 _ _ x5 (B.st.tup x5).1 (B.st.tup x5).2;have x7:=K6 _ _ x7 (B.st.tup x7).1 (B.st.tup x7).2;have xl:=K6 _ _ xl bi.1 bi.2.1;have B:=B.take S6 K6;obtain⟨y,hy,ay⟩:=qYE q0 (show k2<(([.ref o1,.ref o2,.ref o3,.ref o4,.ref o5,.non,.ref o7]:List V).length:Int) from q1);refine xD ol _ k2 y rfl ⟨rfl,Ab2 xl,ay,?_⟩;refine xR rfl (xR rfl (xD l _ (j:Int) j rfl ⟨rfl,B.gl,ix,?_⟩));obtain⟨S9,K9,M9⟩:=B.put hl (.lst ((rs.map V.ref).set j y));refine ab _ l _ _ _ _ _ _ _ _ _ _ _ S9 (by lia) (by lia) K9 qA1 (λx hx=>?_) (by rw[W2,A0];lia) (qCV (by lia) (by lia))
 rcases X7 hx with hx|rfl
 ·exact qJQ M9 a6 n6 k5 (λr hr=>hr) x hx
 rcases C0.mp hy with rfl|hy
 ·exact qH3 (b:=false) (show(Ag H6 l _) o1=some (.lst m.vs) by rw[qAB b1.2.2];exact x1) (by lia) lf
 rcases C0.mp hy with rfl|hy
 ·refine qH3 (b:=true) (qC2 x2 B.gl λxs z=>nomatch z) (by rw[A6];show 1+_<=6;lia) λx hx=>?_
  rcases B7.mp hx with hx|hx
  ·rw[B3.mp hx];exact qdH
  ·exact lf x (b9.1 x hx)
 rcases C0.mp hy with rfl|hy
 ·refine qH3 (b:=true) (qC2 x3 B.gl λxs z=>nomatch z) (by rw[A6];show _+1<=6;lia) λx hx=>?_
  rcases B7.mp hx with hx|hx
  ·exact lf x hx
  ·rw[B3.mp hx];exact qCV (by lia) (by lia)
 rcases C0.mp hy with rfl|hy
 ·exact qH3 (b:=true) (qC2 x4 B.gl λxs z=>nomatch z) (by lia) λx hx=>lf x (cp.1 x hx)
 rcases C0.mp hy with rfl|hy
 ·refine qH3 (b:=true) (qC2 x5 B.gl λxs z=>nomatch z) (by rw[A6];show 2+_<=6;lia) λx hx=>?_
  rcases B7.mp hx with hx|hx
  ·rcases C0.mp hx with rfl|hx
   ·exact lw
   ·rw[B3.mp hx];exact qbL
  ·exact lf x (c8.1 x hx)
 rcases C0.mp hy with rfl|hy
 ·exact qc2
 rw[B3.mp hy];exact qH3 (b:=true) (qC2 x7 B.gl λxs z=>nomatch z) (by lia) λx hx=>lf x (b9.1 x hx)
theorem sc_law:FnScope ["_law_script","_law_state","_law_turn","_law_net_here","_law_wides","_law_sizes","_law_asked_here","_law_told","_law_others","_law_thing","_law_bent_here","_law_held","_law_more"] ["_law_script"] (qAA qKS):=qBU
theorem ok_law (F:Fun K "law" "law" qKS f fd) (qJ9:Clb P w K mg base 1 qN3 qV5 "_law_begin" ["_law_script"] (qTD K)) (qAV:Clb P w K mg base 1 qEW qES "_law_take" ["_law_state","_law_many"] qIB) (qJ7:Clb P w K mg base 4 qN2 qV3 "_law_there" ["_law_state"] qQB) (qJA:Clb P w K mg base 2 qN4 qV6 "_law_asked" ["_law_state","_law_net_here"] qTE) (qDF:Clb P w K mg base 6 qCI qL8 "least_there" ["net","wides","sizes","asked"] (qQF Pt)) (qBR:Clb P w K mg base 6 qD9 qG9 "shows_there" ["net","wides","sizes","asked","thing"] qM8) (qNK:Clb P w K mg base 6 qPY qXA "_law_bent" ["_law_state","_law_net_here","_law_wides","_law_sizes","_law_told"] qTC) (qC6:Clb P w K mg base 7 qEA qK8 "_law_shown_right" ["_law_net_here","_law_wides","_law_sizes","_law_asked_here","_law_thing"] qQC)
  (qBC:mg "range" = none) (qM5:mg "str" = none) (qB1:mg "len" = none) (qNM:mg "set" = none) (qCD:mg "sorted" = none) (qAS:mg "tuple" = none):FnOk P w K mg base CX0 8 f fd ["_law_script"] (qQG K Pt):=by
 refine F.okA sc_law λbq A b9 s H vs Q E hr h=>?_;obtain⟨g,sc,ns,rfl,hS,av,q⟩:=h;have am:=hr.gd;have a4:=hr.units;have bo:=hr.units0;refine⟨_,(qA3 (qAE (i:=1) sc_law.nd rfl (F3 rfl) (qAP qJ9 hr rfl (qA0 (pv 0) qA2))) (qA3 (qDM L5 rfl (qBE rfl qBC (qA0 qA5 qA2)) (qBD (i:=2) sc_law.nd rfl (F3 rfl)) (qA3 (qLO (qAP qJ7 hr rfl (qA0 (pv 1) qA2)) (qNZ rfl (qBV (qBD (i:=3) sc_law.nd rfl (F3 rfl)) (qBV (qBD (i:=4) sc_law.nd rfl (F3 rfl)) (qBV (qBD (i:=5) sc_law.nd rfl (F3 rfl)) qHX))))) (qA3 (qAE (i:=6) sc_law.nd rfl (F3 rfl) (qAP qJA hr rfl (qA0 (pv 1) (qA0 (pv 3) qA2)))) (qA3 (qAE (i:=7) sc_law.nd rfl (F3 rfl) (qAP qDF hr rfl (qA0 (pv 3) (qA0 (pv 4) (qA0 (pv 5) (qA0 (pv 6) qA2)))))) (qA3 (qB8 (qAF qO5 (qAP qBR hr rfl (qA0 (pv 3) (qA0 (pv 4) (qA0 (pv 5) (qA0 (pv 6) (qA0 (pv 7) qA2)))))) qDW (qAL _)) (qA6 (qAD qDW)) qAH) (qA6 (qB8 (qAF qCL (qAT qAM (pv 7) qA5 (λ_ _=>rfl)) qAZ (qAL _)) (qA3 (qAE (i:=8) sc_law.nd rfl (F3 rfl) (qBH (qA0 (qAY qF7 (pv 7) qBK (qB3 qA5)) (qA0 (qAO qDP (pv 7) (qBS (qA0 qA5 qA2))) (qA0 (qBH (qA0 (qAT qAM (pv 7) qA5 (λ_ _=>rfl)) (qA0 (qAT qAM (pv 7) qA5 (λ_ _=>rfl)) (qA0 (qAT qAM (pv 7) qA5 (λ_ _=>rfl)) qA2)))) (qA0 (qBS (qA0 qAZ (qA0 (qAJ qAU rfl qAS qB5 (qA0 (qAT qAM (pv 7) qA5 (λ_ _=>rfl)) qA2)) (qA0 (qAT qAM (pv 7) qA5 (λ_ _=>rfl)) qA2)))) qA2)))))) (qA3 (qDM L5 rfl (qBW (qAO qG8 (pv 8) (qBH (qA0 (qBS (qA0 qAZ (qA0 (qAT qAM (pv 7) qA5 (λ_ _=>rfl)) qA2))) qA2)))) (qBD (i:=9) sc_law.nd rfl (F3 rfl)) (qA6 (qB8 (qAF qO5 (qAP qBR hr rfl (qA0 (pv 3) (qA0 (pv 4) (qA0 (pv 5) (qA0 (pv 6) (qA0 (pv 9) qA2)))))) qDW (qAL _)) (qA6 (qAD qDW)) qAH))) (qA3 (qDM L5 rfl (qBE rfl qBC (qA0 qA5 qA2)) (qBD (i:=10) sc_law.nd rfl (F3 rfl)) (qA3 (qAE (i:=9) sc_law.nd rfl (F3 rfl) (qAP qNK hr rfl (qA0 (pv 1) (qA0 (pv 3) (qA0 (pv 4) (qA0 (pv 5) (qA0 (pv 7) qA2))))))) (qA3 (qAE (i:=11) sc_law.nd rfl (F3 rfl) (qAJ (qP0 am a4) rfl qM5 qRM (qA0 (pv 9) qA2))) (qA6 (qB8 (PW.pt (qHV (qDL (qCA (qAP qC6 hr rfl (qA0 (pv 3) (qA0 (pv 4) (qA0 (pv 5) (qA0 (pv 6) (qA0 (pv 9) qA2)))))))) (qG6 (qAF qMK (qAJ (qP0 am a4) rfl qM5 qRM (qA0 (pv 9) qA2)) (pv 11) (qAL _))))) (qA6 (qAD qDW)) qAH))))) (qA3 (qAE (i:=12) sc_law.nd rfl (F3 rfl) (qAJ qAU rfl qAS qB5 (qA0 (qA8 (qEY rfl) rfl qCD qFM (qA0 (qAJ (qVP rfl) rfl qNM qRN (qA0 (qAO qDP (qAY qF7 (pv 6) qBK (qB3 qA5)) (qBS (qA0 (qAP qAV hr rfl (qA0 (pv 1) (qA0 (qA8 qA9 rfl qB1 qB7 (qA0 (pv 3) qA2)) qA2))) qA2))) qA2)) qA2)) qA2))) (qA6 (qB8 (qDL (qCA (qAP qC6 hr rfl (qA0 (pv 3) (qA0 (pv 4) (qA0 (pv 5) (qA0 (pv 12) (qA0 (pv 7) qA2)))))))) (qA6 (qAD qDW)) qAH)))))) qAH))))))) (qA6 (qAD qDW)))),?_⟩
 try dsimp only[Cx.nox,Cx.wish,cxOf]
 refine xR rfl (xB sc ns rfl ⟨hS,av,λd c be H1 S1 ad b4 b5=>?_⟩);have g:TabO H1 Pt:=ad _ _ g;refine⟨2,rfl,by decide,by decide,qDS (lo:=0) (n:=2) (λi σ Hc=>∃(t:Int) (ns:List Int) (v2 v3 v4 v5 v6 v7 v8 v9 v10 v11 v12:Option V),σ=[some (.ref sc),some (.ref d),v2,v3,v4,v5,v6,v7,v8,v9,v10,v11,v12]/\StAt Hc d c t ns/\t<=1000*i/\TabO Hc Pt)
  ⟨0,be,none,none,none,none,none,none,none,none,none,none,none,rfl,S1,by lia,g⟩ ?_ ?_⟩
 ·clear S1 ad b4 b5 hS g;refineλi σ Hc hi ak=>opq λbn al=>?_;obtain⟨t,ns,v2,v3,v4,v5,v6,v7,v8,v9,v10,v11,v12,rfl,S,tb,g⟩:=ak;refine al ?_;refine xR rfl (xD d c t ns rfl ⟨S,(by show t<=1000000000-20000;lia),λT0 a wd sz Ae u m t2 bg H2 S2 g1 g2 K2 v T2=>?_⟩)
  have g:=g.keep S K2;refine xB T0 _ rfl ⟨Ac0 v,rfl,xB _ _ rfl (xB _ _ rfl (xB _ _ rfl ⟨rfl,?_⟩))⟩;clear K2 S v;have n1:=T2.n1;have n6:=T2.n6;have k5:=T2.k5;refine xR rfl (xR rfl (xF d c t2 bg a Ae rfl ⟨S2,(by show t2<=1000000000-100;lia),T2.net_,T2.wf,n1,by lia,λta ws t3 ao H3 S3 g3 g4 K3 l ri l1=>?_⟩))
  have T3:=T2.keep S2 K3;have g:=g.keep S2 K3;have bk:=ri.len;clear T2 S2 K3;refine xR rfl (xR rfl (xR rfl (xR rfl (xH a wd sz ta Ae u m ws rfl ⟨g,T3,l,by lia,λks fu Ha sa RC=>⟨λno TT p rs L fT v fp gp LA pL sL=>?_,λst hs ha hm TT p rs ms fT v fp gp ML RU ed lm=>?_⟩⟩))))
  ·have lk:ks.length<=16807:=F4 (qJX (n:=Ae.length) (k:=m.length) RC.nd λs hs=>RC.lk s hs) (F4 (A09 (show Ae.length+1<=7 by lia) _) (w6 (show 0<7 by decide) k5))
   have T4:=T3.same sa;have l:=sa _ _ l;have S4:=S3.same sa;have g:TabO Ha Pt:=sa _ _ g;have lL:L.length<=20000:=by have:=pL.length_eq;lia
   have lb:lenB (.list (L.map layD)):=by show(L.map layD).length<=20000;rw[A0];exact lL
   refine xR rfl (xR rfl (xR rfl (xR rfl (xR rfl (xK a wd sz ta Ae u m ws (.ref TT) 3 _ rfl ⟨T4,l,by lia,qZY v (n:=2) (dx:=.str (B1 "none")) (.inl (.inr (.inr (.inr (xR rfl rfl))))) (qXE gp LA),⟨rfl,lb⟩,λb H5 s5 ib=>?_⟩)))))
   have jo:qVZ Ae u m ws (.tuple [.str (B1 "none"),.list (L.map layD)]):=(qTG λs hs=>RC.lk s (pL.mem_iff.mp hs)).mpr (RC.jo pL no);obtain rfl:=ib.mpr jo;refine xB _ _ rfl ⟨rfl,xR rfl ?_⟩;refine ite2 (λck=>absurd ck (by simp)) (λ_=>?_)
   refine xR rfl (xD TT _ _ _ rfl ⟨rfl,Ac0 (s5 _ _ v),rfl,rfl,xR rfl ?_⟩);rw[decide_eq_false (show¬V.str (B1 "none")=V.str (B1 "plan") from by decide)]
   refine iteF ?_;exact xM t3 ao _ _ _ _ _ _ _ _ _ _ _ rfl ⟨S4.same s5,by lia,s5 _ _ g⟩
  ·have T4:=T3.same sa;have l:=sa _ _ l;have S4:=S3.same sa;have g:TabO Ha Pt:=sa _ _ g;rw[<- ed] at v;have lb:lenB (.list (ms.map moD)):=by show(ms.map moD).length<=20000;rw[A0];lia
   have PA:PlnAt Ha TT p 2 (ms.map moD) (.int (dosO ms:Int)) (.int (dosO ms:Int)):=⟨v,qKC gp ML,.inr (.inr (.inl ⟨_,rfl,rfl⟩))⟩;have np:p≠d/\p≠c:=⟨(λz=>by rw[z,S3.dict] at fp;cases fp),(λz=>by rw[z,S3.list] at fp;cases fp)⟩
   clear T3 S3 sa fT fp hm hs;refine xR rfl (xR rfl (xR rfl (xR rfl (xR rfl (xK a wd sz ta Ae u m ws (.ref TT) _ _ rfl ⟨T4,l,by lia,PA.dat,⟨rfl,λ_=>⟨qOR,lb⟩⟩,λb H5 s5 ib=>?_⟩)))))
   rw[qLL] at ib;obtain rfl:=ib.mpr ⟨ms,rfl,⟨st,RU,ha⟩,rfl⟩;refine xB _ _ rfl ⟨rfl,xR rfl ?_⟩;refine ite2 (λck=>absurd ck (by simp)) (λ_=>?_)
   have T4:=T4.same s5;have l:=s5 _ _ l;have S4:=S4.same s5;have g:TabO H5 Pt:=s5 _ _ g;have v:=s5 _ _ v;have gp:=s5 _ _ gp;have ML:=MosL.same ML s5;clear PA ib s5;refine xR rfl (xD TT _ _ _ rfl ⟨rfl,Ac0 v,rfl,rfl,xR rfl ?_⟩);refine iteT ?_;refine cut λN1 ay=>?_;refine xR rfl (xR rfl (xB TT _ rfl ⟨v,λo1 G1 s1 x1=>?_⟩));have x1:G1 o1=some (.tup [.str "plan",.ref p]):=x1;refine xR rfl ⟨(by show 1<=B75;decide),λu1 bi=>?_⟩
   obtain⟨G2,y,s2,ae⟩:=qAI bi (.tup [.int 0]);rw[y];clear y;have a1:=s1.trans s2;refine xD TT u1 _ _ rfl ⟨rfl,Ac0 (a1 _ _ v),Ac0 ae,.inl ⟨by simp,a1 _ _ v⟩,(by show 3+1<=B75;decide),λo2 G3 s3 x2=>?_⟩
   have x2:G3 o2=some (.tup [.str "plan",.ref p,.int (dosO ms:Int),.int 0]):=x2;have a6:=a1.trans s3;have a2:=a6 _ _ v;refine xR rfl (xD TT _ _ _ rfl ⟨rfl,Ac0 a2,rfl,xR rfl (xD TT _ _ _ rfl ⟨rfl,Ac0 a2,rfl,xR rfl (xD TT _ _ _ rfl ⟨rfl,Ac0 a2,rfl,(by show 3<=B75;decide),λo3 ax=>?_⟩)⟩)⟩)
   obtain⟨G4,y,s4,x3⟩:=qAI ax (.lst [.str "plan",.ref p,.int (dosO ms:Int)]);rw[y];clear y;have a0:=a6.trans s4;have a5:=a0 _ _ v;have as:=a0 _ _ gp;refine xR rfl (xD TT _ _ _ rfl ⟨rfl,Ac0 a5,rfl,xB p _ rfl (.inl ⟨Ab2 as,λu2 bh=>?_⟩)⟩);obtain⟨G5,y,s5,aq⟩:=qAI bh (.tup (rs.map V.ref));rw[y];clear y;refine xR rfl (xD TT _ _ _ rfl ⟨rfl,Ac0 (s5 _ _ a5),rfl,(by show 3<=B75;decide),λo4 bd=>?_⟩)
   obtain⟨G6,y,s6,x4⟩:=qAI bd (.tup [.str "plan",.ref u2,.int (dosO ms:Int)]);rw[y];clear y;refine⟨(by show 4<=B75;decide),λol b2=>?_⟩
   obtain⟨G7,y,s7,an⟩:=qAI b2 (.lst [.ref o1,.ref o2,.ref o3,.ref o4]);rw[y];clear y;have a7:=((a0.trans s5).trans s6).trans s7;refine ay _ _ (cut λN2 b0=>?_);refine xR rfl (xR rfl (xD TT _ _ _ rfl ⟨rfl,Ac0 (a7 _ _ v),rfl,(by show 2<=B75;decide),λo5 bf=>?_⟩))
   obtain⟨G8,y,s8,x5⟩:=qAI bf (.tup [.str "none",.ref p]);rw[y];clear y;refine⟨(by show 1<=B75;decide),λu3 b1=>?_⟩
   obtain⟨G9,y,s9,ar⟩:=qAI b1 (.lst [.ref o5]);rw[y];clear y;refine xD ol u3 _ _ rfl ⟨rfl,s9 _ _ (s8 _ _ an),ar,(by show 4+1<=B75;decide),λll au=>?_⟩
   obtain⟨Gx,y,sx,a9⟩:=qAI au (.lst [.ref o1,.ref o2,.ref o3,.ref o4,.ref o5]);have y:Ag G9 ll (.lst ([.ref o1,.ref o2,.ref o3,.ref o4]++[.ref o5]))=Gx:=y;rw[y];clear y;have sA:=((a7.trans s8).trans s9).trans sx;have a3:∀x∈[V.ref o1,.ref o2,.ref o3,.ref o4,.ref o5],BadP Ae u m ws Gx x:=λx hx=>by
    have Dp:At Gx (.ref p) (.list (ms.map moD)):=⟨2,(qKC gp ML).same sA⟩;have sB:=(s8.trans s9).trans sx;rcases C0.mp hx with rfl|hx
    ·exact .of (At.tup ((((((s2.trans s3).trans s4).trans s5).trans s6).trans s7).trans sB _ _ x1) (.cons .str (.cons Dp .nil))) ⟨rfl,lb⟩ λz=>(by cases z.1)
    rcases C0.mp hx with rfl|hx
    ·exact .of (At.tup (((((s4).trans s5).trans s6).trans s7).trans sB _ _ x2) (.cons .str (.cons Dp (.cons .int (.cons .int .nil))))) trivial λz=>z
    rcases C0.mp hx with rfl|hx
    ·exact .of (At.lst ((((s5).trans s6).trans s7).trans sB _ _ x3) (.cons .str (.cons Dp (.cons .int .nil)))) trivial λz=>z
    rcases C0.mp hx with rfl|hx
    ·have Du:At Gx (.ref u2) (.tuple (ms.map moD)):=At.tup (((s6).trans s7).trans sB _ _ aq) (qbJ (MosL.same ML sA));exact .of (At.tup ((s7).trans sB _ _ x4) (.cons .str (.cons Du (.cons .int .nil)))) ⟨rfl,λ_=>⟨rfl,trivial⟩⟩ λz=>(by obtain⟨_,bs,e,_⟩:=z;cases e)
    rw[B3.mp hx];exact .of (At.tup ((s9.trans sx) _ _ x5) (.cons .str (.cons Dp .nil))) ⟨rfl,lb⟩ λz=>qSE z.2
   have T9:=T4.same sA;have l:=sA _ _ l;have S9:=S4.same sA;have g:TabO Gx Pt:=sA _ _ g;have v:=sA _ _ v;have gp:=sA _ _ gp;have ML:=MosL.same ML sA;clear x1 x2 x3 x4 x5 s1 s2 s3 s4 s5 s6 s7 s8 s9 sx a1 a6 a0 a7 sA T4 S4 ae aq ar an a2 a5 as;refine⟨ll,rfl,⟨_,Ab2 a9⟩,qFZ (a:=ll) (xs:=[V.ref o1,.ref o2,.ref o3,.ref o4,.ref o5]) (λk σ Hc=>∃(v9:Option V),σ=[some (.ref sc),some (.ref d),some (.int (0+(i:Int))),some (.ref a),some (.ref wd),some (.ref sz),some (.ref ta),some (.ref TT),some (.ref ol),v9,v10,v11,v12]/\Same Gx Hc)
    ⟨_,rfl,.refl _⟩ (λk σ Hc _ hP=>by obtain⟨_,_,sm⟩:=hP;exact Ab2 (sm _ _ a9)) ?_ ?_⟩
   ·refineλk x σ Hc hx ai=>opq λbr af=>?_;obtain⟨v9,rfl,sm⟩:=ai;obtain⟨n,dx,Dx,ok,no⟩:=a3 x (D4 hx);refine af ?_;refine xR rfl (xR rfl (xR rfl (xR rfl (xR rfl (xK a wd sz ta Ae u m ws x n dx rfl ⟨T9.same sm,sm _ _ l,by lia,Dx.same sm,ok,λb H3 s3 ib=>?_⟩)))))
    have e:b=false:=by
     cases b with
     |false=>rfl
     |true=>exact absurd (ib.mp rfl) no
    refine xB _ _ rfl ⟨rfl,xR rfl ?_⟩;subst e;refine ite2 (λck=>absurd ck (by simp)) (λ_=>?_)
    exact xR rfl (sm.trans s3)
   ·refineλσ Hc aj=>opq λbl aa=>?_;obtain⟨v9,rfl,sm⟩:=aj;refine aa ?_;have T9:=T9.same sm;have l:=sm _ _ l;have S9:=S9.same sm;have g:TabO Hc Pt:=sm _ _ g;have v:=sm _ _ v;have gp:=sm _ _ gp;have ML:=MosL.same ML sm;clear a3 a9 sm;refine b0 _ _ (cut λN3 b7=>?_);refine⟨8,rfl,by decide,by decide,qDS (lo:=0) (n:=8) (λj σ Hz=>∃(t':Int) (ns':List Int) (v9 v10 v11:Option V),σ=[some (.ref sc),some (.ref d),some (.int (0+(i:Int))),some (.ref a),some (.ref wd),some (.ref sz),some (.ref ta),some (.ref TT),some (.ref ol),v9,v10,v11,v12]/\StAt Hz d c t' ns'/\t'<=1000*i+300+20*j/\TKit Hz a wd sz Ae u m/\Hz ta=some (.tup (ws.map V.int))/\TabO Hz Pt/\Hz TT=some (.tup [.str "plan",.ref p,.int (dosO ms:Int)])/\Hz p=some (.lst (rs.map V.ref))/\MosL Hz rs ms)
     ⟨t3,ao,_,_,_,rfl,S9,by lia,T9,l,g,v,gp,ML⟩ ?_ ?_⟩
    ·clear T9 l S9 g v gp ML;refineλj σ Hz hj ag=>opq λbm ah=>?_;obtain⟨t',ns',v9,v10,v11,rfl,S,bc,T,l,g,v,gp,ML⟩:=ag;refine ah ?_;refine xR rfl (xR rfl (xR rfl (xR rfl (xR rfl ⟨d,xN c a wd sz TT p t' ns' Ae u m rs ms st rfl ⟨S,(by show t'<=1000000000-1000;lia),T,v,gp,ML,RU,lm,λT' l' xs sv az ap H' S' h1 h2 K' b3 bb AI lx lf=>?_⟩⟩))))
     obtain⟨ds,dv,a8,ld,fs,sb⟩:=AI.pln b3 bb lx lf;have T:=T.keep S K';have l:=K' _ _ l (S.tup l).1 (S.tup l).2;have g:=g.keep S K';have v:=K' _ _ v (S.tup v).1 (S.tup v).2;have gp:=K' _ _ gp np.1 np.2;have ML:=MosL.keep ML S K';refine xR rfl (xC T' 3 _ rfl ⟨a8.dat,by decide,sb.sh,sb.nd,sb.shown (by decide),?_⟩)
     refine xR rfl (xR rfl (xR rfl (xR rfl (xR rfl (xN a wd sz ta T' l' Ae u m ws 2 ds sv dv rfl ⟨T,l,by lia,a8,by lia,fs,λH2 s2=>(xR rfl ?_)⟩)))))
     refine iteF ?_;refine xR rfl (xC T' 3 _ rfl ⟨(a8.same s2).dat,by decide,sb.sh,sb.nd,sb.shown (by decide),?_⟩)
     refine xR rfl ⟨rfl,xR rfl ?_⟩;refine ite2 (λck=>absurd ck (by simp)) (λ_=>?_)
     exact xE az ap _ _ _ rfl ⟨S'.same s2,by lia,T.same s2,s2 _ _ l,s2 _ _ g,s2 _ _ v,s2 _ _ gp,MosL.same ML s2⟩
    ·clear T9 l S9 g v gp ML;refineλσ Hz ab=>opq λbj ac=>?_;obtain⟨t',ns',v9,v10,v11,rfl,S,bc,T,l,g,v,gp,ML⟩:=ab;refine ac ?_;refine b7 _ _ ?_;obtain⟨ra,hA,NL⟩:=id T.net_;have bp:ra.length=Ae.length:=C5 NL;refine xR rfl (xR rfl (xB ta _ rfl ⟨l,λq1 G1 s1 x1=>?_⟩));rw[qBG,show(3:Int)=((3:Nat):Int) from rfl,qQ6] at x1;have hA:=s1 _ _ hA;have S1:=S.same s1;have T:=T.same s1;have g:TabO G1 Pt:=s1 _ _ g;have v:=s1 _ _ v;have gp:=s1 _ _ gp;have ML:=MosL.same ML s1;clear S l s1;refine xR rfl (xR rfl (xB a _ rfl ⟨.inr (Ac0 hA),xE d c t' ns' _ rfl ⟨S1,(by show t'<=1000000000;lia),(by rw[A0];lia),(by rw[A0];lia),λx b6 G2 y0 y1 S2 K2=>?_⟩⟩))
     have T:=T.keep S1 K2;have x1:=K2 _ _ x1 (S1.tup x1).1 (S1.tup x1).2;have g:=g.keep S1 K2;have v:=K2 _ _ v (S1.tup v).1 (S1.tup v).2;have gp:=K2 _ _ gp np.1 np.2;have ML:=MosL.keep ML S1 K2;clear S1 K2 hA;refine⟨(by show 1<=B75;decide),λq2 b8=>?_⟩
     obtain⟨G3,y,s3,x2⟩:=qAI b8 (.tup ([x].map V.int));have y:Ag G2 q2 (.tup [V.int x])=G3:=y;rw[y];clear y;refine xD q1 q2 _ _ rfl ⟨rfl,Ac0 (s3 _ _ x1),Ac0 x2,.inr ⟨by simp,x2⟩,F5 (qAQ (by rw[A0,C9];show _+1<=_;lia)),λq3 G4 s4 x3=>?_⟩
     rw[<- C4] at x3;have l4:(ws.take 3++[x]).length<=4:=by rw[A6,C9,C1];lia
     refine xB q3 _ rfl ⟨Ac0 x3,l4,λe he=>?_⟩;have ld:=qJ3 (ws.take 3++[x]);refine⟨e,dedI (ws.take 3++[x]),rfl,.inr (.inr qA1),by lia,λb ys hb aw hs=>?_⟩
     refine xB b _ rfl (.inl ⟨Ab2 qA1,λr ba=>?_⟩);have s5:=((qA4 he (SetO w e (dedI (ws.take 3++[x])))).trans (qA4 hb (.lst (ys.map V.int)))).trans (qA4 ba (.tup (ys.map V.int)));have gm:=qA1 (H:=Ag (Ag G4 e (SetO w e (dedI (ws.take 3++[x])))) b (.lst (ys.map V.int))) (a:=r) (o:=.tup (ys.map V.int));generalize Ag (Ag (Ag G4 e (SetO w e (dedI (ws.take 3++[x])))) b (.lst (ys.map V.int))) r (.tup (ys.map V.int))=G5 at s5 gm ⊢;have sA:=(s3.trans s4).trans s5;have T:=T.same sA;have S:=S2.same sA;have g:TabO G5 Pt:=sA _ _ g;have v:=sA _ _ v;have gp:=sA _ _ gp;have ML:=MosL.same ML sA;have ly:ys.length<=1000:=by have:=aw.length_eq;lia
     refine xR rfl (xR rfl (xR rfl (xR rfl (xR rfl ⟨a,wd,sz,r,TT,p,Ae,u,m,ys,2,ms.map moD,.int (dosO ms:Int),.int (dosO ms:Int),rfl,T,gm,ly,⟨v,qKC gp ML,.inr (.inr (.inl (xR rfl rfl)))⟩,by rw[A0];lia,qOR,λH6 s6=>(xR rfl ?_)⟩))))
     refine iteF ?_;exact⟨t'+1,xL b6 _ _ _ _ _ _ _ _ _ _ _ rfl ⟨S.same s6,by lia,s6 _ _ g⟩⟩
 ·rintro σ Hc _;exact q Hc
end
theorem all_mk {l:PySem.W.OpenLaw} {K:Ab1} {h:Heap} {mg:Ab0} {fa g i cb av b9 aq c6 bz bh c7 c9 a6 be a4 ap o ay ar ab bn b5 ce bt bj b6 aj a9 bf ca c2 bk b7 a8 ak an aw az p:Addr} (X:K.In h) (G:h.Ns B89 mg) (bp:mg "law" = some (.ref fa))
  {bv au c3 a7 ai u:Option Addr} {b8 al c4:Array (Option Value)} {c0 bg b0 bo a0 as bw ac bx bs ah am a1 x q j y:Value}
  {qCU qEC:Addr}
  (ao:c5 K B89 "Barred" = some (some (.ref g)))
  (cx:L8 K (.ref g) "__init__" = some (some (.ref i)))
  (bu:K.lookup i=some ⟨c0,bv,.func (R5 "__init__" "Barred.__init__" (qEB qBP) (qCJ qBP) (qAA qBP) .none bg b0 bo au a0 as),b8⟩) (bd:f9 K a0 "Barred.__init__" = true) (ag:M8 K (.ref i)=true)
  (T_is_number:Tf K "is_number" qEM cb)
  (T_is_below:Tf K "is_below" qFQ av)
  (T_is_pair:Tf K "is_pair" qGS b9)
  (T_has_all:Tf K "has_all" qGT aq)
  (T_steps_of:Tf K "steps_of" qFP c6)
  (T_plan_to:Tf K "plan_to" qGR bz)
  (T_fault_of_do:Tf K "fault_of_do" qD5 bh)
  (T_fault_there:Tf K "fault_there" qD4 c7)
  (T_layout_behind:Tf K "layout_behind" qCE c9)
  (T_moved_there:Tf K "moved_there" qD3 a6)
  (T_moves_there:Tf K "moves_there" qD2 be)
  (T_layouts_reached:Tf K "layouts_reached" qBY a4)
  (T_rank_of:Tf K "rank_of" qGQ ap)
  (ax:c5 K B89 "least_there" = some (some (.ref o))) (bc:K.lookup o=some ⟨bw,c3,.func (R5 "least_there" "least_there" (qEB qBO) (qCJ qBO) (qAA qBO) .none ac bx bs a7 (.ref qCU) ah),al⟩) (b1:f9 K (.ref qCU) "least_there" = true) (bq:M8 K (.ref o)=true)
  (T_is_move_there:Tf K "is_move_there" qCF ay)
  (T_does_there:Tf K "does_there" qDY ar)
  (T_is_layout:Tf K "is_layout" qEN ab)
  (T_never_there:Tf K "never_there" qD1 bn)
  (T_shows_there:Tf K "shows_there" qD0 b5)
  (T_Lbegin:Tf K "_law_begin" qIW ce)
  (T_Ltake:Tf K "_law_take" qMC bt)
  (T_Lsame:Tf K "_law_same" qJI bj)
  (T_Lsome_needs:Tf K "_law_some_needs" qD6 b6)
  (T_Ltree_net:Tf K "_law_tree_net" qEO aj)
  (T_Lnet:Tf K "_law_net" qQK a9)
  (T_Lasked:Tf K "_law_asked" qIX bf)
  (T_Lthere:Tf K "_law_there" qIU ca)
  (T_Lfault:Tf K "_law_fault" qIV c2)
  (T_Lput:Tf K "_law_put" qQJ bk)
  (T_Lall_moves:Tf K "_law_all_moves" qDZ b7)
  (T_Lhas_all:Tf K "_law_has_all" qFR a8)
  (T_Lled:Tf K "_law_led" qQL ak)
  (T_Ljudged:Tf K "_law_judged" qGU an)
  (T_Lshown_right:Tf K "_law_shown_right" qCQ aw)
  (T_Lbent:Tf K "_law_bent" qMD az)
  (bi:c5 K B89 "law" = some (some (.ref p))) (bb:K.lookup p=some ⟨am,ai,.func (R5 "law" "law" (qEB qKS) (qCJ qKS) (qAA qKS) .none a1 x q u j y),c4⟩) (bl:f9 K j "law" = true) (ae:M8 K (.ref p)=true)
  (cc:xcIn K g (some (.ref i))=true)
  (ad:L8 K (.ref g) "__setattr__" = some (some (.builtin "object.__setattr__")))
  (a3:M8 K (.ref g)=true)
  (qEE:A16 K (.ref i)=true)
  (n_move:L8 K (.ref g) "move" = some none)
  (cn:A67 K (.ref g) (.ref g)=some true)
  (n_word:L8 K (.ref g) "word" = some none)
  (qCS:hdIn K qCU qEC=true)
  (Z:Zs K ["all","any","bool","divmod","enumerate","int","isinstance","len","list","max","min","range","set","sorted","str","tuple","zip"])
  : ∃fd:B88,(∀(s:Shared) (v:Value),BindsTo s fd ⟨[v],[]⟩ [("_law_script",v)])/\∀base:Heap,K.In base->base.Ns B89 mg->BM mg base->FnOk l.prog w K mg base CX0 8 fa fd ["_law_script"] (qQG K qEC):=by
 have e:=bp.symm.trans (A39 X G bi);cases e;have d:=fun_mk (st:=qBP) bu bd ag;have qDC:=d.binds (ps:=["self","move","word"]) λ_ _ _ _ _ _ k m=>match k,m with|[_,_,_],_=>rfl
 obtain⟨cf,a,co⟩:=T_moved_there.use X G;have d4:=a.binds (ps:=["net","wides","sizes","layout","move"]) λ_ _ _ _ _ _ k m=>us5 k m (λ_ _ _ _ _=>rfl);have d8:=a.kp;have b:=fun_mk (st:=qBO) bc b1 bq;have c1:=b.binds (ps:=["net","wides","sizes","asked"]) λ_ _ _ _ _ _ k m=>match k,m with|[_,_,_,_],_=>rfl
 have c8:=A39 X G ax;obtain⟨cu,f,qGG⟩:=T_Lsame.use X G;have qGO:=f.binds (ps:=["_law_found","_law_due"]) λ_ _ _ _ _ _ k m=>us2 k m (λ_ _=>rfl);have cd:=fun_mk (st:=qKS) bb bl ae;have qFV:=A39 X G ao;have qCZ:XCls K g (some (.ref i)):=⟨cc,ad,a3⟩;obtain⟨br,d5,af,ck,d1,bm,b2,r,a5,d9,b4,aa,ba,a2,z,t,b3,_⟩:=Z.mg X G;refine⟨R5 "law" "law" (qEB qKS) (qCJ qKS) (qAA qKS) .none a1 x q u j y,λs v=>.of_eq rfl,λbase _ _ hBM=>?_⟩;have B:Bs l.prog w base:=⟨rfl,rfl,rfl⟩;have qDD:=ok_init_Barred (P:=l.prog) (w:=w) (mg:=mg) (base:=base) (F:=d) (qCZ:=qCZ) (n_move:=n_move) (n_word:=n_word);obtain⟨_,cw⟩:=T_is_number.c X G B λ_ F=>by apply ok_is_number<;>assumption
 obtain⟨_,ct⟩:=T_is_below.c X G B λ_ F=>by apply ok_is_below<;>assumption
 obtain⟨_,cv⟩:=T_is_pair.c X G B λ_ F=>by apply ok_is_pair<;>assumption
 obtain⟨_,qC5⟩:=T_has_all.c X G B λ_ F=>by apply ok_has_all<;>assumption
 obtain⟨_,cy⟩:=T_steps_of.c X G B λ_ F=>by apply ok_steps_of<;>assumption
 obtain⟨_,qHP⟩:=T_plan_to.c X G B λ_ F=>by apply ok_plan_to<;>assumption
 obtain⟨_,cl⟩:=T_fault_of_do.c X G B λ_ F=>by apply ok_fault_of_do<;>assumption
 obtain⟨_,qC1⟩:=T_fault_there.c X G B λ_ F=>by apply ok_fault_there<;>assumption
 obtain⟨_,qBB⟩:=T_layout_behind.c X G B λ_ F=>by apply ok_layout_behind<;>assumption
 have d2:=ok_moved_there (P:=l.prog) (w:=w) (mg:=mg) (base:=base) (F:=a) (qC1:=qC1) (qBB:=qBB) (qDD:=qDD) (qDC:=qDC) (qCZ:=qCZ) (qEE:=qEE) (qFV:=qFV);obtain⟨_,d7⟩:=T_moves_there.c X G B λ_ F=>by apply ok_moves_there<;>assumption
 obtain⟨_,qC0⟩:=T_layouts_reached.c X G B λ_ F=>by apply ok_layouts_reached<;>assumption
 obtain⟨_,C_rank_of⟩:=T_rank_of.c X G B λ_ F=>by apply ok_rank_of<;>assumption
 have qDF:=Clb.mk (ok_least_there (P:=l.prog) (w:=w) (mg:=mg) (base:=base) (F:=b) (qC0:=qC0) (qC5:=qC5) (C_rank_of:=C_rank_of) (qHP:=qHP) (qKL:=b4) (qCD:=a2) (hcd:=rfl) (hBM:=hBM) (qCS:=qCS)) c1 b.kp c8;obtain⟨_,d3⟩:=T_is_move_there.c X G B λ_ F=>by apply ok_is_move_there<;>assumption
 obtain⟨_,cm⟩:=T_does_there.c X G B λ_ F=>by apply ok_does_there<;>assumption
 obtain⟨_,cq⟩:=T_is_layout.c X G B λ_ F=>by apply ok_is_layout<;>assumption
 obtain⟨_,cs⟩:=T_never_there.c X G B λ_ F=>by apply ok_never_there<;>assumption
 obtain⟨_,qBR⟩:=T_shows_there.c X G B λ_ F=>by apply ok_shows_there<;>assumption
 obtain⟨_,qJ9⟩:=T_Lbegin.c X G B λ_ F=>by apply ok_Lbegin<;>assumption
 obtain⟨_,qAV⟩:=T_Ltake.c X G B λ_ F=>by apply ok_Ltake<;>assumption
 have da:=Clb.mk (ok_Lsame (P:=l.prog) (w:=w) (mg:=mg) (base:=base) (F:=f) (qGO:=qGO) (qMW:=f.kp) (qGG:=qGG) (n:=4) (qKM:=br) (qG5:=af) (qHT:=bm) (qAC:=b2) (qB1:=r) (qDK:=a5) (qM5:=z) (qAS:=t) (qRT:=b3)) qGO f.kp qGG;obtain⟨_,ci⟩:=T_Lsome_needs.c X G B λ_ F=>by apply ok_Lsome_needs<;>assumption
 obtain⟨_,cg⟩:=T_Ltree_net.c X G B λ_ F=>by apply ok_Ltree_net<;>assumption
 obtain⟨_,cr⟩:=T_Lnet.c X G B λ_ F=>by apply ok_Lnet<;>assumption
 obtain⟨_,qJA⟩:=T_Lasked.c X G B λ_ F=>by apply ok_Lasked<;>assumption
 obtain⟨_,qJ7⟩:=T_Lthere.c X G B λ_ F=>by apply ok_Lthere<;>assumption
 obtain⟨_,d6⟩:=T_Lfault.c X G B λ_ F=>by apply ok_Lfault<;>assumption
 obtain⟨_,cz⟩:=T_Lput.c X G B λ_ F=>by apply ok_Lput<;>assumption
 obtain⟨_,cj⟩:=T_Lall_moves.c X G B λ_ F=>by apply ok_Lall_moves<;>assumption
 obtain⟨_,d0⟩:=T_Lhas_all.c X G B λ_ F=>by apply ok_Lhas_all<;>assumption
 obtain⟨_,ch⟩:=T_Lled.c X G B λ_ F=>by apply ok_Lled<;>assumption
 obtain⟨_,cp⟩:=T_Ljudged.c X G B λ_ F=>by apply ok_Ljudged<;>assumption
 obtain⟨_,qC6⟩:=T_Lshown_right.c X G B λ_ F=>by apply ok_Lshown_right<;>assumption
 obtain⟨_,qNK⟩:=T_Lbent.c X G B λ_ F=>by apply ok_Lbent<;>assumption
 exact ok_law (P:=l.prog) (w:=w) (mg:=mg) (base:=base) (F:=cd) (qJ9:=qJ9) (qJ7:=qJ7) (qJA:=qJA) (qDF:=qDF) (qBR:=qBR) (qNK:=qNK) (qC6:=qC6) (qAV:=qAV) (qB1:=r) (qBC:=aa) (qNM:=ba) (qCD:=a2) (qM5:=z) (qAS:=t)
noncomputable def qYO:List LTab:=[⟨"least_there",133,131,"least_there.<locals>.<lambda>"⟩]
theorem walk {l:PySem.W.OpenLaw} {b:List Str} {XP:(Ab0)->Heap->Prop} {YP:World->Heap->Prop} {d:DefRec} {K:Params->Ab1} (p:l.most=some 63)(j:d.params.defaults=[])
  (y:∀(w:World) (h:Heap),YP w h->(K w.params).In h)
  (g:∀t∈qYO,((PyProof.Rows.recsOf q).find? λe=>e.name==t.x).isSome=true) (i:∀(w:World),∀t∈qYO,B63 (K w.params) t.x=some (t.c,t.P)) (m:∀w:World,A68 (K w.params)=true)
  (F:∀ (w:World) (mg:Ab0) (fa:Addr) (h:Heap),(K w.params).In h->h.Ns B89 mg->mg d.name=some (.ref fa)->
   ∃fd:B88,(∀(s:Shared) (u:Value),BindsTo s fd ⟨[u],[]⟩ [("_law_script",u)])/\∀base:Heap,(K w.params).In base->base.Ns B89 mg->BM mg base->FnOk l.prog w (K w.params) mg base CX0 8 fa fd ["_law_script"] (qQG (K w.params) 131)):
  PySem.W.WalkO q b XP YP l.row.toRowW d [] (λf vs=>B50 f vs):=
 _L.walk_ofT (n:=63) (k:=8) (x:="_law_script") (sp:=λw=>qQG (K w.params) 131) qYO p (by decide) j ⟨rfl,by decide,by decide,rfl⟩ y g i m (λt h t' z _=>by rw[B3.mp h,B3.mp z]) F λ_ _ a o hl v r=>⟨v _ F6,a,o,rfl,r,hl,λ_=>rfl⟩
end _F
open PySem PySem.W PyProof.Rows
set_option maxRecDepth 100000 in
set_option maxHeartbeats 0 in
theorem PySem.Challenge.cw_fewrooms_k52_plans_shown_there_holds : PySem.Challenge.rw_fewrooms_k52_plans_shown_there.Holds := by
 w_on;refine holds_law _F.hpSaid λsaid=>?_
 refine holds_open (q:=_F.hpQ) (Xt:=_F.hpX) (XP:=XL _F.hpQ []) (YP:=(kHook _F.hpK _F.hpA _F.hpE).says)
  _F.hpLeft (kHook _F.hpK _F.hpA _F.hpE).of (kHook _F.hpK _F.hpA _F.hpE).keeps (λs e=>xl_of s (P4.mp e).1) XL.keeps
  (by rfl) (by rfl) (by rfl) (λs e=>recFacts_of (P4.mp e).2) (by rfl)
  (by first|assumption|decide +kernel) (by decide +kernel) ⟨rfl,rfl,rfl,rfl,rfl,by decide +kernel⟩ ?hw ?hc
 case hw=>w_witness2
 k_fill
 refine _F.walk (l:=PySem.Challenge.rw_fewrooms_k52_plans_shown_there) rfl rfl (λw h Y=>PySem.W.kIn_of Y) ?hrec ?htab ?hK ?F
 case hrec=>intro t ht;rw[B3.mp ht];kernel_rfl
 case htab=>intro w t ht;rw[B3.mp ht];kernel_rfl
 case hK=>intro w;kernel_rfl
 case F=>
  intro w mg fa h KX G hmg;refine' _F.all_mk (qCU:=133) (qEC:=131) KX G hmg ?qNI ?qHN ?_ ?_ ?_ ?_ ?_ ?_ ?_ ?_ ?_ ?_ ?_ ?_ ?_ ?_ ?_ ?_ ?_ ?_ ?_ ?_ ?_ ?_ ?_ ?_ ?_ ?_ ?_ ?_ ?_ ?_ ?_ ?_ ?_ ?_ ?_ ?_ ?_ ?_ ?_ ?_ ?_ ?_ ?_ ?_ ?_ ?qJD ?qJB ?qJC ?qEE ?n_move ?qHE ?n_word ?_ ?_
  (case qNI=>k_is)
  (case qHN=>k_is)
  (case qJD=>kernel_rfl)
  (case qJB=>k_is)
  (case qJC=>k_is)
  (case qEE=>k_is)
  (case n_move=>k_is)
  (case qHE=>kernel_rfl)
  (case n_word=>k_is)
  any_goals first|exact⟨by k_is,_,_L.fun_mk (by k_is) (by k_is) (by k_is)⟩|k_is|kernel_rfl
  any_goals (repeat (refine⟨by k_is,?_⟩))
  any_goals exact trivial

