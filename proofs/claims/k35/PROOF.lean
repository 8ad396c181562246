import PyProof.Rows.All
import Wide.All
import OpenK.AllK
import Wide.FinOn
import Lean
import PyProof.EqAt
import PyProof.EqKinds
import PyProof.TupleCall
import PySem.Challenge.RW_fewrooms_k35_whole_fewest_of_small_nets
noncomputable section
set_option compiler.extract_closed false
set_option bootstrap.genMatcherCode false
open PySem.W renaming Frag→Ab1
abbrev Aa0:=List (List Int)
abbrev Aa1:=PySem.Value->PySem.Shared->Prop
abbrev Aa2:=List (PySem.Addr × PySem.Obj)
abbrev Ab0:=PySem.Str->Option PySem.Value
open PyProof.Rows renaming IntsAre→B68,pendingOf→B70,wpS_bind→B73,wpS_pure→B83,pairsOf→B90,listUpdate_at→B93,seqEpoch_at→C11,SortKind→C19,wpS_forRange→C28,AllBare→C29,wpS_modify→C32,reverseSlice'_eq→C40,oneType'→C41
open PySem renaming wpAny_bind→B60,wpAny_pure→B61,sizeLine→B62,Program→B63,sizeLine_eq→B64,wpAny_holding→B65,starEach→B66,wpAny_newObj_type→B67,wpAny_mono→B69,codeAny_builtin→B71,bootBuiltins→B72,mainGlobals→B74,wpAny_tryCatch→B75,plainId_quiet→B76,FuncData→B77,wpAny_call_entry→B78,wpAny_truthy_bool→B79,compareOp→B80,codeAny_mono→B81,wpAny_seqItems→B82,wpAny_pyIter_list→B84,sysModules→B85,codeAny→B86,wpAny_Call_Name_kw→B87,wpAny_letGo→B88,wpAny_setField→B89,wpAny_setState_of→B91,wpAny_updateSeq→B92,SetTable→B94,Arguments→B95,wpAny_field→B96,holding→B97,wpAny_typeNameOfWhole_keyiter→B98,binaryOp→B99,wpAny_of_eq→C00,wpAny_rule→C01,wpAny_passesOwn→C02,wpAny_standAt→C03,bindArgs→C04,wpAny_loadPart_at→C05,wpAny_call→C06,wpAny_typeNameOf_keyiter→C07,behindInMarks→C08,wpAny_newList→C09,wpAny_execs_nil→C10,wpAny_collect_seq→C12,intKind→C13,wpAny_typeOf→C14,firstArgMember→C15,assignEach→C16,NameKind→C17,wpAny_askSetting→C18,codeAny_call_builtin→C20,wpAny_attempt→C21,getItem→C22,sliceBounds→C23,codeAny_of_tree→C24,GenState→C25,wpAny_pyIter_tuple→C26,tupleKind_room_in1→C27,Keyword→C30,typeIs_int→C31,foldedSetIterable→C33,wpAny_pyIter_enum→C34,wpAny_pyNext_list_item→C35,keywordEach→C36,richCompare→C37,attributeBase→C38,noFill_tuple_add→C39,tupleKind→C42,wpAny_pyNext_list_end→C43,builtinLookup_eq_fast→C44,builtinsNs→C45,letOwnedTupleGo→C46,wpAny_loadPart'→C47,call_meets→C48,wpAny_ite_false→C49
open Array renaming length_toList→D2,getElem?_eq_getElem→D9,getD_eq_getD_getElem?→F0,getElem?_toList→M7,getElem?_eq_some_iff→U8,perm_iff_toList_perm→Y5,getElem?_setIfInBounds_ne→i8,size_map→j6,getElem?_eq_none→A26,toList_reverse→A54,getElem_toList→A55,toList_append→A75,forIn_toList→A88,replicate→B25,size_zip→B35,toList→B51
open Bool renaming false_ne_true→C3,false_eq_true→E8,and_eq_true→L4,eq_false_iff→R8,eq_iff_iff→U2,and_false→X5,or_eq_true→b8,true_and→m7,false_and→w6,and_eq_true_iff→A57,not_true→A84,or_true→B04,decide_and→B28,not_false→B31,and_true→B49
open Classical renaming byContradiction→L6,choose→B15
open False renaming elim→P9
open ForInStep renaming yield→P3,done→j4
open Int renaming toNat_natCast→D0,le_refl→L7,emod_lt_of_pos→V5,emod_nonneg→Y0,fdiv_eq_ediv_of_nonneg→p8,fmod_eq_emod_of_nonneg→p9,le_of_lt→A34,le_antisymm→A43,natCast_nonneg→A87,zero_add→B06,not_lt→B41
open List renaming length_map→A0,getElem?_eq_getElem→A4,getElem?_eq_some_iff→A5,mem_singleton→A6,mem_cons_of_mem→A8,length_append→A9,mem_of_getElem?→B0,mem_cons→B1,size_toArray→B5,mem_cons_self→B7,mem_append→B8,length_singleton→B9,map_append→C1,getElem?_map→C5,length_cons→C6,mem_filter→C7,length_take→C8,map_cons→C9,take_add_one→D3,getElem?_of_mem→D6,replicate→D8,mem_map→E1,take_of_length_le→E3,mem_range→E5,range→F5,append_assoc→F7,mem_append_right→F9,not_mem_nil→G2,getElem?_append_left→G4,pairwise_map→G6,mem_filterMap→G8,length_nil→J6,nodup_cons→J7,getElem?_take_of_lt→J8,getElem?_eq_none→K0,map_congr_left→L3,filter_cons→L5,zip_cons_cons→L8,filterMap_cons→M3,append_nil→M4,replicate_succ→M5,length_filter_le→M6,length_eq_zero_iff→O1,getElem?_append_right→O2,pairwise_cons→O6,getElem?_set_self→O7,pairwise_iff_getElem→P5,drop_eq_getElem_cons→P6,foldl_cons→Q4,mem_append_left→Q5,getElem?_set_ne→Q6,mem_of_mem_take→Q7,length_drop→R1,all_eq_true→R3,getD_eq_getElem?_getD→R4,drop_of_length_le→R5,flatten_cons→R6,filter_congr→R9,lookup_cons_self→T1,mem_of_mem_drop→T8,pairwise_lt_range→U5,length_pos_of_mem→U6,exists_cons_of_ne_nil→U9,mem_of_mem_erase→V6,getElem?_zip_eq_some→V9,reverse_cons→W1,nodup_append→W3,pairwise_singleton→W9,filter_eq_self→X0,length_pos_iff→X1,lookup_cons→X2,take_length→X3,lookup→X8,find?_cons→X9,filterMap_append→Y1,take_sublist→Y2,any_cons→Y3,mem_iff_getElem→Y6,pairwise_append→Y7,mem_of_find?_eq_some→Z0,getElem_mem→Z2,map_map→Z8,length_filterMap_le→a9,length_set→b7,pairwise_filterMap→c6,getElem?_cons_succ→c9,reverse_perm→i9,take_append_drop→j8,pairwise_reverse→k6,nodup_range→l7,of_mem_zip→n6,length→n8,nil_append→n9,toList_toArray→o7,length_zip→o8,map_eq_nil_iff→o9,flatten_append→p6,nodup_iff_pairwise_ne→r8,perm_ext_iff_of_nodup→t0,filterMap_map→u6,filter_append→u9,count_eq_zero→w5,nodup_nil→y3,drop_sublist→A02,ext_getElem?→A04,length_erase_of_mem→A05,length_range→A06,all_cons→A09,perm_middle→A17,mem_flatten→A20,range_succ_eq_map→A24,map_nil→A29,forIn_cons→A32,find?_some→A39,map_set→A44,getElem_toArray→A52,reverse_reverse→A56,take_zero→A62,drop_zero→A63,length_reverse→A67,getElem?_range→A76,find?_eq_none→A82,contains_cons→A86,map_drop→A89,getElem?_drop→A90,filter_filter→A91,getElem?_inj→A97,count_append→A98,cons_append→B07,range_succ→B26,filter_map→B27,filter_nil→B29,foldl_nil→B32,forIn_nil→B33,foldl→B37,findIdx?→B45,map_take→B48
open List.Nodup renaming length_le_of_subset→O5
open List.Perm renaming append_left→A33
open Nat renaming le_refl→A7,ne_of_lt→C4,lt_of_lt_of_le→D7,zero_le→E2,le_trans→F3,lt_succ_of_lt→G0,ne_of_gt→O3,pow_le_pow_right→Q8,eq_of_testBit_eq→Q9,lt_of_le_of_lt→T4,le_succ→T5,lt_irrefl→T9,le_of_lt→V2,pow_succ→V4,mul_comm→W4,mul_assoc→W8,le_of_not_lt→Z1,succ_ne_self→Z3,testBit_two_pow→Z4,lt_trans→Z7,testBit_and→d0,strongRecOn→d3,mod_lt→f9,mul_add→i0,lt_trichotomy→j3,min_eq_left→p5,not_lt_zero→p7,add_comm→u7,zero_add→u8,lt_pow_two_of_testBit→y9,mul_left_comm→A01,add_sub_cancel_left→A13,min_eq_right→A19,zero_div→A36,add_zero→A37,sub_zero→A42,testBit_or→A64,add_mod→A71,mul_mod→A72,sub_self→B03,le_total→B05,le_add_right→B08,mod_eq_of_lt→B09,lt_succ_self→B12,add_mul→B22,one_mul→B23,two_pow_pos→B24,not_lt→B40
open Ne renaming symm→F6
open Option renaming toList_some→D5,some→Q2,map_some→T0,isSome_iff_exists→Z5,isSome_map→d8,getD_some→l5,getD_none→A15,map_eq_some_iff→A23,none→B56
open Option.some renaming inj→D1
open Or renaming inl→E9,inr→A30
open PyProof renaming noPylong_small→d4
open PyProof.Rows renaming slot_tuple_getitem→J9,callWith_type1→Q3,callWith_kw→a8
open PyProof.Rows.IntsAre renaming int_at→U4
open PySem renaming mem_of_lookup→K9,call→B38
open PySem.Around renaming under_plainId→E4,under→A27,frames_deeper→A49,under_plain→A83
open PySem.AutoSeq1 renaming sub_tuple_tuple→A00
open PySem.Builtin.Builtins renaming bindParams→M8
open PySem.Builtin.Dict renaming updateFrom→A12,pairItems→A25
open PySem.Builtin.Dict_items renaming ownsTuple→m9
open PySem.Builtin.Frozenset renaming updateFrom→m8,newClass→B30,sizeOf→B39,slot0→B46
open PySem.Builtin.List renaming listTooLong→W2,listLengthHint→o5
open PySem.Builtin.ObjectAttr renaming storeInDict→T3,storeInOwnDict→c8,newKeyGuard→j9
open PySem.Builtin.Range renaming rangeSize→U0,small→A68
open PySem.Builtin.Slice renaming slicePlaces→V7,sliceAdjust→Y8,sliceApplied→q9
open PySem.Builtin.SmallTypes renaming calledThroughType→Y9,newRecord→m5,nextOf→y7,ownedTupleFields→A69
open PySem.Builtin.Tuple renaming tupleExact→Q0,tupleItemsOf→Y4,tupleCompareSizes→d7
open PySem.Calls renaming callWith_builtin→X7,evalArgs_plain→l9,call_function_entry→y8,spliced_cons→A81,spliced_nil→A93
open PySem.ClassData renaming mk→B00
open PySem.Code renaming quiet_builtin→c7,isFrame→B01
open PySem.Data renaming fields→A66,cell→B19
open PySem.EntryCells renaming newEntry→A73
open PySem.F renaming plainAttrs_list→J2,slot_list_append→L9,type_list_append→M0,called_set→M9,plain_min_loop→O8,slot_dict_keyiterator_next→Q1,slot_tuple_iterator_next→U7,plain_max_loop→V0,plain_min_loop→V1,args_tuple_add_2→W0,entry_tuple_add→W7,slot_tuple_add→X6,slot_list_getattribute→Z9,entry_min_loop→d5,args_dict_keyiterator_next_1→k8,entry_dict_keyiterator_next→l8,args_tuple_iterator_next_1→m4,entry_tuple_iterator_next→o6,slot_dict_delitem→y1,store_ValueError→A03,args_tuple_lt_2→A08,plainAttrs_dict→A10,plain_list_iadd→A11,entry_max_loop→A16,entry_min_loop→A18,entry_tuple_lt→A22,slot_tuple_lt→A28,slot_dict_pop→A31,args_object_init_2→A51,called_tuple→A58,plain_tuple_new→A94,entry_type_call→A96,typeCall_set_1→B10,entry_set_init→B11,slot_dict_iter→B14
open PySem.Heap renaming get?_push_of_some→A3,get?_push_size→B3,lt_size→B4,get?_update_other→C0,get?_update_self→E7,size_push→G9,get?_push_ne→g9,size_update→l6,get?_update_ne→A74
open PySem.Heap.DictOf renaming new→B21
open PySem.Heap.IsSliceOf renaming new→B59
open PySem.Heap.SameBut renaming update→R7
open PySem.Heap.UpToSlots renaming refl→B57
open PySem.IsRange renaming new→B55
open PySem.NameKind renaming free→L0,cell→B44
open PySem.Obj renaming mapSeq→G5,data_mapFields→O4,mapFields→U1,isFreed_of_fields→V3,cls_mapFields→g8,mk→A99
open PySem.Paired renaming length→C2,snoc→U3
open PySem.PassesOwn renaming never→F1
open PySem.SeqAt.EqAt renaming int_int→t9,int_str→A77,str_int→A78
open PySem.SetTable renaming below→E6,insertAt→F8,bits→J1,runEnd→P8,turns→V8,sizeAbove→b9,fits→m6,fill→A14,grown→A59,layClean→A95,has→B52
open PySem.SetTable.below renaming go→d9
open PySem.SetTable.layClean renaming free→G1
open PySem.SetTable.probe renaming go→G7
open PySem.SetTable.sizeAbove renaming go→A38
open PySem.Str renaming ofString→B6,empty→T6
open PySem.Value renaming ref→D4,none→J5,int→O9,bool→n4,isInt_shape→z8,isInt→A07,type→A45,notImplemented→A50,str→B16,isStrOf→B43
open PySem.W renaming findIn→G3,keepIn→J4,fnOf→R0,kla_fn→S0,nsIn→W5,codeIn→X4,methodObj→d6,isFn→j7,mg_of→n0,callWith_K→t7,specialIn→z9,cellsFrom_some→A21,kat_nil→A40,hideAll_none→A48,looks_findIn→A53,exmOne→A60,noTabs→A61,hideAll_get→A65,kdu_collect→A70,of_hideAll→A79,mroIn→A80,isNs_of_in→A85,hasDictIn→A92,instObj→B17,hideAll→B18,takesIn→B20,tabObj→B34,kHook→B42,tabIn→B47
open PySem.W.Looks renaming ld→B13
open PySem.W.OpenLaw renaming wellSaid→B36,row→B53
open PySem.W.OpenRow renaming toRowW→B50
open PySem.Walks renaming list→A46
open PySem.Within renaming cons→B58
open PySem.pickOrder renaming go→B02
open StateT renaming run_pure→A35
open Std.Legacy.Range renaming size→A41,forIn_eq_forIn_range'→A47
open Sum renaming inl→F4,inr→O0
open Sum.inl renaming inj→W6
open Sum.inr renaming inj→B54
open True renaming intro→Z6
set_option Elab.async false
set_option linter.all false
set_option maxRecDepth 100000
set_option maxHeartbeats 0
namespace Fw
open PySem
noncomputable def inCl (s:Stmt)(j:Nat):Stmt:=match s with
 |.ClassDef _ _ _ body _ _ _ _ _ _ _=>body.getD j (.Pass ⟨0,0,0,0⟩)
 |_=>.Pass ⟨0,0,0,0⟩
noncomputable def top (i:Nat):Stmt:=PySem.Challenge.pw_fewrooms_k35_whole_fewest_of_small_nets.main.body.getD i (.Pass ⟨0,0,0,0⟩)
noncomputable abbrev qE5:Stmt:=top 1
abbrev qE1:Stmt:=top 2
noncomputable abbrev qE3:Stmt:=top 3
noncomputable abbrev qG0:Stmt:=top 4
abbrev qGR:Stmt:=top 5
abbrev qGP:Stmt:=top 6
abbrev qIK:Stmt:=top 7
noncomputable abbrev qDG:Stmt:=top 13
noncomputable abbrev qG2:Stmt:=top 14
noncomputable abbrev qCO:Stmt:=top 15
abbrev qMK:Stmt:=top 16
noncomputable abbrev qGS:Stmt:=top 17
noncomputable abbrev qG1:Stmt:=top 18
noncomputable abbrev qAG:Stmt:=top 20
noncomputable abbrev qCJ:Stmt:=top 21
noncomputable abbrev qGQ:Stmt:=top 22
noncomputable abbrev qCP:Stmt:=top 24
noncomputable abbrev qIJ:Stmt:=top 25
noncomputable abbrev qDF:Stmt:=top 26
abbrev qII:Stmt:=top 28
abbrev qRP:Stmt:=top 29
abbrev qDH:Stmt:=top 31
abbrev qDE:Stmt:=top 32
abbrev qE4:Stmt:=top 33
abbrev qE2:Stmt:=top 34
abbrev qC5:Stmt:=top 35
noncomputable abbrev qIL:Stmt:=top 37
noncomputable abbrev qMM:Stmt:=top 38
noncomputable abbrev qDI:Stmt:=top 39
noncomputable abbrev qER:Stmt:=top 40
noncomputable abbrev qRQ:Stmt:=top 41
noncomputable abbrev qIM:Stmt:=top 42
abbrev qGT:Stmt:=top 43
abbrev qML:Stmt:=top 44
abbrev qDJ:Stmt:=top 45
abbrev qCQ:Stmt:=top 46
noncomputable abbrev qKX:Stmt:=top 47
abbrev qBL:Stmt:=inCl (top 10) 0
noncomputable def dA (s:Stmt):B95:=match s with
 |.FunctionDef _ a _ _ _ _ _ _ _ _=>a
 |_=>{posonlyargs:=[],args:=[],vararg:=none,kwonlyargs:=[],kw_defaults:=[],kwarg:=none,defaults:=[]}
noncomputable def dB (s:Stmt):List Stmt:=match s with
 |.FunctionDef _ _ b _ _ _ _ _ _ _=>b
 |_=>[]
noncomputable def dS (s:Stmt):Scope:=match s with
 |.FunctionDef _ _ _ _ _ _ sc _ _ _=>sc
 |_=>{kind:=.function,names:=[],isGenerator:=false,isCoroutine:=false}
noncomputable abbrev so (s:String):Str:=PySem.Str.ofString s
noncomputable abbrev kh (P:Params)(s:Str):Int:=PySem.PyData.keyHash P s
noncomputable abbrev hde (P:Params)(s:String)(n:Nat)(v:Value):DictEntry:=⟨kh P (so s),.str (so s) n,v⟩
noncomputable abbrev hvs (s:String)(n:Nat):Value:=.str (so s) n
noncomputable abbrev hcut (n:Nat):Value:=hvs "/claim/cut.py" n
noncomputable abbrev hfd (x q:String)(s:Stmt)(a b c d:Value)(e:Option Addr)(f g:Value)(i:Addr):B77:=⟨so x,so q,dA s,.stmts (dB s),dS s,3,[],a,b,c,d,e,f,g,i⟩
noncomputable abbrev htp (d:Data) (s:Array (Option Value)):Obj:=⟨.type "tuple",none,d,s⟩
noncomputable abbrev hcd (d:Data) (s:Array (Option Value)):Obj:=⟨.type "code",none,d,s⟩
noncomputable abbrev hfn (d:Data) (s:Array (Option Value)):Obj:=⟨.type "function",none,d,s⟩
noncomputable abbrev ht0:Obj:=htp (.seq #[]) #[]
noncomputable def hvl:List String->Nat->List Value
 |[],_=>[]
 |x::r,n=>hvs x n::hvl r (n+1)
noncomputable abbrev hts (l:List String)(n:Nat):Obj:=htp (.seq (hvl l n).toArray) #[]
noncomputable abbrev hco (x:String)(t:Nat)(ln ac fl:Int)(b:Nat)(md e:Int)(n:Nat):Obj:=hcd (.fields #[hvs x t,hvs x (t+1),hcut (t+2),.int ln 0,.int ac 0,.int 0 0,.int 0 0,.int fl 0,.ref b,.bool .true,.int md 0,.ref (b+1),.none,.ref (b+2),.ref (b+3),.ref (b+4),.int e 0,.int ln 0,hcut n]) #[]
noncomputable abbrev hcp (x:String)(t:Nat)(ln ac:Int)(b:Nat)(md e:Int):Obj:=hcd (.fields #[hvs x t,hvs x (t+1),hcut (t+2),.int ln 0,.int ac 0,.int 0 0,.int 0 0,.int 3 0,.ref b,.bool .true,.int md 0,.ref (b+1),.none,.none,.none,.ref (b+2),.int e 0,.int ln 0,hcut (t+4)]) #[]
noncomputable abbrev hfo (x:String)(s:Stmt)(m:String)(t c:Nat):Obj:=hfn (.func (hfd x x s .none .none .none (hvs m t) .none (.ref c) .none 0)) #[]
noncomputable def hpK:Params->Ab1:=λP=>
 (nat_lit 2,A99 .none .none (.dict #[]) #[])::
 (nat_lit 3,A99 (.type "dict") .none (.dict #[hde P "__name__" 165 (hvs "law_fewrooms_k35_whole_fewest_of_small_nets" 478),hde P "__doc__" 166 .none,hde P "__package__" 167 .none,hde P "__loader__" 168 (.builtin "__main__.__loader__#opaque"),hde P "__spec__" 169 .none,hde P "__annotations__" 170 (.ref 6),hde P "__builtins__" 171 (.ref 4),hde P "__file__" 173 (hcut 172),hde P "__cached__" 174 .none,hde P "all_needed" 199 (.ref 21),hde P "use_counts" 210 (.ref 28),hde P "renumbered" 216 (.ref 33),hde P "part_net" 222 (.ref 38),hde P "is_tree" 228 (.ref 43),hde P "shifted" 234 (.ref 48),hde P "beside" 240 (.ref 53),hde P "RoomError" 260 (.ref 63),hde P "Barred" 287 (.ref 83),hde P "NoTree" 303 (.ref 95),hde P "fault_of_do" 318 (.ref 104),hde P "fault_of" 328 (.ref 111),hde P "stand_behind" 334 (.ref 116),hde P "moved" 345 (.ref 123),hde P "has_all" 351 (.ref 128),hde P "moves_of" 357 (.ref 133),hde P "stands_reached" 374 (.ref 140),hde P "best_end" 380 (.ref 145),hde P "plan_to" 389 (.ref 152),hde P "part_numbers" 397 (.ref 157),hde P "fewest" 403 (.ref 162),hde P "never_paper" 414 (.ref 169),hde P "played" 430 (.ref 176),hde P "does" 441 (.ref 183),hde P "demand_tree" 451 (.ref 190),hde P "number_over" 457 (.ref 195),hde P "numbers_of" 463 (.ref 200),hde P "tree_rooms" 471 (.ref 207),hde P "tree_plan" 477 (.ref 212),hde P "_law_begin" 487 (.ref 219),hde P "_law_take" 500 (.ref 226),hde P "_law_some_needs" 511 (.ref 233),hde P "_law_tree_net" 523 (.ref 240),hde P "_law_net" 529 (.ref 245),hde P "_law_asked" 539 (.ref 252),hde P "_law_needed" 545 (.ref 257),hde P "_law_told" 551 (.ref 262),hde P "_law_more_right" 557 (.ref 267),hde P "_law_alone_right" 563 (.ref 272),hde P "law" 577 (.ref 279)] 49) #[])::
 (nat_lit 15,ht0)::
 (nat_lit 17,hts ["net","asked","wanted","work","need"] 192)::
 (nat_lit 18,ht0)::
 (nat_lit 20,hco "all_needed" 189 2 2 3 15 181 197 198)::
 (nat_lit 21,hfo "all_needed" qE5 "fewrooms.nets" 187 20)::
 (nat_lit 22,ht0)::
 (nat_lit 24,hts ["net","works","counts","work","need"] 203)::
 (nat_lit 25,ht0)::
 (nat_lit 27,hco "use_counts" 200 11 2 3 22 181 208 209)::
 (nat_lit 28,hfo "use_counts" qE1 "fewrooms.nets" 187 27)::
 (nat_lit 29,ht0)::
 (nat_lit 32,hcp "renumbered" 211 17 2 29 181 214)::
 (nat_lit 33,hfo "renumbered" qE3 "fewrooms.nets" 187 32)::
 (nat_lit 34,ht0)::
 (nat_lit 37,hcp "part_net" 217 19 2 34 181 220)::
 (nat_lit 38,hfo "part_net" qG0 "fewrooms.nets" 187 37)::
 (nat_lit 39,ht0)::
 (nat_lit 42,hcp "is_tree" 223 24 2 39 181 226)::
 (nat_lit 43,hfo "is_tree" qGR "fewrooms.nets" 187 42)::
 (nat_lit 44,ht0)::
 (nat_lit 47,hcp "shifted" 229 28 2 44 181 232)::
 (nat_lit 48,hfo "shifted" qGP "fewrooms.nets" 187 47)::
 (nat_lit 49,ht0)::
 (nat_lit 52,hcp "beside" 235 30 2 49 181 238)::
 (nat_lit 53,hfo "beside" qIK "fewrooms.nets" 187 52)::
 (nat_lit 54,htp (.seq #[.type "ValueError"]) #[])::
 (nat_lit 61,ht0)::
 (nat_lit 62,A99 (.type "dict") .none (.dict #[hde P "__module__" 250 (hvs "fewrooms.errors" 241),hde P "__firstlineno__" 254 (.int 33 253),hde P "__static_attributes__" 255 (.ref 61),hde P "__weakref__" 257 (.ref 64),hde P "__doc__" 258 .none] 3) #[])::
 (nat_lit 63,A99 (.type "type") .none (.cls (B00 (so "RoomError") [.type "ValueError"] [.ref 63,.type "ValueError",.type "Exception",.type "BaseException",.type "object"] 62 (so "RoomError") .true [] [.ref 83,.ref 95] .false .none .false)) #[Q2 (.ref 54),.none,Q2 (hvs "RoomError" 243),Q2 (hvs "RoomError" 251),Q2 (.builtin "ValueError.__new__"),Q2 (.bool .true)])::
 (nat_lit 64,A99 (.type "getset_descriptor") .none (.fields #[hvs "__weakref__" 256,.ref 63,.builtin "ExceptionGroup.__weakref__",.none]) #[])::
 (nat_lit 67,htp (.seq #[.ref 63]) #[])::
 (nat_lit 74,ht0)::
 (nat_lit 76,hts ["self","move","word"] 276)::
 (nat_lit 77,ht0)::
 (nat_lit 79,hcd (.fields #[hvs "__init__" 273,hvs "Barred.__init__" 274,hcut 275,.int 37 0,.int 3 0,.int 0 0,.int 0 0,.int 3 0,.ref 74,.bool .true,.int 181 0,.ref 75,.none,.ref 76,.ref 77,.ref 78,.int 279 0,.int 37 0,hcut 280]) #[])::
 (nat_lit 80,hfn (.func (hfd "__init__" "Barred.__init__" qBL .none .none .none (hvs "fewrooms.errors" 241) .none (.ref 79) .none 0)) #[])::
 (nat_lit 81,hts ["move","word"] 282)::
 (nat_lit 82,A99 (.type "dict") .none (.dict #[hde P "__module__" 268 (hvs "fewrooms.errors" 241),hde P "__firstlineno__" 272 (.int 35 271),hde P "__init__" 281 (.ref 80),hde P "__static_attributes__" 284 (.ref 81),hde P "__doc__" 285 .none] 2) #[])::
 (nat_lit 83,A99 (.type "type") .none (.cls (B00 (so "Barred") [.ref 63] [.ref 83,.ref 63,.type "ValueError",.type "Exception",.type "BaseException",.type "object"] 82 (so "Barred") .true [] [] .false .none .false)) #[Q2 (.ref 67),.none,Q2 (hvs "Barred" 261),Q2 (hvs "Barred" 269),Q2 (.builtin "ValueError.__new__"),Q2 (.bool .true)])::
 (nat_lit 86,htp (.seq #[.ref 63]) #[])::
 (nat_lit 93,ht0)::
 (nat_lit 94,A99 (.type "dict") .none (.dict #[hde P "__module__" 295 (hvs "fewrooms.errors" 241),hde P "__firstlineno__" 299 (.int 40 298),hde P "__static_attributes__" 300 (.ref 93),hde P "__doc__" 301 .none] 2) #[])::
 (nat_lit 95,A99 (.type "type") .none (.cls (B00 (so "NoTree") [.ref 63] [.ref 95,.ref 63,.type "ValueError",.type "Exception",.type "BaseException",.type "object"] 94 (so "NoTree") .true [] [] .false .none .false)) #[Q2 (.ref 86),.none,Q2 (hvs "NoTree" 288),Q2 (hvs "NoTree" 296),Q2 (.builtin "ValueError.__new__"),Q2 (.bool .true)])::
 (nat_lit 98,ht0)::
 (nat_lit 100,hts ["net","rooms","stand","work","there","result","need"] 309)::
 (nat_lit 101,ht0)::
 (nat_lit 103,hco "fault_of_do" 306 43 4 3 98 181 316 317)::
 (nat_lit 104,hfo "fault_of_do" qDG "fewrooms.moves" 304 103)::
 (nat_lit 105,ht0)::
 (nat_lit 107,hts ["net","rooms","stand","move"] 322)::
 (nat_lit 108,ht0)::
 (nat_lit 110,hco "fault_of" 319 55 4 3 105 181 326 327)::
 (nat_lit 111,hfo "fault_of" qG2 "fewrooms.moves" 304 110)::
 (nat_lit 112,ht0)::
 (nat_lit 115,hcp "stand_behind" 329 61 2 112 181 332)::
 (nat_lit 116,hfo "stand_behind" qCO "fewrooms.moves" 304 115)::
 (nat_lit 117,ht0)::
 (nat_lit 119,hts ["net","rooms","stand","move","word"] 338)::
 (nat_lit 120,ht0)::
 (nat_lit 122,hco "moved" 335 65 4 3 117 181 343 344)::
 (nat_lit 123,hfo "moved" qMK "fewrooms.moves" 304 122)::
 (nat_lit 124,ht0)::
 (nat_lit 127,hcp "has_all" 346 70 2 124 181 349)::
 (nat_lit 128,hfo "has_all" qGS "fewrooms.moves" 304 127)::
 (nat_lit 129,ht0)::
 (nat_lit 132,hcp "moves_of" 352 72 3 129 181 355)::
 (nat_lit 133,hfo "moves_of" qG1 "fewrooms.moves" 304 132)::
 (nat_lit 134,ht0)::
 (nat_lit 136,hts ["net","rooms","reached","due","later","stand","move","further","steps"] 363)::
 (nat_lit 137,ht0)::
 (nat_lit 139,hco "stands_reached" 360 77 2 3 134 181 372 373)::
 (nat_lit 140,hfo "stands_reached" qAG "fewrooms.stairs" 358 139)::
 (nat_lit 141,ht0)::
 (nat_lit 144,hcp "best_end" 375 91 2 141 181 378)::
 (nat_lit 145,hfo "best_end" qCJ "fewrooms.stairs" 358 144)::
 (nat_lit 146,ht0)::
 (nat_lit 148,hts ["reached","stand","plan"] 384)::
 (nat_lit 149,ht0)::
 (nat_lit 151,hco "plan_to" 381 94 2 3 146 181 387 388)::
 (nat_lit 152,hfo "plan_to" qGQ "fewrooms.stairs" 358 151)::
 (nat_lit 153,ht0)::
 (nat_lit 156,hcp "part_numbers" 392 102 2 153 181 395)::
 (nat_lit 157,hfo "part_numbers" qCP "fewrooms.trying" 390 156)::
 (nat_lit 158,ht0)::
 (nat_lit 161,hcp "fewest" 398 104 2 158 181 401)::
 (nat_lit 162,hfo "fewest" qIJ "fewrooms.trying" 390 161)::
 (nat_lit 163,ht0)::
 (nat_lit 165,hts ["net","asked","rooms","works","reached"] 407)::
 (nat_lit 166,ht0)::
 (nat_lit 168,hco "never_paper" 404 115 3 3 163 181 412 413)::
 (nat_lit 169,hfo "never_paper" qDF "fewrooms.trying" 390 168)::
 (nat_lit 170,ht0)::
 (nat_lit 172,hts ["net","rooms","plan","stand","stands","number","move","word"] 420)::
 (nat_lit 173,ht0)::
 (nat_lit 175,hco "played" 417 122 3 3 170 181 428 429)::
 (nat_lit 176,hfo "played" qII "fewrooms.plans" 415 175)::
 (nat_lit 177,ht0)::
 (nat_lit 179,hts ["net","rooms","plan","asked","stands"] 434)::
 (nat_lit 180,ht0)::
 (nat_lit 182,hco "does" 431 132 4 3 177 181 439 440)::
 (nat_lit 183,hfo "does" qRP "fewrooms.plans" 415 182)::
 (nat_lit 184,ht0)::
 (nat_lit 186,hts ["net","work"] 447)::
 (nat_lit 187,ht0)::
 (nat_lit 189,hco "demand_tree" 444 139 2 3 184 181 449 450)::
 (nat_lit 190,hfo "demand_tree" qDH "fewrooms.trees" 442 189)::
 (nat_lit 191,ht0)::
 (nat_lit 194,hcp "number_over" 452 142 1 191 181 455)::
 (nat_lit 195,hfo "number_over" qDE "fewrooms.trees" 442 194)::
 (nat_lit 196,ht0)::
 (nat_lit 199,hcp "numbers_of" 458 145 2 196 181 461)::
 (nat_lit 200,hfo "numbers_of" qE4 "fewrooms.trees" 442 199)::
 (nat_lit 201,ht0)::
 (nat_lit 203,hts ["net","work"] 467)::
 (nat_lit 204,ht0)::
 (nat_lit 206,hco "tree_rooms" 464 151 2 3 201 181 469 470)::
 (nat_lit 207,hfo "tree_rooms" qE2 "fewrooms.trees" 442 206)::
 (nat_lit 208,ht0)::
 (nat_lit 211,hcp "tree_plan" 472 153 2 208 181 475)::
 (nat_lit 212,hfo "tree_plan" qC5 "fewrooms.trees" 442 211)::
 (nat_lit 213,ht0)::
 (nat_lit 215,hts ["_law_script","_law_cells"] 483)::
 (nat_lit 216,ht0)::
 (nat_lit 218,hco "_law_begin" 480 164 1 3 213 181 485 486)::
 (nat_lit 219,hfo "_law_begin" qIL "law_fewrooms_k35_whole_fewest_of_small_nets" 478 218)::
 (nat_lit 220,ht0)::
 (nat_lit 222,hts ["_law_state","_law_many","_law_turn","_law_place","_law_cell","_law_digit","_law_mixed"] 491)::
 (nat_lit 223,ht0)::
 (nat_lit 225,hco "_law_take" 488 169 2 3 220 181 498 499)::
 (nat_lit 226,hfo "_law_take" qMM "law_fewrooms_k35_whole_fewest_of_small_nets" 478 225)::
 (nat_lit 227,ht0)::
 (nat_lit 229,hts ["_law_state","_law_k","_law_found","_law_turn","_law_far"] 504)::
 (nat_lit 230,ht0)::
 (nat_lit 232,hco "_law_some_needs" 501 180 2 3 227 181 509 510)::
 (nat_lit 233,hfo "_law_some_needs" qDI "law_fewrooms_k35_whole_fewest_of_small_nets" 478 232)::
 (nat_lit 234,ht0)::
 (nat_lit 236,hts ["_law_state","_law_many","_law_open_ones","_law_found","_law_k","_law_so_many"] 515)::
 (nat_lit 237,ht0)::
 (nat_lit 239,hco "_law_tree_net" 512 187 2 3 234 181 521 522)::
 (nat_lit 240,hfo "_law_tree_net" qER "law_fewrooms_k35_whole_fewest_of_small_nets" 478 239)::
 (nat_lit 241,ht0)::
 (nat_lit 244,hcp "_law_net" 524 195 2 241 181 527)::
 (nat_lit 245,hfo "_law_net" qRQ "law_fewrooms_k35_whole_fewest_of_small_nets" 478 244)::
 (nat_lit 246,ht0)::
 (nat_lit 248,hts ["_law_state","_law_net_here","_law_found","_law_turn"] 533)::
 (nat_lit 249,ht0)::
 (nat_lit 251,hco "_law_asked" 530 210 2 3 246 181 537 538)::
 (nat_lit 252,hfo "_law_asked" qIM "law_fewrooms_k35_whole_fewest_of_small_nets" 478 251)::
 (nat_lit 253,ht0)::
 (nat_lit 256,hcp "_law_needed" 540 215 2 253 181 543)::
 (nat_lit 257,hfo "_law_needed" qGT "law_fewrooms_k35_whole_fewest_of_small_nets" 478 256)::
 (nat_lit 258,ht0)::
 (nat_lit 261,hcp "_law_told" 546 224 2 258 181 549)::
 (nat_lit 262,hfo "_law_told" qML "law_fewrooms_k35_whole_fewest_of_small_nets" 478 261)::
 (nat_lit 263,ht0)::
 (nat_lit 266,hcp "_law_more_right" 552 233 4 263 181 555)::
 (nat_lit 267,hfo "_law_more_right" qDJ "law_fewrooms_k35_whole_fewest_of_small_nets" 478 266)::
 (nat_lit 268,ht0)::
 (nat_lit 271,hcp "_law_alone_right" 558 243 3 268 181 561)::
 (nat_lit 272,hfo "_law_alone_right" qCQ "law_fewrooms_k35_whole_fewest_of_small_nets" 478 271)::
 (nat_lit 273,ht0)::
 (nat_lit 275,hts ["_law_script","_law_state","_law_net_here","_law_asked_here","_law_rooms","_law_other","_law_tree","_law_last"] 567)::
 (nat_lit 276,ht0)::
 (nat_lit 278,hco "law" 564 246 1 3 273 181 575 576)::
 (nat_lit 279,hfo "law" qKX "law_fewrooms_k35_whole_fewest_of_small_nets" 478 278)::
 []
noncomputable def hpA:List Addr:=[2,3,15,17,18,20,21,22,24,25,27,28,29,32,33,34,37,38,39,42,43,44,47,48,49,52,53,54,61,62,63,64,67,74,76,77,79,80,81,82,83,86,93,94,95,98,100,101,103,104,105,107,108,110,111,112,115,116,117,119,120,122,123,124,127,128,129,132,133,134,136,137,139,140,141,144,145,146,148,149,151,152,153,156,157,158,161,162,163,165,166,168,169,170,172,173,175,176,177,179,180,182,183,184,186,187,189,190,191,194,195,196,199,200,201,203,204,206,207,208,211,212,213,215,216,218,219,220,222,223,225,226,227,229,230,232,233,234,236,237,239,240,241,244,245,246,248,249,251,252,253,256,257,258,261,262,263,266,267,268,271,272,273,275,276,278,279]
noncomputable def hpQ:B63:=PySem.W.view PySem.Challenge.pw_fewrooms_k35_whole_fewest_of_small_nets [1,2,3,4,5,6,7,9,10,11,13,14,15,16,17,18,20,21,22,24,25,26,28,29,31,32,33,34,35,37,38,39,40,41,42,43,44,45,46,47]
def hpN:Nat:=3742
theorem hpE (P:Params):hpA=(hpK P).map (·.1):=by kernel_rfl
noncomputable def hpX (s:Shared):Bool:=PySem.W.xlAt hpQ [] s&&PySem.W.recOk (PySem.W.RowW.records (B50 (B53 PySem.Challenge.rw_fewrooms_k35_whole_fewest_of_small_nets))) s
theorem hpLeft:PySem.W.LeftO PySem.Challenge.pw_fewrooms_k35_whole_fewest_of_small_nets hpQ [] hpX (B42 hpK hpA hpE).obs (B42 hpK hpA hpE).val hpN:=λw=>by kernel_rfl
theorem hpSaid:B36 PySem.Challenge.rw_fewrooms_k35_whole_fewest_of_small_nets=true:=by kernel_rfl
end Fw
namespace L2
open PySem PySem.Spec PyProof.Rows
abbrev Key:=Sum Int Str
noncomputable def qON:Key->Value->Bool
 |.inl k,v=>A07 k v
 |.inr x,v=>B43 x v
noncomputable def keyH (w:World):Key->Int
 |.inl k=>hashInt k
 |.inr x=>hashStr w x
theorem qBE:∀{k:Key} {v:Value},qON k v=true->(∃i t,k=F4 i/\v=O9 i t)\/(∃x t,k=O0 x/\v=B16 x t)
 |.inl i,v,h=>by
  obtain⟨t,e⟩:=z8 (k:=i) (v:=v) h;exact .inl ⟨i,t,rfl,e⟩
 |.inr x,v,h=>by
  obtain⟨t,e⟩:=Value.isStrOf_shape (x:=x) (v:=v) h;exact .inr ⟨x,t,rfl,e⟩
theorem qOM (i:Int)(t:Tok):qON (.inl i) (.int i t)=true:=by simp[qON,A07]
theorem qWD (x:Str)(t:Tok):qON (.inr x) (.str x t)=true:=by simp[qON,B43]
theorem qeI (a b:Int):decide ((F4 a:Key)=F4 b)=(a==b):=by
 by_cases e:a=b
 ·subst e;simp
 ·have h:¬(F4 a:Key)=F4 b:=λq=>e (W6 q);rw[decide_eq_false h];exact(beq_eq_false_iff_ne.mpr e).symm
theorem qeF (a b:Str):decide ((O0 a:Key)=O0 b)=decide (a=b):=by
 by_cases e:a=b
 ·subst e;simp
 ·have h:¬(O0 a:Key)=O0 b:=λq=>e (B54 q);rw[decide_eq_false h,decide_eq_false e]
theorem qeH (a:Int)(b:Str):decide ((F4 a:Key)=O0 b)=false:=decide_eq_false (λq=>nomatch q)
theorem qeG (a:Str)(b:Int):decide ((O0 a:Key)=F4 b)=false:=decide_eq_false (λq=>nomatch q)
noncomputable def qAT (prog:B63)(w:World):PySem.KeyKind prog w Key where
 is:=qON
 hash:=keyH w
 inj:=λv a b g d=>by
  rcases qBE g with⟨i,t,rfl,rfl⟩|⟨x,t,rfl,rfl⟩
  ·rcases qBE d with⟨j,u,rfl,e⟩|⟨y,u,rfl,e⟩
   ·injection e with e1 _;rw[e1]
   ·exact nomatch e
  ·rcases qBE d with⟨j,u,rfl,e⟩|⟨y,u,rfl,e⟩
   ·exact nomatch e
   ·injection e with e1 _;rw[e1]
 byValue:=λk v h=>by
  rcases qBE h with⟨i,t,rfl,rfl⟩|⟨x,t,rfl,rfl⟩<;>rfl
 pyHash:=λc h=>by
  rcases qBE c with⟨i,t,rfl,rfl⟩|⟨x,t,rfl,rfl⟩
  ·exact wpAny_pyHash_int h
  ·exact wpAny_pyHash_str h
 eqBool:=λf c h=>by
  rcases qBE f with⟨i,t,rfl,rfl⟩|⟨x,t,rfl,rfl⟩
  ·rcases qBE c with⟨j,u,rfl,rfl⟩|⟨y,u,rfl,rfl⟩
   ·rw[qeI] at h;exact wpAny_eqBool_int h
   ·rw[qeH] at h;exact A77 i t y u _ _ _ _ h
  ·rcases qBE c with⟨j,u,rfl,rfl⟩|⟨y,u,rfl,rfl⟩
   ·rw[qeG] at h;exact A78 x t j u _ _ _ _ h
   ·rw[qeF] at h;exact wpAny_eqBool_str h
 «strs»:=λk x t v h=>by
  rcases qBE h with⟨i,u,rfl,e⟩|⟨y,u,rfl,e⟩
  ·exact nomatch e
  ·injection e with e1 _
   subst e1;cases v<;>rfl
theorem qTH (prog:B63)(w:World)(k:Key)(v:Value):(qAT prog w).is k v=qON k v:=rfl
theorem qQG (prog:B63)(w:World)(i:Int)(t:Tok):(qAT prog w).is (.inl i) (.int i t)=true:=qOM i t
theorem qQF (prog:B63)(w:World)(x:Str)(t:Tok):(qAT prog w).is (.inr x) (.str x t)=true:=qWD x t
inductive V where
 |non|bl (b:Bool)|int (i:Int)|str (x:Str)|byt (b:Array UInt8)|flt (b:UInt64)|ref (a:Addr)|ty (n:String)
 deriving DecidableEq
def RelV:V->Value->Prop
 |.non,u=>u=J5
 |.bl b,u=>u=n4 b
 |.int i,u=>∃t,u=O9 i t
 |.str x,u=>∃t,u=B16 x t
 |.byt b,u=>∃t,u=Value.bytes b t
 |.flt b,u=>∃t,u=Value.float b t
 |.ref a,u=>u=D4 a
 |.ty n,u=>u=A45 n
abbrev Vals:List V->List Value->Prop:=Paired RelV
theorem Vals.length {xs:List V} {a:List Value} (r:Vals xs a):xs.length=a.length:=C2 r
theorem Vals.get:∀{xs:List V} {us:List Value} {i:Nat} {x:V},Vals xs us->xs[i]?=some x->∃u,us[i]?=some u/\RelV x u
 |_,_,_,_,.nil,e=>by simp at e
 |_,_,0,_,.cons r _,e=>by simp at e;subst e;exact⟨_,rfl,r⟩
 |_,_,i+1,x,.cons _ t,e=>by
  obtain⟨u,h1,h2⟩:=Vals.get (i:=i) (x:=x) t (by simpa using e)
  exact⟨u,by simpa using h1,h2⟩
theorem Vals.set {x:V} {u:Value} (r:RelV x u):∀{xs:List V} {us:List Value} (i:Nat),Vals xs us->Vals (xs.set i x) (us.set i u)
 |_,_,_,.nil=>.nil
 |_,_,0,.cons _ t=>.cons r t
 |_,_,i+1,.cons q t=>.cons q (Vals.set r i t)
theorem Vals.append:∀{xs ys:List V} {us ws:List Value},Vals xs us->Vals ys ws->Vals (xs++ys) (us++ws)
 |_,_,_,_,.nil,s=>s
 |_,_,_,_,.cons r t,s=>.cons r (Vals.append t s)
theorem Vals.take:∀{xs:List V} {us:List Value} (n:Nat),Vals xs us->Vals (xs.take n) (us.take n)
 |_,_,0,_=>.nil
 |_,_,_+1,.nil=>.nil
 |_,_,n+1,.cons r t=>.cons r (Vals.take n t)
theorem Vals.drop:∀{xs:List V} {us:List Value} (n:Nat),Vals xs us->Vals (xs.drop n) (us.drop n)
 |_,_,0,r=>r
 |_,_,_+1,.nil=>.nil
 |_,_,n+1,.cons _ t=>Vals.drop n t
def RelO:Option V->Option Value->Prop
 |some v,some u=>RelV v u
 |none,none=>True
 |_,_=>False
def KV {κ:Type}:List (κ×V)->List (κ×Value)->Prop:=Paired λ(p:κ×V) (q:κ×Value)=>p.1=q.1/\RelV p.2 q.2
inductive CTb where
 |tab (q:Str)
 |cod (q:Str)
noncomputable def kV:Key->V
 |.inl i=>.int i
 |.inr x=>.str x
inductive HO where
 |lst (xs:List V)
 |tup (xs:List V)
 |dK (Af:List (Key×V))|dT (Af:List (List Key×V))
 |set (S:Int->Bool) (n:Nat)
 |ins (C dx:Addr) (fs:List (Str×V))
 |own (x:Addr)
 |xd (fs:List (Str×V))
 |met (f x:Addr)
 |rng (lo hi:Int)
 |frz (o:Obj) (u:HO)
 |tbl (t:CTb)
 |ext (φ:Heap->Prop)
abbrev Hp:=Addr->Option HO
noncomputable def Ag (H:Hp)(a:Addr)(o:HO):Hp:=λb=>if b=a then some o else H b
theorem qA1 {H:Hp} {a:Addr} {o:HO} :Ag H a o a=some o:=by unfold Ag;rw[if_pos rfl]
theorem qA7 {H:Hp} {a b:Addr} {o:HO} (h:b≠a):Ag H a o b=H b:=by unfold Ag;rw[if_neg h]
theorem qM7 {H:Hp} {a:Addr} {o u:HO} :Ag (Ag H a o) a u=Ag H a u:=by
 funext b;unfold Ag;split<;>rfl
theorem qC6 {H:Hp} {a b:Addr} {o u:HO} (h:H a=some o)(h':H b=some u)(d:o≠u):a≠b:=by
 intro e;subst e;rw[h] at h';exact d (D1 h')
theorem qA5 {H:Hp} {a b:Addr} {o:HO} (h:H a=some o)(h':H b=none):a≠b:=by
 intro e;subst e;rw[h] at h';cases h'
section
variable(P:B63)(w:World)
def ObjOk (H:Hp)(h:Heap)(a:Addr):HO->Prop
 |.lst xs=>xs.length<=B62/\∃(its:List Value) (n:Nat),Vals xs its/\h.get? a=some {cls:=.type "list",data:=.seq its.toArray n}
 |.tup xs=>xs.length<=B62/\∃its:List Value,Vals xs its/\IsTup h a its.toArray
 |.dK Af=>Af.length<=B62/\(a==B85)=false/\∃vs,KV Af vs/\h.DictOf (qAT P w) a vs
 |.dT Af=>Af.length<=B62/\(a==B85)=false/\∃xs:List (List Key×Addr×Value),
   Paired (λ(p:List Key×V) (q:List Key×Addr×Value)=>p.1=q.1/\H q.2.1=some (.tup (p.1.map kV))/\RelV p.2 q.2.2) Af xs/\
   ∃o es ep,h.get? a=some o/\o.ExactDict/\o.data=.dict es ep/\es.toList=xs.map (entryOfKey (C42 (qAT P w)))/\(xs.map (·.1)).Nodup
 |.set S n=>h.SetOf (C13 P w) a S n
 |.ins C dx fs=>H dx=some (.own a)/\fs.length<=1000/\dx≠a/\h.get? a=some (B17 C dx)/\
   ∃mA,h.Ns1 dx mA/\(∀f,RelO (fs.lookup f) (mA f))/\PySem.Within mA (fs.map (·.1))
 |.own _=>∃o,h.get? a=some o
 |.xd fs=>∃mA,h.Ns1 a mA/\∀f,RelO (fs.lookup f) (mA f)
 |.rng lo hi=>∃t u v,h.get? a=some {cls:=.type "range",data:=.fields #[.int lo t,.int hi u,.int 1 v]}
 |.frz o u=>h.get? a=some o/\ObjOk H h a u
 |.tbl (.tab q)=>∃more:Array Value,h.get? a=some {cls:=.none,data:=.fields more}/\TriplesOk more.toList/\∀pos cv,codeAmong pos more.toList=some cv->∃c,cv=.ref c/\H c=some (.tbl (.cod q))
 |.tbl (.cod q)=>h.CodeRec (.ref a) q
 |.met f x=>h.get? a=some (d6 (.ref f) (.ref x))
 |.ext φ=>φ h/\(∃o,h.get? a=some o)/\∀h1 h2:Heap,φ h1->(∀o,h1.get? a=some o->h2.get? a=some o)->φ h2
def HOk (H:Hp)(h:Heap):Prop:=∀a o,H a=some o->ObjOk P w H h a o
end
section
variable{P:B63}{w:World}{H H':Hp}{h h':Heap}{a:Addr}{o:HO}
theorem ObjOk.lt (x:ObjOk P w H h a o):a<h.objs.size:=by
 cases o with
 |lst xs=>obtain⟨_,_,_,_,e⟩:=x;exact B4 e
 |tup xs=>obtain⟨_,_,_,p⟩:=x;exact p.lt
 |dK Af=>obtain⟨_,_,_,_,o,_,_,e,_⟩:=x;exact B4 e
 |dT Af=>obtain⟨_,_,_,_,o,_,_,e,_⟩:=x;exact B4 e
 |set S n=>obtain⟨o,_,_,_,e,_⟩:=x;exact B4 e
 |ins C dx fs=>obtain⟨_,_,_,e,_⟩:=x;exact B4 e
 |own y=>obtain⟨_,e⟩:=x;exact B4 e
 |xd fs=>obtain⟨_,⟨_,_,_,e,_⟩,_⟩:=x;exact B4 e
 |rng lo hi=>obtain⟨_,_,_,e⟩:=x;exact B4 e
 |frz ob u=>obtain⟨e,_⟩:=x;exact B4 e
 |tbl t=>
  cases t with
  |tab q=>obtain⟨_,e,_⟩:=x;exact B4 e
  |cod q=>obtain⟨c,o,_,_,e,g,_⟩:=x;cases e;exact B4 g
 |met f y=>exact B4 (show h.get? a=some _ from x)
 |ext φ=>obtain⟨_,⟨_,e⟩,_⟩:=x;exact B4 e
theorem Paired.mapP {α β:Type} {F G:α->β->Prop} :∀{l₁:List α} {l₂:List β},Paired F l₁ l₂->(∀a b,F a b->G a b)->Paired G l₁ l₂
 |_,_,.nil,_=>.nil
 |_,_,.cons r t,f=>.cons (f _ _ r) (Paired.mapP t f)
theorem ObjOk.stay (x:ObjOk P w H h a o)(k:∀b u,(b=a\/H b=some (.own a))->h.get? b=some u->h'.get? b=some u)
  (ho:∀b,H b=some (.own a)->H' b=some (.own a)) (ht:∀b xs,H b=some (.tup xs)->H' b=some (.tup xs)) (hb:∀b t,H b=some (.tbl t)->H' b=some (.tbl t):=by exactλ_ _ q=>q):ObjOk P w H' h' a o:=by
 induction o with
 |lst xs=>obtain⟨z,s,n,r,e⟩:=x;exact⟨z,s,n,r,k _ _ (.inl rfl) e⟩
 |tup xs=>obtain⟨z,s,r,i,e,c⟩:=x;exact⟨z,s,r,i,k _ _ (.inl rfl) e,c⟩
 |dK Af=>obtain⟨z,y,vs,r,i,l,j,e,c⟩:=x;exact⟨z,y,vs,r,i,l,j,k _ _ (.inl rfl) e,c⟩
 |dT Af=>
  obtain⟨z,y,xs,r,i,l,j,e,c⟩:=x;exact⟨z,y,xs,Paired.mapP r λp q z=>⟨z.1,ht _ _ z.2.1,z.2.2⟩,i,l,j,k _ _ (.inl rfl) e,c⟩
 |set S n=>obtain⟨i,l,j,t,e,c⟩:=x;exact⟨i,l,j,t,k _ _ (.inl rfl) e,c⟩
 |ins C dx fs=>
  obtain⟨d,z,ne,e,mA,⟨od,l,j,e2,c⟩,r⟩:=x;exact⟨ho _ d,z,ne,k _ _ (.inl rfl) e,mA,⟨od,l,j,k _ _ (.inr d) e2,c⟩,r⟩
 |own y=>obtain⟨i,e⟩:=x;exact⟨i,k _ _ (.inl rfl) e⟩
 |xd fs=>obtain⟨mA,⟨od,l,j,e,c⟩,r⟩:=x;exact⟨mA,⟨od,l,j,k _ _ (.inl rfl) e,c⟩,r⟩
 |rng lo hi=>obtain⟨t,u,v,e⟩:=x;exact⟨t,u,v,k _ _ (.inl rfl) e⟩
 |frz i u ih=>obtain⟨e,q⟩:=x;exact⟨k _ _ (.inl rfl) e,ih q⟩
 |tbl t=>
  cases t with
  |tab q=>obtain⟨m,e,tr,c⟩:=x;exact⟨m,k a _ (.inl rfl) e,tr,λa0 cv z=>let⟨c',e1,e2⟩:=c a0 cv z;⟨c',e1,hb _ _ e2⟩⟩
  |cod q=>obtain⟨c,o,vs,t,e,g,r⟩:=x;cases e;exact⟨a,o,vs,t,rfl,k a _ (.inl rfl) g,r⟩
 |met f y=>
  have e:h.get? a=some (d6 (.ref f) (.ref y)):=x;show h'.get? a=some (d6 (.ref f) (.ref y));exact k a _ (.inl rfl) e
 |ext φ=>obtain⟨p,⟨o,e⟩,st⟩:=x;exact⟨st _ _ p λo q=>k _ _ (.inl rfl) q,⟨o,k _ _ (.inl rfl) e⟩,st⟩
theorem HOk.lt (x:HOk P w H h)(e:H a=some o):a<h.objs.size:=(x a o e).lt
theorem HOk.fresh (x:HOk P w H h)(e:h.objs.size<=a):H a=none:=by
 cases q:H a with
 |none=>rfl
 |some u=>exact absurd (D7 (x.lt q) e) (T9 _)
theorem HOk.kept (x:HOk P w H h)(k:∀b u,h.get? b=some u->h'.get? b=some u):HOk P w H h':=λa o e=>
 (x a o e).stay (λb u _ q=>k b u q) (λ_ q=>q) λ_ _ q=>q
theorem HOk.laid (x:HOk P w H h)(k:∀b u,h.get? b=some u->h'.get? b=some u)(i:h.objs.size<=a)(d:ObjOk P w (Ag H a o) h' a o):HOk P w (Ag H a o) h':=λb u e=>by
 have f:=x.fresh i;by_cases g:b=a
 ·subst g;rw[qA1] at e;cases e;exact d
 ·rw[qA7 g] at e;exact(x b u e).stay (λc v _ q=>k c v q) (λc q=>by rw[qA7 (qA5 q f)];exact q) (λc j q=>by rw[qA7 (qA5 q f)];exact q) λc t q=>by rw[qA7 (qA5 q f)];exact q
end
def Rd (H:Hp)(a:Addr)(u:HO):Prop:=H a=some u\/∃o,H a=some (.frz o u)
theorem Rd.ok {H:Hp} {h:Heap} {a:Addr} {u:HO} (r:Rd H a u)(x:HOk P w H h):ObjOk P w H h a u:=by
 rcases r with r|⟨o,r⟩
 ·exact x a u r
 ·obtain⟨_,q⟩:=x a _ r;exact q
def Mut:Option HO->Prop
 |some (.lst _)=>True
 |some (.dK _)=>True
 |some (.dT _)=>True
 |some (.set _ _)=>True
 |some (.ins _ _ _)=>True
 |some (.ext _)=>True
 |_=>False
section
variable{P:B63}{w:World}{H:Hp}{h h':Heap}{x e:Addr}{o':HO}
theorem HOk.write (o:HOk P w H h)(f:Mut (H x))(n:e=x\/H e=some (.own x))(k:∀b u,b≠e->h.get? b=some u->h'.get? b=some u)(l:∃u,h'.get? e=some u)
  (j:ObjOk P w (Ag H x o') h' x o'):HOk P w (Ag H x o') h':=λb u q=>by
 have d:∀c y,H c=some (.own y)->c≠x:=λc y r z=>by subst z;rw[r] at f;exact f
 have g:∀c xs,H c=some (.tup xs)->c≠x:=λc xs r z=>by subst z;rw[r] at f;exact f
 by_cases i:b=x
 ·subst i;rw[qA1] at q;cases q;exact j
 ·rw[qA7 i] at q;by_cases a:b=e
  ·have m:H b=some (.own x):=by
    rcases n with z|z
    ·exact absurd (a.trans z) i
    ·rw[a];exact z
   rw[q] at m;cases m;obtain⟨v,p⟩:=l;exact⟨v,by rw[a];exact p⟩
  ·refine(o b u q).stay (λc v hc r=>k c v ?_ r) (λc r=>by rw[qA7 (d c b r)];exact r) (λc xs r=>by rw[qA7 (g c xs r)];exact r) λc t r=>by rw[qA7 (λz=>by subst z;rw[r] at f;exact f)];exact r
   rcases hc with rfl|hc
   ·exact a
   ·rintro rfl;rcases n with z|z
    ·exact d c b hc z
    ·rw[hc] at z;cases z;exact i rfl
end
structure Un (fs ex:List Addr)(H H':Hp)(h h':Heap):Prop where
 keep:∀b o,h.get? b=some o->H b=none->b∉fs->b∉ex->h'.get? b=some o
 slot:∀b o,h.get? b=some o->H b=none->b∈fs->b∉ex->∃sl,h'.get? b=some {o with slots:=sl}
 free:∀b o,h.get? b=some o->H b=none->b∉ex->H' b=none
 there:∀b o,h.get? b=some o->b∉ex->∃o',h'.get? b=some o'
 tups:∀b xs,H b=some (.tup xs)->H' b=some (.tup xs)
 frzs:∀b o u,H b=some (.frz o u)->H' b=some (.frz o u)
 tbls:∀b ps,H b=some (.tbl ps)->H' b=some (.tbl ps)
section
variable{fs fs' ex ex':List Addr}{H H1 H2:Hp}{h h1 h2 h':Heap}{a x e:Addr}{o:HO}
theorem Un.any (u:Un fs ex H H1 h h1){b:Addr}{a:Obj}(q:h.get? b=some a)(n:H b=none)(d:b∉ex):∃sl,h1.get? b=some {a with slots:=sl}:=by
 by_cases c:b∈fs
 ·exact u.slot b a q n c d
 ·exact⟨a.slots,u.keep b a q n c d⟩
theorem Un.kept (k:∀b u,h.get? b=some u->h'.get? b=some u):Un fs ex H H h h':=
 ⟨λb a q _ _ _=>k b a q,λb a q _ _ _=>⟨a.slots,k b a q⟩,λ_ _ _ n _=>n,λb a q _=>⟨a,k b a q⟩,λ_ _ q=>q,λ_ _ _ q=>q,λ_ _ q=>q⟩
theorem Un.refl:Un fs ex H H h h:=Un.kept λ_ _ q=>q
theorem Un.laid (k:∀b u,h.get? b=some u->h'.get? b=some u)(e:h.objs.size<=a)(c:H a=none):Un fs ex H (Ag H a o) h h' where
 keep:=λb u q _ _ _=>k b u q
 slot:=λb u q _ _ _=>⟨u.slots,k b u q⟩
 free:=λb u q n _=>by rw[qA7 (C4 (D7 (B4 q) e))];exact n
 there:=λb u q _=>⟨u,k b u q⟩
 tups:=λb d q=>by rw[qA7 (qA5 q c)];exact q
 frzs:=λb u d q=>by rw[qA7 (qA5 q c)];exact q
 tbls:=λb f q=>by rw[qA7 (qA5 q c)];exact q
theorem Un.write (c:Mut (H x))(m:e=x\/H e=some (.own x))(k:∀b u,b≠e->h.get? b=some u->h'.get? b=some u)(f:∃u,h'.get? e=some u):Un fs ex H (Ag H x o) h h':=by
 have g:∀b,H b=none->b≠x:=λb n z=>by subst z;rw[n] at c;exact c
 have i:∀b,H b=none->b≠e:=λb n z=>by
  subst z;rcases m with r|r
  ·exact g b n r
  ·rw[n] at r;cases r
 have d:∀b u,H b=some u->¬Mut (some u)->b≠x:=λb u q l z=>by subst z;rw[q] at c;exact l c
 refine⟨λb u q n _ _=>k b u (i b n) q,λb u q n _ _=>⟨u.slots,k b u (i b n) q⟩,λb u q n _=>by rw[qA7 (g b n)];exact n,λb u q _=>?_,
  λb j q=>by rw[qA7 (d b _ q λz=>z)];exact q,λb u j q=>by rw[qA7 (d b _ q λz=>z)];exact q,λb p q=>by rw[qA7 (d b _ q λz=>z)];exact q⟩
 by_cases a:b=e
 ·subst a;exact f
 ·exact⟨u,k b u a q⟩
end
noncomputable def trk (h:Heap)(H:Hp):List Addr:=(F5 h.objs.size).filter λa=>(H a).isSome
noncomputable def hidT (h:Heap)(H:Hp):Heap:=B18 h (trk h H)
theorem qWM (h:Heap)(H:Hp):(hidT h H).objs.size=h.objs.size:=PySem.W.hideAll_size _ _
theorem qZS {h:Heap} {H:Hp} {b:Addr} {o:Obj} (e:h.get? b=some o)(n:H b=none):(hidT h H).get? b=some o:=
 A65 _ e λa=>by
  have q:(H b).isSome=true:=(C7.mp a).2;rw[n] at q;simp at q
theorem qc4 {h:Heap} {H:Hp} {b:Addr} {o:Obj} (e:(hidT h H).get? b=some o):h.get? b=some o/\H b=none:=by
 have c:h.get? b=some o:=A79 (trk h H) e;refine⟨c,?_⟩;cases q:H b with
 |none=>rfl
 |some x=>
  have f:b∈trk h H:=C7.mpr ⟨E5.mpr (B4 c),by simp[q]⟩
  have z:(hidT h H).get? b=none:=A48 (trk h H) f;rw[z] at e;cases e
noncomputable def qd0 (g h:Heap)(L:Addr):Aa2:=(F5 h.objs.size).filterMap λa=>if a=L\/(g.get? a).isSome=true then none else(h.get? a).map λo=>(a,o)
noncomputable def rest (g h:Heap)(L d:Addr):Aa2:=(qd0 g h L).filter λp=>decide (p.1≠d)
structure Mod (K:Ab1)(mg:Ab0)(base:Heap):Prop where
 kin:K.In base
 glob:base.Ns B74 mg
 blt:∃mb,base.Ns C45 mb/\∀x:Str,x ≠ "__name__"->mb x=B72 x
 nolimit:base.NoLimit
structure Cx where
 prog:B63
 w:World
 K:Ab1
 mg:Ab0
 base:Heap
 A:Around
 N:List Str
 s₀:Shared
 H₀:Hp
 env:Env
 outer:List Env
 stack:List Env
 ex:List Addr
 fn:Str->Bool
 calm:Bool
 pn:Aa2
 xe:Aa1
noncomputable def frs (l:List Env):List Addr:=l.filterMap (·.frame)
noncomputable abbrev Cx.fs (X:Cx):List Addr:=frs X.outer
def Vis (sc:Scope)(x:Str):Prop:=sc.names.lookup x=some .local\/sc.names.lookup x=some .cell\/sc.names.lookup x=some .free
def Loc (sc:Scope)(x:Str):Prop:=sc.names.lookup x=some .local\/sc.names.lookup x=some .cell
def Look (env:Env)(h:Heap)(m:Ab0)(x:Str)(u:Value):Prop:=
 (env.kindOf x=some .local/\m x=some u)\/((env.kindOf x=some .cell\/env.kindOf x=some .free)/\∃c,env.cells.lookup x=some c/\h.IsCell c (some u))
structure Cx.Ok (X:Cx):Prop where
 mod:Mod X.K X.mg X.base
 kind:X.env.scope.kind=.function
 glob:X.env.globals=B74
 blt:X.env.builtins=C45
 above:X.s₀.heap.objs.size<=X.env.locals
 inj:∀x y c,X.env.cells.lookup x=some c->X.env.cells.lookup y=some c->x=y
 has:∀x,(X.env.kindOf x=some .cell\/X.env.kindOf x=some .free)->∃c,X.env.cells.lookup x=some c
 cab:∀x c,X.fn x=true->X.env.cells.lookup x=some c->X.s₀.heap.objs.size<=c
 hd:X.calm=true->X.A.handled=none
 frames:X.A.frames=some X.stack
 stk:X.stack=X.outer\/(X.stack=X.env::X.outer/\X.env.frame=some X.env.locals)
 exf:∀b∈X.ex,b≠X.env.locals/\∀x c,X.env.cells.lookup x=some c->c≠b
 bs:∀b o,X.base.get? b=some o->X.s₀.heap.get? b=some o/\X.H₀ b=none
 bsz:X.base.objs.size<=X.s₀.heap.objs.size
 noex:∀b o,X.base.get? b=some o->b∉X.ex
 exfs:∀b∈X.ex,b∉X.fs
 funs:X.s₀.heap.FunFrames X.base X.outer
 frf:∀b∈X.fs,X.H₀ b=none
structure Inv (X:Cx)(Ab:Aa2)(σ:List (Option V))(H:Hp)(s:Shared):Prop where
 ok:X.Ok
 os:s.os=X.s₀.os
 bare:C29 s.gens
 base:Un X.fs X.ex X.H₀ H X.s₀.heap s.heap
 loc:∃m,s.heap.Ns X.env.locals m/\∀(i:Nat) (x:Str) (v:V),X.N[i]?=some x->σ[i]?=some (some v)->Vis X.env.scope x->∃u,RelV v u/\Look X.env s.heap m x u
 cell:∀x c,X.env.cells.lookup x=some c->∃v,s.heap.IsCell c v
 free:H X.env.locals=none
 freeC:∀x c,X.env.cells.lookup x=some c->H c=none
 pin:∀p∈X.pn++Ab,s.heap.get? p.1=some p.2/\H p.1=none/\p.1≠X.env.locals/\p.1∉X.fs/\∀v,p.2.data≠.cell v
 hok:HOk X.prog X.w H s.heap
 len:σ.length=X.N.length
section
variable{X:Cx}{Ab:Aa2}{σ:List (Option V)}{H H':Hp}{s:Shared}{h':Heap}
theorem Cx.Ok.nofr (c:X.Ok){b:Addr}{o:Obj}(e:X.base.get? b=some o):b∉X.fs:=λa=>by
 have:=(c.funs.mem a).1;rw[e] at this;cases this
theorem Inv.bs (I:Inv X Ab σ H s):∀b o,X.base.get? b=some o->s.heap.get? b=some o/\H b=none:=λb o e=>
 ⟨I.base.keep b o (I.ok.bs b o e).1 (I.ok.bs b o e).2 (I.ok.nofr e) (I.ok.noex b o e),I.base.free b o (I.ok.bs b o e).1 (I.ok.bs b o e).2 (I.ok.noex b o e)⟩
theorem Inv.bk (I:Inv X Ab σ H s):∀b o,X.base.get? b=some o->s.heap.get? b=some o:=λb o e=>(I.bs b o e).1
theorem Inv.mod (I:Inv X Ab σ H s):Mod X.K X.mg X.base:=I.ok.mod
theorem Inv.kIn (I:Inv X Ab σ H s):X.K.In s.heap:=I.ok.mod.kin.keeps I.bk
theorem Inv.nolimit (I:Inv X Ab σ H s):s.heap.NoLimit:=I.ok.mod.nolimit.keeps I.bk
theorem Inv.lt (I:Inv X Ab σ H s):X.env.locals<s.heap.objs.size:=let⟨_,hn,_⟩:=I.loc;hn.lt
theorem Inv.sz (I:Inv X Ab σ H s):X.s₀.heap.objs.size<=s.heap.objs.size:=F3 I.ok.above (V2 I.lt)
theorem Inv.nofs (I:Inv X Ab σ H s){a:Addr}(h:s.heap.objs.size<=a):a∉X.fs:=λb=>by
 obtain⟨_,o,c,_⟩:=I.ok.funs.mem b;exact absurd (D7 (B4 c) (F3 I.sz h)) (T9 _)
theorem Inv.cne (I:Inv X Ab σ H s):∀x c,X.env.cells.lookup x=some c->c≠X.env.locals:=λx c e z=>by
 obtain⟨v,o,f,d⟩:=I.cell x c e;obtain⟨m,⟨h,i,g,a,b,_⟩,_⟩:=I.loc;rw[z,a] at f;cases f;rw[b] at d;cases d
theorem Inv.funs (I:Inv X Ab σ H s):s.heap.FunFrames X.base X.outer:=by
 have d:∀(l:List Env),(∀b∈frs l,b∈X.fs)->X.s₀.heap.FunFrames X.base l->s.heap.FunFrames X.base l:=by
  intro l
  induction l with
  |nil=>intro _ _;trivial
  |cons env r ih=>
   intro g j;obtain⟨i,⟨L,o,a,n,k,h⟩,m⟩:=j;have c:L∈X.fs:=g L (by unfold frs;rw[M3,a];exact B7)
   obtain⟨p,e⟩:=I.base.slot L o k (I.ok.frf L c) c λz=>I.ok.exfs L z c;exact⟨i,⟨L,_,a,n,e,h⟩,ih (λb f=>g b (by unfold frs;rw[M3,a];exact A8 _ f)) m⟩
 exact d X.outer (λ_ f=>f) I.ok.funs
theorem Inv.stack (I:Inv X Ab σ H s):s.heap.FunFrames X.base X.stack:=by
 rcases I.ok.stk with e|⟨e,hf⟩
 ·rw[e];exact I.funs
 ·rw[e];obtain⟨m,a,_⟩:=I.loc;refine .cons (by rw[I.ok.kind];decide) hf a ?_ I.funs
  exact Heap.get?_none_of_le (F3 I.ok.bsz I.ok.above)
theorem Inv.stkSub (I:Inv X Ab σ H s):∀b∈frs X.stack,b∈X.env.locals::X.fs:=λb a=>by
 rcases I.ok.stk with e|⟨e,hf⟩
 ·rw[e] at a;exact A8 _ a
 ·rw[e] at a;unfold frs at a;rw[M3,hf] at a;exact a
theorem Inv.stkFree (I:Inv X Ab σ H s):∀b∈frs X.stack,H b=none:=λb hb=>by
 rcases B1.mp (I.stkSub b hb) with e|hb
 ·rw[e];exact I.free
 ·obtain⟨_,o,a,_⟩:=I.ok.funs.mem hb;exact I.base.free b o a (I.ok.frf b hb) λz=>I.ok.exfs b z hb
theorem Inv.step {g':Array C25} {t':Nat} {d':Drawn} {ch:List Addr} (I:Inv X Ab σ H s)
  (g:∀b∈ch,(b∈X.ex\/X.s₀.heap.objs.size<=b)/\b≠X.env.locals/\(∀x c,X.env.cells.lookup x=some c->c≠b)/\∀p∈X.pn++Ab,p.1≠b)
  (keep:∀b o,b≠X.env.locals->b∉X.fs->b∉ch->s.heap.get? b=some o->H b=none->h'.get? b=some o)
  (slot:∀b o,b≠X.env.locals->b∈X.fs->b∉ch->s.heap.get? b=some o->H b=none->∃sl,h'.get? b=some {o with slots:=sl}) (free:∀b o,b∉ch->s.heap.get? b=some o->H b=none->H' b=none)
  (there:∀b o,b∉ch->s.heap.get? b=some o->∃o',h'.get? b=some o')
  (tups:∀b xs,H b=some (.tup xs)->H' b=some (.tup xs)) (frzs:∀b o u,H b=some (.frz o u)->H' b=some (.frz o u)) (tbls:∀b ps,H b=some (.tbl ps)->H' b=some (.tbl ps))
  (ns:∀m,s.heap.Ns X.env.locals m->h'.Ns X.env.locals m) (a2:HOk X.prog X.w H' h') (hg:C29 g'):
  Inv X Ab σ H' {s with heap:=h',gens:=g',drawn:=d',toks:=t'}:=by
 have a0:∀b o,X.s₀.heap.get? b=some o->b≠X.env.locals:=λb o e=>C4 (D7 (B4 e) I.ok.above);have j:∀b o,X.s₀.heap.get? b=some o->b∉X.ex->b∉ch:=λb o e a y=>by
  rcases(g b y).1 with z|z
  ·exact a z
  ·exact absurd (D7 (B4 e) z) (T9 _)
 have h:∀x c,X.env.cells.lookup x=some c->∀v,s.heap.IsCell c v->h'.IsCell c v:=λx c e v ⟨o,ho,hd⟩=>by
  have f:c∉ch:=λz=>(g c z).2.2.1 x c e rfl;by_cases hc:c∈X.fs
  ·obtain⟨sl,q⟩:=slot c o (I.cne x c e) hc f ho (I.freeC x c e);exact⟨_,q,hd⟩
  ·exact⟨o,keep c o (I.cne x c e) hc f ho (I.freeC x c e),hd⟩
 refine⟨I.ok,I.os,hg,⟨λb o e n y a=>?_,λb o e n y a=>?_,λb o e n a=>?_,λb o e a=>?_,λb xs e=>tups b xs (I.base.tups b xs e),λb o xs e=>frzs b o xs (I.base.frzs b o xs e),λb ps e=>?_⟩,?_,λx c e=>?_,?_,λx c e=>?_,λp hp=>?_,a2,I.len⟩
 ·exact keep b o (a0 b o e) y (j b o e a) (I.base.keep b o e n y a) (I.base.free b o e n a)
 ·obtain⟨sl,t⟩:=I.base.slot b o e n y a;obtain⟨a1,e2⟩:=slot b _ (a0 b o e) y (j b o e a) t (I.base.free b o e n a);exact⟨a1,e2⟩
 ·obtain⟨o',t⟩:=I.base.there b o e a;exact free b o' (j b o e a) t (I.base.free b o e n a)
 ·obtain⟨o',t⟩:=I.base.there b o e a;exact there b o' (j b o e a) t
 ·exact tbls b ps (I.base.tbls b ps e)
 ·obtain⟨m,hn,hl⟩:=I.loc;refine⟨m,ns m hn,λi x v t e2 e3=>?_⟩;obtain⟨u,r,l⟩:=hl i x v t e2 e3;refine⟨u,r,?_⟩;rcases l with l|⟨k,c,e,z⟩
  ·exact .inl l
  ·exact .inr ⟨k,c,e,h x c e _ z⟩
 ·obtain⟨v,z⟩:=I.cell x c e;exact⟨v,h x c e v z⟩
 ·obtain⟨m,⟨o,_,_,ho,_⟩,_⟩:=I.loc;exact free _ o (λz=>(g _ z).2.1 rfl) ho I.free
 ·obtain⟨v,o,ho,hd⟩:=I.cell x c e;exact free c o (λz=>(g c z).2.2.1 x c e rfl) ho (I.freeC x c e)
 ·obtain⟨e,n,ne,nf,d⟩:=I.pin p hp;have f:p.1∉ch:=λz=>(g p.1 z).2.2.2 p hp rfl;exact⟨keep p.1 p.2 ne nf f e n,free p.1 p.2 f e n,ne,nf,d⟩
theorem Inv.un {t':Nat} (I:Inv X Ab σ H s)(u:Un X.fs [] H H' s.heap h')(g:HOk X.prog X.w H' h'):Inv X Ab σ H' {s with heap:=h',toks:=t'}:=by
 obtain⟨m,⟨o,v,l,h,r⟩,_⟩:=id I.loc;obtain⟨q,i⟩:=u.any h I.free (by simp)
 exact I.step (g':=s.gens) (d':=s.drawn) (ch:=[]) (fun _ z=>nomatch z) (fun b o _ d _ e n=>u.keep b o e n d (by simp)) (fun b o _ d _ e n=>u.slot b o e n d (by simp)) (fun b o _ e n=>u.free b o e n (by simp)) (fun b o _ e=>u.there b o e (by simp)) u.tups u.frzs u.tbls (fun p k=>by
  obtain⟨t,c,f,a,j⟩:=k;rw[h] at a;cases a;exact⟨_,c,f,i,j⟩) g I.bare
theorem Inv.call {g':Array C25} {t':Nat} {d':Drawn} {ch:List Addr} (I:Inv X Ab σ H s)(u:Un (frs X.stack) ch H H' s.heap h')(j:HOk X.prog X.w H' h')(l:C29 g')
  (f:∀b∈ch,(b∈X.ex\/X.s₀.heap.objs.size<=b)/\b≠X.env.locals/\(∀x c,X.env.cells.lookup x=some c->c≠b)/\∀p∈X.pn++Ab,p.1≠b):
  Inv X Ab σ H' {s with heap:=h',gens:=g',drawn:=d',toks:=t'}:=by
 obtain ⟨m,⟨o,es,y,k,r⟩,_⟩:=id I.loc;obtain ⟨sl,h⟩:=u.any k I.free fun z=>(f _ z).2.1 rfl;exact I.step (ch:=ch) f (fun b o h t a e n=>u.keep b o e n (fun z=>(B1.mp (I.stkSub b z)).elim h t) a) (fun b o _ _ a e n=>u.any e n a) (fun b o a e n=>u.free b o e n a) (fun b o a e=>u.there b o e a) u.tups u.frzs u.tbls (fun m' v=>by
  obtain⟨o',g,i,d,q⟩:=v;rw[k] at d;cases d;exact⟨_,g,i,h,q⟩) j l
theorem Inv.turned {t':Nat} {a:Addr} (I:Inv X Ab σ H s)(k:∀b o,b≠a->s.heap.get? b=some o->h'.get? b=some o)(hn:H a=none)(g:a≠X.env.locals)
  (t:a∈X.ex\/X.s₀.heap.objs.size<=a) (w:∀x c,X.env.cells.lookup x=some c->c≠a) (l:∀p∈X.pn++Ab,p.1≠a):Inv X Ab σ H {s with heap:=h',toks:=t'}:=by
 have f:∀b u,H b=some u->b≠a:=λb u e z=>by rw[z,hn] at e;cases e
 refine I.step (g':=s.gens) (d':=s.drawn) (ch:=[a]) (λb j=>?_) (λb o _ _ d e _=>k b o (λz=>d (by simp[z])) e) (λb o _ _ d e _=>⟨o.slots,k b o (λz=>d (by simp[z])) e⟩) (λ_ _ _ _ n=>n)
  (λb o d e=>⟨o,k b o (λz=>d (by simp[z])) e⟩) (λ_ _ e=>e) (λ_ _ _ e=>e) (λ_ _ e=>e) (λm h=>?_) (λb u e=>?_) I.bare
 ·have e:b=a:=by simpa using j
  subst e;exact⟨t,g,w,l⟩
 ·obtain⟨o,es,i,y,r⟩:=h;exact⟨o,es,i,k _ o (F6 g) y,r⟩
 ·refine(I.hok b u e).stay (λc v d q=>k c v ?_ q) (λ_ q=>q) λ_ _ q=>q;rcases d with z|z
  ·rw[z];exact f b u e
  ·exact f c _ z
theorem Inv.tok (I:Inv X Ab σ H s)(t:Nat):Inv X Ab σ H {s with toks:=t}:=I.un (h':=s.heap) (t':=t) Un.refl I.hok
theorem Inv.kept {t':Nat} (I:Inv X Ab σ H s)(k:∀b u,s.heap.get? b=some u->h'.get? b=some u):Inv X Ab σ H {s with heap:=h',toks:=t'}:=I.un (Un.kept k) (I.hok.kept k)
theorem Inv.laid {a:Addr} {o:HO} {t':Nat} (I:Inv X Ab σ H s)(k:∀b u,s.heap.get? b=some u->h'.get? b=some u)(c:s.heap.objs.size<=a)(d:ObjOk X.prog X.w (Ag H a o) h' a o):
  Inv X Ab σ (Ag H a o) {s with heap:=h',toks:=t'}:=I.un (Un.laid k c (I.hok.fresh c)) (I.hok.laid k c d)
theorem Inv.write {x e:Addr} {o:HO} {t':Nat} (I:Inv X Ab σ H s)(d:Mut (H x))(f:e=x\/H e=some (.own x))(k:∀b u,b≠e->s.heap.get? b=some u->h'.get? b=some u)(a:∃u,h'.get? e=some u)
  (c:ObjOk X.prog X.w (Ag H x o) h' x o):Inv X Ab σ (Ag H x o) {s with heap:=h',toks:=t'}:=I.un (Un.write d f k a) (I.hok.write d f k a c)
theorem Inv.pins_of {a:Aa2} (I:Inv X Ab σ H s)(h:∀p∈a,s.heap.get? p.1=some p.2/\H p.1=none/\p.1≠X.env.locals/\p.1∉X.fs/\∀v,p.2.data≠.cell v):Inv X a σ H s:=
 ⟨I.ok,I.os,I.bare,I.base,I.loc,I.cell,I.free,I.freeC,λp b=>(B8.mp b).elim (λz=>I.pin p (Q5 _ z)) (h p),I.hok,I.len⟩
theorem qS6 {N:List Str} (e:N.Nodup){i j:Nat}{x:Str}(a:N[i]?=some x)(b:N[j]?=some x):i=j:=by
 obtain⟨f,c⟩:=A5.mp a;obtain⟨g,d⟩:=A5.mp b;exact(List.getElem_inj e).mp (c.trans d.symm)
theorem qNW {M:Model} {i:Nat} {x:Str} {v:V} {u:Value} {Q:Unit->Shared->Prop} (I:Inv X Ab σ H s)(hN:X.N.Nodup)(hi:X.N[i]?=some x)(t:Loc X.env.scope x)(r:RelV v u)
  (h:∀s',Inv X Ab (σ.set i (some v)) H s'->(∃a,Heap.SameBut a s.heap s'.heap/\(a=X.env.locals\/X.env.cells.lookup x=some a))->Q () s') (hf:X.fn x=true\/X.env.scope.names.lookup x=some .local:=by first|exact .inl rfl|exact .inr rfl|assumption):wpAny M A (storeName X.env x u) Q E s:=by
 obtain⟨m,hn,hl⟩:=id I.loc;have a6:(X.env.scope.kind == .class||(X.env.scope.kind == .module&&X.env.locals != X.env.globals))=false:=by rw[I.ok.kind];rfl
 have a5:i<σ.length:=by rw[I.len];exact(A5.mp hi).1
 have cne:=I.cne;have l:∀{a:Addr} {h':Heap},(∃o,s.heap.get? a=some o/\H a=none)->Heap.SameBut a s.heap h'->HOk X.prog X.w H h':=λ{a h'} ha f b ob e=>by
  obtain⟨_,_,a0⟩:=ha;refine(I.hok b ob e).stay (λc w' hc q=>(f.2 c ?_).trans q) (λ_ q=>q) λ_ _ q=>q;rintro rfl;rcases hc with rfl|hc
  ·rw[a0] at e;cases e
  ·rw[a0] at hc;cases hc
 rcases t with hk|hk
 ·refine wpAny_storeName_local hk hn (λh' a8 f=>?_) a6;obtain⟨oL,_,_,a9,_⟩:=id hn;refine h _ ⟨I.ok,I.os,I.bare,⟨λb o e n hb t=>?_,λb o e n hb t=>?_,I.base.free,λb o e t=>?_,I.base.tups,I.base.frzs,I.base.tbls⟩,⟨_,a8,λj y v' g e2 e3=>?_⟩,λy c e=>?_,I.free,I.freeC,λp hp=>?_,l ⟨oL,a9,I.free⟩ f,by simpa using I.len⟩ ⟨_,f,.inl rfl⟩
  ·exact(f.2 b (C4 (D7 (B4 e) I.ok.above))).trans (I.base.keep b o e n hb t)
  ·obtain⟨sl,g⟩:=I.base.slot b o e n hb t;exact⟨sl,(f.2 b (C4 (D7 (B4 e) I.ok.above))).trans g⟩
  ·obtain⟨o',g⟩:=I.base.there b o e t;exact⟨o',(f.2 b (C4 (D7 (B4 e) I.ok.above))).trans g⟩
  ·by_cases hj:j=i
   ·subst hj;rw[hi] at g;cases g;rw[O7 a5] at e2;cases e2;exact⟨u,r,.inl ⟨hk,by simp⟩⟩
   ·rw[Q6 (F6 hj)] at e2;obtain⟨u',r',q⟩:=hl j y v' g e2 e3;refine⟨u',r',?_⟩;rcases q with⟨k,e⟩|⟨k,c,e,z⟩
    ·refine .inl ⟨k,?_⟩;have:y≠x:=λe=>hj (qS6 hN g (e▸hi));simp[this,e]
    ·exact .inr ⟨k,c,e,z.sameBut f (cne y c e)⟩
  ·obtain⟨w',z⟩:=I.cell y c e;exact⟨w',z.sameBut f (cne y c e)⟩
  ·obtain⟨e,n,ne,nf,d⟩:=I.pin p hp;exact⟨(f.2 p.1 ne).trans e,n,ne,nf,d⟩
 ·have a1:X.fn x=true:=by
   rcases hf with z|z
   ·exact z
   ·rw[z] at hk;cases hk
  obtain⟨c,hc⟩:=I.ok.has x (.inl hk);obtain⟨w',z⟩:=I.cell x c hc;refine wpAny_storeName_cell I.ok.kind hk hc z (λh' a2 f=>?_);obtain⟨oc,a4,a3⟩:=id z;refine h {s with heap:=h'} ⟨I.ok,I.os,I.bare,⟨λb o e n hb t=>?_,λb o e n hb t=>?_,I.base.free,λb o e t=>?_,I.base.tups,I.base.frzs,I.base.tbls⟩,⟨m,hn.sameBut f (F6 (cne x c hc)),λj y v' g e2 e3=>?_⟩,λy c' e=>?_,I.free,I.freeC,λp hp=>?_,l ⟨oc,a4,I.freeC x c hc⟩ f,by simpa using I.len⟩ ⟨c,f,.inr hc⟩
  ·exact(f.2 b (C4 (D7 (B4 e) (I.ok.cab x c a1 hc)))).trans (I.base.keep b o e n hb t)
  ·obtain⟨sl,g⟩:=I.base.slot b o e n hb t;exact⟨sl,(f.2 b (C4 (D7 (B4 e) (I.ok.cab x c a1 hc)))).trans g⟩
  ·obtain⟨o',g⟩:=I.base.there b o e t;exact⟨o',(f.2 b (C4 (D7 (B4 e) (I.ok.cab x c a1 hc)))).trans g⟩
  ·by_cases hj:j=i
   ·subst hj;rw[hi] at g;cases g;rw[O7 a5] at e2;cases e2;exact⟨u,r,.inr ⟨.inl hk,c,hc,a2⟩⟩
   ·rw[Q6 (F6 hj)] at e2;obtain⟨u',r',q⟩:=hl j y v' g e2 e3;refine⟨u',r',?_⟩;rcases q with q|⟨k,c',e,z'⟩
    ·exact .inl q
    ·refine .inr ⟨k,c',e,z'.sameBut f ?_⟩;rintro rfl;exact hj (qS6 hN g (I.ok.inj _ _ _ e hc▸hi))
  ·by_cases a7:c'=c
   ·subst a7;exact⟨_,a2⟩
   ·obtain⟨w2,z2⟩:=I.cell y c' e;exact⟨w2,z2.sameBut f a7⟩
  ·obtain⟨e,n,ne,nf,d⟩:=I.pin p hp;refine⟨(f.2 p.1 ?_).trans e,n,ne,nf,d⟩;intro q;rw[q,a4] at e;have q':oc=p.2:=D1 e;exact d w' (by rw[<- q'];exact a3)
theorem qFZ {M:Model} {i:Nat} {x:Str} {v:V} {u:Value} {Q:Unit->Shared->Prop} (I:Inv X Ab σ H s)(a:X.N.Nodup)(hi:X.N[i]?=some x)(d:Loc X.env.scope x)(r:RelV v u)
  (h:∀s',Inv X Ab (σ.set i (some v)) H s'->Q () s') (b:X.fn x=true\/X.env.scope.names.lookup x=some .local:=by first|exact .inl rfl|exact .inr rfl|assumption):wpAny M A (storeName X.env x u) Q E s:=
 qNW I a hi d r (λs' c _=>h s' c) b
theorem Inv.call' {s':Shared} {ch:List Addr} (I:Inv X Ab σ H s)(g:s'.os=s.os)(u:Un (frs X.stack) ch H H' s.heap s'.heap)(d:HOk X.prog X.w H' s'.heap)(f:C29 s'.gens)
  (a:∀b∈ch,(b∈X.ex\/X.s₀.heap.objs.size<=b)/\b≠X.env.locals/\(∀x c,X.env.cells.lookup x=some c->c≠b)/\∀p∈X.pn++Ab,p.1≠b):Inv X Ab σ H' s':=by
 obtain⟨i,g',d',t',h⟩:=s';have e:h=s.os:=g;subst e;exact I.call (g':=g') (t':=t') (d':=d') u d f a
end
abbrev XK:=Value->Option Addr->Hp->Prop
abbrev St:=List (Option V)
abbrev VK:=V->Hp->Prop
abbrev TE:=St->Hp->VK->Prop
abbrev TT:=St->Hp->(Bool->Hp->Prop)->Prop
abbrev TA:=St->Hp->(List V->Hp->Prop)->Prop
structure Ends where
 nx:St->Hp->Prop
 rt:VK
 bk:St->Hp->Prop:=λ_ _=>False
 ct:St->Hp->Prop:=λ_ _=>False
abbrev TS:=Ends->St->Hp->Prop
def EP (X:Cx)(Ab:Aa2)(σ:St)(Q:VK)(u:Value)(s':Shared):Prop:=∃v H',Inv X Ab σ H' s'/\RelV v u/\Q v H'
def TP (X:Cx)(Ab:Aa2)(σ:St)(Q:Bool->Hp->Prop)(b:Bool)(s':Shared):Prop:=∃H',Inv X Ab σ H' s'/\Q b H'
def AP (X:Cx)(Ab:Aa2)(σ:St)(Q:List V->Hp->Prop)(us:List Value)(s':Shared):Prop:=∃vs H',Inv X Ab σ H' s'/\Vals vs us/\Q vs H'
def SP (X:Cx)(Ab:Aa2)(D:Ends)(f:Flow)(s':Shared):Prop:=
 match f with
 |.next=>∃σ' H',Inv X Ab σ' H' s'/\D.nx σ' H'
 |.brk=>∃σ' H',Inv X Ab σ' H' s'/\D.bk σ' H'
 |.cont=>∃σ' H',Inv X Ab σ' H' s'/\D.ct σ' H'
 |.ret u=>∃v σ' H',Inv X Ab σ' H' s'/\RelV v u/\D.rt v H'
def PE (X:Cx)(e:Expr)(t:TE):Prop:=
 ∀(Ab:Aa2) (s:Shared) (σ:St) (H:Hp) (Q:VK),Inv X Ab σ H s->t σ H Q->wpAny (model X.prog X.w) X.A (eval e X.env) (EP X Ab σ Q) X.xe s
def PT (X:Cx)(e:Expr)(t:TT):Prop:=
 ∀(Ab:Aa2) (s:Shared) (σ:St) (H:Hp) (Q:Bool->Hp->Prop),Inv X Ab σ H s->t σ H Q->wpAny (model X.prog X.w) X.A (isTrue e X.env (eval e X.env)) (TP X Ab σ Q) X.xe s
def PW (X:Cx)(e:Expr)(t:TT):Prop:=
 ∀(whole:Sem Value) (Ab:Aa2) (s:Shared) (σ:St) (H:Hp) (Q:Bool->Hp->Prop),Inv X Ab σ H s->t σ H Q->wpAny (model X.prog X.w) X.A (isTrue e X.env whole) (TP X Ab σ Q) X.xe s
theorem PW.pt {X:Cx} {e:Expr} {t:TT} (h:PW X e t):PT X e t:=h _
def PA (X:Cx)(es:List Expr)(t:TA):Prop:=
 ∀(pos:Pos) (Ab:Aa2) (s:Shared) (σ:St) (H:Hp) (Q:List V->Hp->Prop),Inv X Ab σ H s->t σ H Q->wpAny (model X.prog X.w) X.A (spliced (backTo pos (B66 es X.env))) (AP X Ab σ Q) X.xe s
def PS (X:Cx)(st:Stmt)(t:TS):Prop:=
 ∀(Ab:Aa2) (s:Shared) (σ:St) (H:Hp) (D:Ends),Inv X Ab σ H s->t D σ H->wpAny (model X.prog X.w) X.A (exec st X.env) (SP X Ab D) X.xe s
def PSs (X:Cx)(st:List Stmt)(t:TS):Prop:=
 ∀(Ab:Aa2) (s:Shared) (σ:St) (H:Hp) (D:Ends),Inv X Ab σ H s->t D σ H->wpAny (model X.prog X.w) X.A (execs st X.env) (SP X Ab D) X.xe s
theorem thn {α:Type} {t:Sem α} {Q Q':α->Shared->Prop} {M:Model} (h:wpAny M A t Q E s)(b:∀a s,Q a s->Q' a s):wpAny M A t Q' E s:=B69 h b λ_ _ x=>x
section
variable{X:Cx}
theorem bin {a b:Expr} {c d:TE} (g:PE X a c)(i:PE X b d){Ab:Aa2}{s:Shared}{σ:St}{H:Hp}{R:V->V->Hp->Prop}(I:Inv X Ab σ H s)(h:c σ H λx H1=>d σ H1 λy H2=>R x y H2)
  {α:Type} {Q:α->Shared->Prop} {f:Value->Value->Sem α}
  (e:∀v u s2 x y H2,Inv X Ab σ H2 s2->RelV x v->RelV y u->R x y H2->wpAny (model X.prog X.w) X.A (f v u) Q X.xe s2):
  wpAny (model X.prog X.w) X.A (eval a X.env) (λv s₁=>wpAny (model X.prog X.w) X.A (eval b X.env) (λu s₂=>wpAny (model X.prog X.w) X.A (f v u) Q X.xe s₂) X.xe s₁) X.xe s:=by
 refine thn (g Ab s σ H _ I h) λv s1 ⟨x,H1,I1,r1,q1⟩=>?_;refine thn (i Ab s1 σ H1 _ I1 q1) λu s2 ⟨y,H2,I2,r2,q2⟩=>?_;exact e v u s2 x y H2 I2 r1 r2 q2
def tVar (i:Nat):TE:=λσ H Q=>∃v,σ[i]?=some (some v)/\Q v H
def tC (v:V):TE:=λ_ H Q=>Q v H
theorem qe4 {i:Nat} {x:Str} {pos:Pos} (g:X.N[i]?=some x) (k:Vis X.env.scope x) (d:(x==("__debug__" : Str))=false:=by decide) (hcd:(x==("__classdict__" : Str))=false:=by decide):PE X (.Name x pos) (tVar i):=by
 intro j s σ H Q I h;obtain⟨v,e,h⟩:=h;obtain⟨m,p,n⟩:=I.loc;obtain⟨u,r,l⟩:=n i x v g e k;have b:EP X j σ Q u s:=⟨v,H,I,r,h⟩;rcases l with⟨hk,o⟩|⟨hk,c,f,a⟩
 ·exact wpAny_Name (wpAny_loadName_local I.ok.kind hk p o b) d
 ·rcases hk with hk|hk
  ·exact wpAny_Name (wpAny_loadName_cell I.ok.kind hk f a b) d
  ·exact wpAny_Name (wpAny_loadName_free I.ok.kind hk f a b hcd) d
theorem qA9 :PE X (.Constant (.int i) j pos) (tC (.int i)):=λ_ _ _ H _ I h=>wpAny_Constant_int ⟨.int i,H,I.tok _,⟨_,rfl⟩,h⟩
theorem qHN :PE X (.Constant (.bool b) j pos) (tC (.bl b)):=λ_ _ _ H _ I h=>Constant_bool ⟨.bl b,H,I,rfl,h⟩
theorem qJK :PE X (.Constant .none j pos) (tC .non):=λ_ _ _ H _ I h=>Constant_none ⟨.non,H,I,rfl,h⟩
theorem qCI :PE X (.Constant (.str x) j pos) (tC (.str x)):=λ_ _ _ H _ I h=>Calls.Constant_str ⟨.str x,H,I.tok _,⟨_,rfl⟩,h⟩
def Gl (X:Cx)(x:Str):Prop:=X.env.kindOf x=some .globalImplicit
theorem qMY {Ab:Aa2} {σ:St} {H:Hp} {x:Str} {u:Value} {pos:Pos} {Q:Aa1} (I:Inv X Ab σ H s)(b:Gl X x)(c:X.mg x=some u)(h:Q u s)
  (a:(x==("__debug__" : Str))=false:=by decide):wpAny (model X.prog X.w) X.A (eval (.Name x pos) X.env) Q E s:=
 Calls.Name_function_global I.ok.kind b (Calls.loadGlobal_global (by rw[I.ok.glob];exact I.mod.glob.keeps I.bk) c h) a
theorem qGZ {Ab:Aa2} {σ:St} {H:Hp} {x:Str} {u:Value} {pos:Pos} {Q:Aa1} (I:Inv X Ab σ H s)(a:Gl X x)(e:X.mg x=none)(c:B72 x=some u)(h:Q u s)
  (g:x ≠ "__name__":=by decide) (b:(x==("__debug__" : Str))=false:=by decide):wpAny (model X.prog X.w) X.A (eval (.Name x pos) X.env) Q E s:=by
 obtain⟨i,d,f⟩:=I.mod.blt;exact Calls.Name_function_global I.ok.kind a (Calls.loadGlobal_builtin (by rw[I.ok.glob];exact I.mod.glob.keeps I.bk) e (by rw[I.ok.blt];exact d.keeps I.bk) ((f x g).trans c) h) b
variable{a b:Expr}{ta tb:TE}{pos:Pos}
def PC (X:Cx)(op:CmpOp)(a b:Expr)(t:TE):Prop:=
 ∀(Ab:Aa2) (s:Shared) (σ:St) (H:Hp) (Q:VK),Inv X Ab σ H s->t σ H Q->
  wpAny (model X.prog X.w) X.A (eval a X.env) (λv s₁=>wpAny (model X.prog X.w) X.A (eval b X.env) (λu s₂=>wpAny (model X.prog X.w) X.A (B80 op v u) (EP X Ab σ Q) X.xe s₂) X.xe s₁) X.xe s
theorem qZ3 (b:Expr){op:CmpOp}(h:op≠.In)(d:op≠.NotIn):C08 op b=false:=by
 have a:(op==CmpOp.In)=false:=by cases op<;>first|rfl|exact absurd rfl h
 have c:(op==CmpOp.NotIn)=false:=by cases op<;>first|rfl|exact absurd rfl d
 cases b<;>simp[C08,a,c]
def tIsN (ta:TE):TE:=λσ H Q=>ta σ H λx H1=>Q (.bl (decide (x=.non))) H1
def qf8 (ta:TE):TE:=λσ H Q=>ta σ H λx H1=>Q (.bl (!decide (x=.non))) H1
theorem RelV.none_iff {x:V} {v:Value} (r:RelV x v):(v==J5)=decide (x=.non):=by
 cases x with
 |non=>cases r;rfl
 |bl _=>cases r;rfl
 |int _=>obtain⟨t,rfl⟩:=r;rfl
 |str _=>obtain⟨t,rfl⟩:=r;rfl
 |byt _=>obtain⟨t,rfl⟩:=r;rfl
 |flt _=>obtain⟨t,rfl⟩:=r;rfl
 |ref _=>cases r;rfl
 |ty _=>cases r;rfl
theorem qaP (b:PE X a ta):PC X .Is a (.Constant .none j pos') (tIsN ta):=by
 intro c s σ H Q I h;refine thn (b c s σ H _ I h) λv s1 ⟨x,H1,I1,r1,q1⟩=>?_;exact Constant_none (is_none_gen ⟨.bl _,H1,I1,by rw[r1.none_iff];rfl,q1⟩)
theorem qJL (b:PE X a ta):PC X .IsNot a (.Constant .none j pos') (qf8 ta):=by
 intro c s σ H Q I h;refine thn (b c s σ H _ I h) λv s1 ⟨x,H1,I1,r1,q1⟩=>?_;exact Constant_none (isnot_none_gen ⟨.bl _,H1,I1,by rw[r1.none_iff];rfl,q1⟩)
def tB (t:TE):TT:=λσ H Q=>t σ H λx H1=>∃c,x=.bl c/\Q c H1
theorem qF6 {op:CmpOp} {t:TE} (h:PC X op a b t)(e:C08 op b=false:=by first|exact qZ3 _ (by decide) (by decide)|rfl):PT X (.Compare a [op] [b] pos) (tB t):=by
 intro f s σ H Q I g;refine wpAny_isTrue_Compare1 (thn (h f s σ H _ I g) λv j e=>thn e λu k i=>thn i λc s3 ⟨x,H1,I1,r1,q1⟩=>?_) e;obtain⟨d,rfl,q⟩:=q1;cases r1;exact B79 ⟨H1,I1,q⟩
theorem qJG {e:Expr} {t:TE} (h:PE X e t)(c:∀whole,isTrue e X.env whole=(do let v <- whole;standAt e.pos;B97 [v] (truthy v)):=by intro _;rfl):PT X e (tB t):=by
 intro a s σ H Q I b;refine isTrue_plain (thn (h a s σ H _ I b) λv s1 ⟨x,H1,I1,r1,q1⟩=>?_) (c _);obtain⟨d,rfl,q⟩:=q1;cases r1;exact B79 ⟨H1,I1,q⟩
variable{tA tB':TT}{rest:List Expr}
def tAnd (t u:TT):TT:=λσ H Q=>t σ H λc H1=>if c=true then u σ H1 Q else Q false H1
def tOr (t u:TT):TT:=λσ H Q=>t σ H λc H1=>if c=true then Q true H1 else u σ H1 Q
def tNot (t:TT):TT:=λσ H Q=>t σ H λc H1=>Q (!c) H1
theorem qbO (b:PT X a tA):PW X (.BoolOp .And [a] pos) tA:=by
 intro f d s σ H Q I h;refine isTrue_and (thn (b d s σ H Q I h) λc g e=>?_);cases c with
 |true=>exact isTrue_and_nil e
 |false=>exact e
theorem qV4 (b:PT X a tA):PW X (.BoolOp .Or [a] pos) tA:=by
 intro f d s σ H Q I h;refine isTrue_or (thn (b d s σ H Q I h) λc g e=>?_);cases c with
 |false=>exact isTrue_or_nil e
 |true=>exact e
theorem qdY (f:PT X a tA)(g:PW X (.BoolOp .And (b::rest) pos) tB'):PW X (.BoolOp .And (a::b::rest) pos) (tAnd tA tB'):=by
 intro e d s σ H Q I h;refine isTrue_and (thn (f d s σ H _ I h) λc s1 ⟨H1,I1,q1⟩=>?_);cases c with
 |true=>exact g e d s1 σ H1 Q I1 q1
 |false=>exact⟨H1,I1,q1⟩
theorem qYJ (f:PT X a tA)(g:PW X (.BoolOp .Or (b::rest) pos) tB'):PW X (.BoolOp .Or (a::b::rest) pos) (tOr tA tB'):=by
 intro e d s σ H Q I h;refine isTrue_or (thn (f d s σ H _ I h) λc s1 ⟨H1,I1,q1⟩=>?_);cases c with
 |true=>exact⟨H1,I1,q1⟩
 |false=>exact g e d s1 σ H1 Q I1 q1
theorem qRW (b:PT X a tA):PT X (.UnaryOp .Not a pos) (tNot tA):=by
 intro d s σ H Q I h;exact isTrue_not (b d s σ H (λc e=>Q (!c) e) I h)
def qfG (ta tb:TE):TE:=λσ H Q=>ta σ H λx H1=>∃c,x=.bl c/\if c=true then tb σ H1 Q else Q (.bl false) H1
theorem qaL {t:TE} (h:PE X a t):PE X (.BoolOp op [a] pos) t:=λb s σ H Q I c=>BoolOp_one (h b s σ H Q I c)
theorem qaO (e:PE X a ta)(f:PE X (.BoolOp .And (b::rest) pos) tb):PE X (.BoolOp .And (a::b::rest) pos) (qfG ta tb):=by
 intro d s σ H Q I h;refine BoolOp_and (thn (e d s σ H _ I h) λv s1 ⟨x,H1,I1,r1,q1⟩=>?_);obtain⟨c,rfl,q1⟩:=q1;cases r1;refine B79 ?_;cases c with
 |true=>exact f d s1 σ H1 Q I1 q1
 |false=>exact⟨.bl false,H1,I1,rfl,q1⟩
def tIf (t:TT)(ta tb:TE):TE:=λσ H Q=>t σ H λc H1=>if c=true then ta σ H1 Q else tb σ H1 Q
theorem qIO {c:Expr} (g:PT X c tA)(f:PE X a ta)(i:PE X b tb):PE X (.IfExp c a b pos) (tIf tA ta tb):=by
 intro e s σ H Q I h;refine wpAny_IfExp (thn (g e s σ H _ I h) λd s1 ⟨H1,I1,q1⟩=>?_);cases d with
 |true=>exact f e s1 σ H1 Q I1 q1
 |false=>exact i e s1 σ H1 Q I1 q1
end
def SqL (K:Ab1)(H:Hp)(a:Addr)(xs:List V):Prop:=
 Rd H a (.lst xs)\/
  ∃(o:Obj) (its:Array Value) (n:Nat),K.lookup a=some o/\o.cls=.type "list"/\o.dict=none/\o.data=.seq its n/\its.size<=B62/\Vals xs its.toList
def SqT (K:Ab1)(H:Hp)(a:Addr)(xs:List V):Prop:=
 Rd H a (.tup xs)\/
  ∃(o:Obj) (its:Array Value) (n:Nat),K.lookup a=some o/\o.cls=.type "tuple"/\o.data=.seq its n/\its.size<=B62/\Vals xs its.toList
noncomputable def absV:Value->Option V
 |.none=>some .non
 |.bool b=>some (.bl b)
 |.int i _=>some (.int i)
 |.str x _=>some (.str x)
 |.bytes b _=>some (.byt b)
 |.float b _=>some (.flt b)
 |.ref a=>some (.ref a)
 |.type n=>some (.ty n)
 |_=>none
theorem RelV.abs {x:V} {u:Value} (r:RelV x u):absV u=some x:=by
 cases x with
 |non=>cases r;rfl
 |bl _=>cases r;rfl
 |int _=>obtain⟨t,rfl⟩:=r;rfl
 |str _=>obtain⟨t,rfl⟩:=r;rfl
 |byt _=>obtain⟨t,rfl⟩:=r;rfl
 |flt _=>obtain⟨t,rfl⟩:=r;rfl
 |ref _=>cases r;rfl
 |ty _=>cases r;rfl
theorem RelV.inj {x y:V} {u:Value} (r:RelV x u)(q:RelV y u):x=y:=D1 (r.abs.symm.trans q.abs)
theorem Vals.inj:∀{xs ys:List V} {us:List Value},Vals xs us->Vals ys us->xs=ys
 |_,_,_,.nil,.nil=>rfl
 |_,_,_,.cons r t,.cons r' t'=>by rw[r.inj r',Vals.inj t t']
section
variable{X:Cx}{Ab:Aa2}{σ:St}{H:Hp}{s:Shared}{a:Addr}{xs ys:List V}
theorem Ab2 {K:Ab1} (h:H a=some (.lst xs)):SqL K H a xs:=.inl (.inl h)
theorem Ac0 {K:Ab1} (h:H a=some (.tup xs)):SqT K H a xs:=.inl (.inl h)
theorem Inv.list (I:Inv X Ab σ H s)(h:SqL X.K H a xs):∃its:List Value,Vals xs its/\PlainL s.heap a its.toArray/\xs.length<=B62:=by
 rcases h with h|⟨o,its,n,hk,hc,hd,hs,hz,r⟩
 ·obtain⟨z,its,n,r,e⟩:=h.ok I.hok;exact⟨its,r,⟨_,n,e,rfl,rfl,rfl⟩,z⟩
 ·refine⟨its.toList,r,⟨o,n,I.kIn a o hk,hc,hd,by simpa using hs⟩,?_⟩
  have e:=r.length;simp only[D2] at e
  lia
theorem Inv.tuple (I:Inv X Ab σ H s)(h:SqT X.K H a xs):∃its:List Value,Vals xs its/\IsTup s.heap a its.toArray/\xs.length<=B62:=by
 rcases h with h|⟨o,its,n,hk,hc,hs,hz,r⟩
 ·obtain⟨z,its,r,p⟩:=h.ok I.hok;exact⟨its,r,p,z⟩
 ·refine⟨its.toList,r,⟨o,I.kIn a o hk,hc,n,by simpa using hs⟩,?_⟩
  have e:=r.length;simp only[D2] at e
  lia
theorem Inv.list_inj (I:Inv X Ab σ H s)(h:SqL X.K H a xs)(h':SqL X.K H a ys):xs=ys:=by
 obtain⟨c,r,⟨o,n,e,_,_,d⟩,_⟩:=I.list h;obtain⟨b,i,⟨j,k,g,_,_,f⟩,_⟩:=I.list h';rw[e] at g;cases g;rw[d] at f
 injection f with d1 _
 have:c=b:=by simpa using congrArg B51 d1
 subst this;exact r.inj i
theorem Inv.tuple_inj (I:Inv X Ab σ H s)(h:SqT X.K H a xs)(h':SqT X.K H a ys):xs=ys:=by
 obtain⟨c,r,⟨o,e,_,n,d⟩,_⟩:=I.tuple h;obtain⟨b,i,⟨j,g,_,k,f⟩,_⟩:=I.tuple h';rw[e] at g;cases g;rw[d] at f
 injection f with d1 _
 have:c=b:=by simpa using congrArg B51 d1
 subst this;exact r.inj i
end
noncomputable abbrev Cx.wish (X:Cx)(E:Aa1):Cx:={X with xe:=E}
noncomputable abbrev Cx.nox (X:Cx):Cx:=X.wish λ_ _=>False
theorem Cx.Ok.wish {X:Cx} (a:X.Ok)(E:Aa1):(X.wish E).Ok:=
 ⟨a.mod,a.kind,a.glob,a.blt,a.above,a.inj,a.has,a.cab,a.hd,a.frames,a.stk,a.exf,a.bs,a.bsz,a.noex,a.exfs,a.funs,a.frf⟩
theorem Cx.Ok.unwish {X:Cx} (a:(X.wish E).Ok):X.Ok:=
 ⟨a.mod,a.kind,a.glob,a.blt,a.above,a.inj,a.has,a.cab,a.hd,a.frames,a.stk,a.exf,a.bs,a.bsz,a.noex,a.exfs,a.funs,a.frf⟩
section
variable{X:Cx}{Ab:Aa2}{σ:St}{H:Hp}{s:Shared}{E:Aa1}
theorem Inv.wish (I:Inv X Ab σ H s)(E:Aa1):Inv (X.wish E) Ab σ H s:=⟨I.ok.wish E,I.os,I.bare,I.base,I.loc,I.cell,I.free,I.freeC,I.pin,I.hok,I.len⟩
theorem Inv.unwish (I:Inv (X.wish E) Ab σ H s):Inv X Ab σ H s:=⟨I.ok.unwish,I.os,I.bare,I.base,I.loc,I.cell,I.free,I.freeC,I.pin,I.hok,I.len⟩
theorem SP.unwish {D:Ends} {f:Flow} (h:SP (X.wish E) Ab D f s'):SP X Ab D f s':=by
 cases f with
 |next=>obtain⟨σ',a,I,q⟩:=h;exact⟨σ',a,I.unwish,q⟩
 |brk=>obtain⟨σ',a,I,q⟩:=h;exact⟨σ',a,I.unwish,q⟩
 |cont=>obtain⟨σ',a,I,q⟩:=h;exact⟨σ',a,I.unwish,q⟩
 |ret u=>obtain⟨v,σ',a,I,r,q⟩:=h;exact⟨v,σ',a,I.unwish,r,q⟩
theorem PSs.nox {st:List Stmt} {t:TS} (h:PSs X.nox st t):PSs X st t:=λa s σ H D I b=>
 B69 (h a s σ H D (I.wish _) b) (λ_ _ q=>q.unwish) λ_ _ z=>P9 z
end
section
variable{X:Cx}{st:Stmt}{rest:List Stmt}{t u:TS}{e:Expr}{te:TE}{pos:Pos}
def qf9:TS:=λD σ H=>D.nx σ H
def tSeq (t u:TS):TS:=λD σ H=>t {D with nx:=u D} σ H
theorem qAV:PSs X [] qf9:=λ_ _ σ H _ I h=>C10 ⟨σ,H,I,h⟩
theorem qA4 (e:PS X st t)(g:PSs X rest u):PSs X (st::rest) (tSeq t u):=by
 intro a s σ H D I h;refine wpAny_execs_cons (thn (e a s σ H {D with nx:=u D} I h) λf d q=>?_);cases f with
 |next=>
  obtain⟨σ',b,c,q⟩:=q;exact g a d σ' b D c q
 |ret v=>exact q
 |brk=>exact q
 |cont=>exact q
theorem qA6 (b:PS X st t):PSs X [st] t:=by
 intro a s σ H D I h;refine wpAny_execs_cons (thn (b a s σ H D I h) λf c q=>?_);cases f with
 |next=>exact C10 q
 |ret v=>exact q
 |brk=>exact q
 |cont=>exact q
theorem Inv.quiet {Ab:Aa2} {σ:St} {H:Hp} (I:Inv X Ab σ H s):interactive X.env=false:=by simp[interactive,I.ok.kind]
def qfC (te:TE):TS:=λD σ H=>te σ H λ_ H1=>D.nx σ H1
theorem qEE (c:PE X e te)(b:swapsWith e none pos.line X.env=pure false:=by rfl):PS X (.Expr e pos) (qfC te):=by
 intro a s σ H D I h;exact wpAny_Expr_any (thn (c a s σ H _ I h) λv s1 ⟨x,H1,I1,r1,q1⟩=>⟨σ,H1,I1,q1⟩) I.quiet b
def tRet (te:TE):TS:=λD σ H=>te σ H D.rt
theorem qAK (b:PE X e te):PS X (.Return (some e) pos) (tRet te):=by
 intro a s σ H D I h;exact wpAny_Return_some (thn (b a s σ H _ I h) λv s1 ⟨x,H1,I1,r1,q1⟩=>⟨x,σ,H1,I1,r1,q1⟩)
def tIfS (c:TT)(t u:TS):TS:=λD σ H=>c σ H λb H1=>if b=true then t D σ H1 else u D σ H1
theorem qCL {c:Expr} {a b:List Stmt} {f:TT} (g:PT X c f)(i:PSs X a t)(j:PSs X b u):PS X (.If c a b pos) (tIfS f t u):=by
 intro e s σ H D I h;refine wpAny_If (thn (g e s σ H _ I h) λd s1 ⟨H1,I1,q1⟩=>?_);cases d with
 |true=>exact i e s1 σ H1 D I1 q1
 |false=>exact j e s1 σ H1 D I1 q1
def qdF:TS:=λ_ _ _=>False
theorem qO8 {a:List Stmt} :PSs X a qdF:=λ_ _ _ _ _ _ h=>h.elim
end
abbrev TG:=V->St->Hp->(St->Hp->Prop)->Prop
abbrev TGs:=List V->St->Hp->(St->Hp->Prop)->Prop
def PG (X:Cx)(target:Expr)(t:TG):Prop:=
 ∀(Ab:Aa2) (s:Shared) (σ:St) (H:Hp) (v:V) (u:Value) (Q:St->Hp->Prop),Inv X Ab σ H s->RelV v u->t v σ H Q->
  wpAny (model X.prog X.w) X.A (assign target X.env u) (λ_ s'=>∃σ' H',Inv X Ab σ' H' s'/\Q σ' H') X.xe s
def PGs (X:Cx)(ts:List Expr)(t:TGs):Prop:=
 ∀(Ab:Aa2) (s:Shared) (σ:St) (H:Hp) (vs:List V) (us:List Value) (Q:St->Hp->Prop),Inv X Ab σ H s->Vals vs us->t vs σ H Q->
  wpAny (model X.prog X.w) X.A (assignInOrder ((C16 ts X.env).map (·.2)) us) (λ_ s'=>∃σ' H',Inv X Ab σ' H' s'/\Q σ' H') X.xe s
abbrev TSet:=V->V->V->Hp->(Hp->Prop)->Prop
def PSet (X:Cx)(t:TSet):Prop:=
 ∀(Ab:Aa2) (s:Shared) (σ:St) (H:Hp) (o i v:V) (ov iv u:Value) (Q:Hp->Prop),Inv X Ab σ H s->RelV o ov->RelV i iv->RelV v u->t o i v H Q->
  wpAny (model X.prog X.w) X.A (setItem ov iv u) (λ_ s'=>∃H',Inv X Ab σ H' s'/\Q H') X.xe s
abbrev TIp:=V->V->Hp->VK->Prop
def PIp (X:Cx)(op:Operator)(t:TIp):Prop:=
 ∀(Ab:Aa2) (s:Shared) (σ:St) (H:Hp) (x y:V) (v u:Value) (Q:VK),Inv X Ab σ H s->RelV x v->RelV y u->t x y H Q->
  wpAny (model X.prog X.w) X.A (inplaceOp op v u) (EP X Ab σ Q) X.xe s
section
variable{X:Cx}{pos:Pos}
def qa0 (i:Nat):TG:=λv σ H Q=>Q (σ.set i (some v)) H
theorem qAW {i:Nat} {x:Str} (a:X.N.Nodup)(hi:X.N[i]?=some x)(d:Loc X.env.scope x)(b:X.fn x=true\/X.env.scope.names.lookup x=some .local:=by first|exact .inl rfl|exact .inr rfl|assumption):PG X (.Name x pos) (qa0 i):=by
 intro f s σ H v u Q I r h;exact wpAny_assign_Name (qFZ I a hi d r (λe c=>⟨_,H,c,h⟩) b)
def gNil:TGs:=λvs σ H Q=>vs=[]/\Q σ H
def qgC (t:TG)(u:TGs):TGs:=λvs σ H Q=>∃v r,vs=v::r/\t v σ H λσ' H'=>u r σ' H' Q
theorem qFE:PGs X [] gNil:=by
 intro b s σ H c a Q I r h;obtain⟨e,h⟩:=h;subst e;cases r;exact assignInOrder_nil ⟨σ,H,I,h⟩
theorem qBH {e:Expr} {es:List Expr} {t:TG} {u:TGs} (d:PG X e t)(f:PGs X es u)
  (c:(C16 (e::es) X.env).map (·.2)=assign e X.env::(C16 es X.env).map (·.2):=by rfl):PGs X (e::es) (qgC t u):=by
 intro a s σ H j g Q I r h;obtain⟨v,i,b,h⟩:=h;subst b;cases r with
 |cons r rr=>
  rw[c];refine assignInOrder_cons (thn (d a s σ H _ _ _ I r h) λ_ s1 ⟨σ1,H1,I1,q1⟩=>?_);exact f a s1 σ1 H1 _ _ Q I1 rr q1
def gTup (K:Ab1)(n:Nat)(t:TGs):TG:=λv σ H Q=>∃a xs,v=.ref a/\SqT K H a xs/\xs.length=n/\t xs σ H Q
theorem qOD {es:List Expr} {k:Nat} {t:TGs} {n:Nat} (w:X.calm=true)(h:PGs X es t)
  (hn:(C16 es X.env).length=n:=by rfl) (c:(C16 es X.env).findIdx? (·.1)=none:=by rfl):PG X (.Tuple es k pos) (gTup X.K n t):=by
 intro f s σ H v u Q I r d;obtain⟨a,j,i,l,x,d⟩:=d;subst i;cases r;obtain⟨q,g,m,hz⟩:=I.tuple l;refine assign_Tuple_tuple (I.ok.hd w) m (by simp[hn,<- x,g.length]) c λz y=>?_
 have p:Inv X f σ H {s with heap:=z}:=I.kept (t':=s.toks) λb o e=>y b o (C4 (B4 e)) e;exact h f _ σ H j _ Q p (by simpa using g) d
def gSub (to ti:TE)(t:TSet):TG:=λv σ H Q=>to σ H λo H1=>ti σ H1 λi H2=>t o i v H2 λH3=>Q σ H3
theorem qVC {o i:Expr} {b c:TE} {t:TSet} (e:PE X o b)(hi:PE X i c)(d:PSet X t)
  (f:∀ v,assign (.Subscript o i pos) X.env v=(do
   let ov <- B97 [v] (eval o X.env)
   let iv <- B97 [v,ov] (eval i X.env)
   standAt pos
   B97 [v,ov,iv] (setItem ov iv v)
   release [v,ov,iv] []):=by intro _;rfl):PG X (.Subscript o i pos) (gSub b c t):=by
 intro a s σ H v u Q I r h;rw[f];refine B60 (B65 (thn (e a s σ H _ I h) λov s1 ⟨x,H1,I1,r1,q1⟩=>?_));refine B60 (B65 (thn (hi a s1 σ H1 _ I1 q1) λiv s2 ⟨y,H2,I2,r2,q2⟩=>?_));refine B60 (C03 (B60 (B65 (thn (d a s2 σ H2 x y v ov iv u _ I2 r1 r2 r q2) λ_ s3 ⟨H3,I3,q3⟩=>?_))));exact wpAny_release ⟨σ,H3,I3,q3⟩
def tAsg (te:TE)(g:TG):TS:=λD σ H=>te σ H λx H1=>g x σ H1 D.nx
theorem qRX {a e:Expr} {b:TE} {g:TG} (k:PE X e b)(f:PG X a g)(d:swapsWithSole [a] e pos.line X.env=pure false:=by rfl)(i:swappedStores [a] e X.env=pure none:=by rfl)
  (j:(C16 [a] X.env).map (·.2)=[assign a X.env]:=by rfl):PS X (.Assign [a] e pos) (tAsg b g):=by
 intro c s σ H D I h;refine wpAny_Assign_stores (thn (k c s σ H _ I h) λv s1 ⟨x,H1,I1,r1,q1⟩=>?_) d i;rw[j];exact thn (f c s1 σ H1 x v _ I1 r1 q1) λ_ l q=>q
theorem qAF {i:Nat} {x:Str} {e:Expr} {b:TE} {a:Pos} (d:X.N.Nodup)(hi:X.N[i]?=some x)(k:Loc X.env.scope x)(l:PE X e b)(c:swapsWith e (some (.Name x a)) pos.line X.env=pure false:=by rfl)(g:X.fn x=true\/X.env.scope.names.lookup x=some .local:=by first|exact .inl rfl|exact .inr rfl|assumption):
  PS X (.Assign [.Name x a] e pos) (tAsg b (qa0 i)):=by
 intro j s σ H D I h;refine wpAny_Assign_Name (thn (l j s σ H _ I h) λv s1 ⟨y,H1,I1,r1,q1⟩=>?_) c;exact qFZ I1 d hi k r1 (λm f=>⟨_,H1,f,q1⟩) g
def tAug (i:Nat)(te:TE)(ti:TIp):TS:=λD σ H=>∃x,σ[i]?=some (some x)/\te σ H λy H1=>ti x y H1 λz H2=>D.nx (σ.set i (some z)) H2
theorem qdZ {i:Nat} {x:Str} {e:Expr} {j:TE} {op:Operator} {o:TIp} {b:Pos} (q:X.N.Nodup)(hi:X.N[i]?=some x)(g:Loc X.env.scope x)(he:PE X e j)(ho:PIp X op o)(hf:X.fn x=true\/X.env.scope.names.lookup x=some .local:=by first|exact .inl rfl|exact .inr rfl|assumption):
  PS X (.AugAssign (.Name x b) op e pos) (tAug i j o):=by
 intro f s σ H D I h;obtain⟨v,p,h⟩:=h;obtain⟨m,hn,hl⟩:=I.loc;have d:Vis X.env.scope x:=by rcases g with k|k;exact .inl k;exact .inr (.inl k)
 obtain⟨u,r,l⟩:=hl i x v hi p d;refine wpAny_AugAssign_Name ?_;have n:wpAny (model X.prog X.w) X.A (eval e X.env) (λw s₂=>wpAny (model X.prog X.w) X.A (inplaceOp op u w) (λr s₃=>wpAny (model X.prog X.w) X.A (storeName X.env x r) (λ_=>SP X f D .next) X.xe s₃) X.xe s₂) X.xe s:=by
  refine thn (he f s σ H _ I h) λw s1 ⟨y,H1,I1,r1,q1⟩=>?_;refine thn (ho f s1 σ H1 v y u w _ I1 r r1 q1) λz s2 ⟨zv,H2,I2,r2,q2⟩=>?_;exact qFZ I2 q hi g r2 (λs3 I3=>⟨_,H2,I3,q2⟩) hf
 rcases l with⟨hk,hm⟩|⟨hk,c,t,a⟩
 ·exact wpAny_loadName_local I.ok.kind hk hn hm n
 ·rcases hk with hk|hk
  ·exact wpAny_loadName_cell I.ok.kind hk t a n
  ·rcases g with k|k
   ·have:X.env.scope.names.lookup x=some .free:=hk;rw[k] at this;cases this
   ·have:X.env.scope.names.lookup x=some .free:=hk;rw[k] at this;cases this
def qfF (to ti te:TE)(tget:V->V->Hp->VK->Prop)(tip:TIp)(tset:TSet):TS:=λD σ H=>to σ H λo H1=>ti σ H1 λi H2=>tget o i H2 λx H3=>te σ H3 λy H4=>tip x y H4 λz H5=>tset o i z H5 λH6=>D.nx σ H6
def PGet (X:Cx)(t:V->V->Hp->VK->Prop):Prop:=
 ∀(Ab:Aa2) (s:Shared) (σ:St) (H:Hp) (o i:V) (ov iv:Value) (Q:VK),Inv X Ab σ H s->RelV o ov->RelV i iv->t o i H Q->
  wpAny (model X.prog X.w) X.A (C22 ov iv) (EP X Ab σ Q) X.xe s
theorem qbS {o i e:Expr} {j k g:TE} {b:V->V->Hp->VK->Prop} {f:TIp} {a:TSet} {op:Operator} {d:Pos} (q:PE X o j)(hi:PE X i k)(m:PGet X b)(n:PE X e g)(p:PIp X op f)(l:PSet X a)
  (r:∀ov iv new,augStore i ov iv new=(do B97 [new,ov,iv] (setItem ov iv new);release [new,ov,iv] [];pure .next):=by intros;rfl):PS X (.AugAssign (.Subscript o i d) op e pos) (qfF j k g b f a):=by
 intro c s σ H D I h;refine wpAny_AugAssign_SubscriptAny (thn (q c s σ H _ I h) λov s1 ⟨x1,H1,I1,r1,q1⟩=>?_) r;refine thn (hi c s1 σ H1 _ I1 q1) λiv s2 ⟨x2,H2,I2,r2,q2⟩=>?_;refine thn (m c s2 σ H2 x1 x2 ov iv _ I2 r1 r2 q2) λold s3 ⟨x3,H3,I3,r3,q3⟩=>?_;refine thn (n c s3 σ H3 _ I3 q3) λv s4 ⟨x4,H4,I4,r4,q4⟩=>?_;refine thn (p c s4 σ H4 x3 x4 old v _ I4 r3 r4 q4) λnew s5 ⟨x5,H5,I5,r5,q5⟩=>?_;exact thn (l c s5 σ H5 x1 x2 x5 ov iv new _ I5 r1 r2 r5 q5) λ_ s6 ⟨H6,I6,q6⟩=>⟨σ,H6,I6,q6⟩
def ipI (f:Int->Int->Int):TIp:=λx y H Q=>∃i j,x=.int i/\y=.int j/\Q (.int (f i j)) H
theorem qaW:PIp X .Add (ipI λi j=>i+j):=by
 intro e s σ H x y v u Q I d c h;obtain⟨i,j,a,b,q⟩:=h;subst a;subst b;obtain⟨t,rfl⟩:=d;obtain⟨f,rfl⟩:=c;exact iadd_int ⟨.int _,H,I.tok _,⟨_,rfl⟩,q⟩
def qdC (c:TT)(tb:TS):TS:=λD σ H=>∃W:Nat->St->Hp->Prop,(∃m,W m σ H)/\∀m σ H,W m σ H->
 c σ H λb H1=>if b=true then∃N:St->Hp->Prop,(∀σ' H',N σ' H'->∃m',m'<m/\W m' σ' H')/\tb {D with nx:=N,ct:=N,bk:=D.nx} σ H1 else D.nx σ H1
theorem qMO {c:Expr} {body:List Stmt} {q:TT} {p:TS} (r:PassesOwn (model X.prog X.w) X.A X.env X.xe)(t:PT X c q)(u:PSs X body p):PS X (.While c body [] pos) (qdC q p):=by
 intro k s σ H D I h;obtain⟨W,⟨y,z⟩,d⟩:=h;refine wpAny_While (codeAny_whileLoop (λn x=>∃σ' H',Inv X k σ' H' x/\W n σ' H') ?_ y ⟨σ,H,I,z⟩);rintro n s1 ⟨σ1,H1,I1,w1⟩;refine C02 r (thn (t k s1 σ1 H1 _ I1 (d n σ1 H1 w1)) λb s2 ⟨H2,I2,q2⟩=>?_);cases b with
 |true=>
  obtain⟨N,o,q2⟩:=q2;rw[if_pos rfl];refine C02 r (thn (u k s2 σ1 H2 _ I2 q2) λf s3 e=>?_);cases f with
  |next=>
   obtain⟨σ3,a,j,g⟩:=e;obtain⟨l,i,m⟩:=o σ3 a g;exact⟨l,i,σ3,a,j,m⟩
  |cont=>
   obtain⟨σ3,a,j,g⟩:=e;obtain⟨l,i,m⟩:=o σ3 a g;exact⟨l,i,σ3,a,j,m⟩
  |brk=>exact e
  |ret v=>exact e
 |false=>
  rw[if_neg C3];exact C10 ⟨σ1,H2,I2,q2⟩
end
structure It where
 go:Nat->Hp->Prop
 yld:Nat->Hp->V->Hp->Prop
 stop:Nat->Hp->Prop
def FpOk (X:Cx)(Ab:Aa2)(H:Hp)(b:Addr):Prop:=
 H b=none/\b≠X.env.locals/\b∉X.fs/\(b∈X.ex\/X.s₀.heap.objs.size<=b)/\(∀x c,X.env.cells.lookup x=some c->c≠b)/\∀p∈X.pn++Ab,p.1≠b
theorem Inv.fpOk {X:Cx} {Ab:Aa2} {σ:St} {H H':Hp} {s:Shared} {b:Addr} (I:Inv X Ab σ H s)(a:s.heap.objs.size<=b)(f:H' b=none):FpOk X Ab H' b:=by
 refine⟨f,O3 (D7 I.lt a),I.nofs a,.inr (F3 I.sz a),λx c e z=>?_,λp d z=>?_⟩
 ·obtain⟨v,q⟩:=I.cell x c e;exact absurd (D7 q.lt (by rw[z];exact a)) (T9 _)
 ·exact absurd (D7 (B4 (I.pin p d).1) (by rw[z];exact a)) (T9 _)
structure Turn (P:B63)(w:World)(K:Ab1)(tg:Expr)(J:It)(fp:List Addr)(it:Addr)(tn:Nat->Heap->Prop):Prop where
 mem:it∈fp
 obj:∀i h,tn i h->∀b∈fp,∃o,h.get? b=some o/\∀v,o.data≠.cell v
 keep:∀i h h',tn i h->(∀b∈fp,∀o,h.get? b=some o->h'.get? b=some o)->tn i h'
 item:∀(X:Cx),X.prog=P->X.w=w->X.K=K->X.calm=true->∀(i:Nat) (Ab:Aa2) (s:Shared) (σ:St) (H:Hp) (E:Aa1),Inv X Ab σ H s->(∀b∈fp,FpOk X Ab H b)->tn i s.heap->J.go i H->
  wpAny (model P w) X.A (pyNext (.ref it)) (fun r s1=>∃ u,r=some u/\
   wpAny (model P w) X.A (C46 tg (.ref it) u) (λ_ s2=>∃x H',Inv X Ab σ H' s2/\RelV x u/\J.yld i H x H'/\tn (i+1) s2.heap/\∀b∈fp,H' b=none) E s1) E s
 done:∀(X:Cx),X.prog=P->X.w=w->X.K=K->X.calm=true->∀(i:Nat) (Ab:Aa2) (s:Shared) (σ:St) (H:Hp) (E:Aa1),Inv X Ab σ H s->(∀b∈fp,FpOk X Ab H b)->tn i s.heap->J.stop i H->
  wpAny (model P w) X.A (pyNext (.ref it)) (λr s1=>r=none/\Inv X Ab σ H s1) E s
 self:∀(A:Around) (i:Nat) (s:Shared) (Q:Aa1) (E:Aa1),tn i s.heap->Q (.ref it) s->wpAny (model P w) A (pyIter (.ref it)) Q E s
abbrev TI:=St->Hp->(It->Hp->Prop)->Prop
def PIE (X:Cx)(Ab:Aa2)(σ:St)(tg:Expr)(R:It->Hp->Prop)(itv:Value)(s2:Shared):Prop:=
 ∃(it:Addr) (fp:List Addr) (tn:Nat->Heap->Prop) (J:It) (H':Hp),itv=.ref it/\Inv X Ab σ H' s2/\Turn X.prog X.w X.K tg J fp it tn/\tn 0 s2.heap/\(∀b∈fp,FpOk X Ab H' b)/\R J H'
def PI (X:Cx)(tg iter:Expr)(wi:TI):Prop:=
 ∀(Ab:Aa2) (s:Shared) (σ:St) (H:Hp) (R:It->Hp->Prop),Inv X Ab σ H s->wi σ H R->
  wpAny (model X.prog X.w) X.A (eval iter X.env) (λv s1=>wpAny (model X.prog X.w) X.A (pyIter v) (PIE X Ab σ tg R) X.xe s1) X.xe s
theorem qTT {M:Model} {s:Shared} {b:Expr} {c:Addr} {u:Value} {o:Obj} {n:String} {vs:Array Value} {Q:Unit->Shared->Prop} (f:s.heap.get? c=some o)(e:o.cls=.type n)(d:o.data=.fields vs)
  (g:["enumerate","zip","dict_itemiterator","dict_reverseitemiterator","odict_iterator","itertools.zip_longest","itertools.pairwise"].contains n=false) (a:Q () s):wpAny M A (C46 b (.ref c) u) Q E s:=by
 unfold C46;cases b<;>first
  |exact B61 a
  | (cases u <;> first
    |exact B61 a
    | (refine B60 (wpAny_load f ?_)
       rw[e,d];show wpAny M A (if(["enumerate","zip","dict_itemiterator","dict_reverseitemiterator","odict_iterator","itertools.zip_longest","itertools.pairwise"].contains n&&vs[0]? == some (rawInt _))=true then _ else _) Q E s
       rw[if_neg (by intro h;rw[g,w6] at h;cases h)]
       exact B61 a))
def Itl (K:Ab1)(a:Addr):It:=
 ⟨λi H=>∃xs x,SqL K H a xs/\xs[i]?=some x,λi H x H'=>H'=H/\∀xs,SqL K H a xs->xs[i]?=some x,λi H=>∃xs,SqL K H a xs/\xs.length<=i⟩
def Itt (K:Ab1)(a:Addr):It:=
 ⟨λi H=>∃xs x,SqT K H a xs/\xs[i]?=some x,λi H x H'=>H'=H/\∀xs,SqT K H a xs->xs[i]?=some x,λi H=>∃xs,SqT K H a xs/\xs.length<=i⟩
def Itr (lo:Int)(n:Nat):It:=⟨λi _=>i<n,λi H x H'=>H'=H/\x=.int (lo+i),λi _=>n<=i⟩
theorem qNS {K:Ab1} {tg:Expr} (a j:Addr):Turn P w K tg (Itl K a) [j] j (λi h=>h.IsListIter j a i) where
 mem:=by simp
 obj:=λi h f b g=>by
  have e:b=j:=by simpa using g
  subst e;obtain⟨o,e,c,d⟩:=f;exact⟨o,e,λv z=>by rw[d] at z;cases z⟩
 keep:=λi h m f k=>f.at λo e=>k j (by simp) o e
 item:=by
  intro X hP hw hK hc i Ab s σ H E I n f y;subst hP hw hK;obtain⟨xs,x,q,hx⟩:=y;obtain⟨a0,rv,p,hz⟩:=I.list q;obtain⟨u,hu,ru⟩:=rv.get hx;obtain⟨t,f1,f2,r,f4,f5⟩:=n j (by simp)
  refine C35 f p.isList (x:=u) (by simpa using hu) λm l sb=>?_
  have I1:Inv X Ab σ H {s with heap:=m}:=I.turned (t':=s.toks) (λb o g e=>(sb.2 b g).trans e) t f1 r f4 f5;obtain⟨o,e,c,d⟩:=id l;exact⟨u,rfl,qTT (s:={s with heap:=m}) e c d (by decide) ⟨x,H,I1,ru,⟨rfl,λys hy=>by rw[I.list_inj hy q];exact hx⟩,l,λb g=>(n b g).1⟩⟩
 done:=by
  intro X hP hw hK hc i Ab s σ H E I n f y;subst hP hw hK;obtain⟨xs,q,hx⟩:=y;obtain⟨a0,rv,p,hz⟩:=I.list q;obtain⟨t,f1,f2,r,f4,f5⟩:=n j (by simp)
  have hl:=rv.length;exact C43 (I.ok.hd hc) f p.isList (by simp;lia) λm eb=>⟨rfl,I.turned (t':=s.toks) (λb o g e=>eb b o g e) t f1 r f4 f5⟩
 self:=λ_ _ _ _ _ f h=>wpAny_pyIter_listiter f h
theorem qLG {K:Ab1} {tg:Expr} (a l:Addr):Turn P w K tg (Itt K a) [l] l (λi h=>h.IsTupleIter l a i) where
 mem:=by simp
 obj:=λi h f b j=>by
  have e:b=l:=by simpa using j
  subst e;obtain⟨o,e,c,d⟩:=f;exact⟨o,e,λv z=>by rw[d] at z;cases z⟩
 keep:=λi h n f k=>f.at λo e=>k l (by simp) o e
 item:=by
  intro X hP hw hK hc i Ab s σ H E I q f hg;subst hP hw hK;obtain⟨xs,x,r,hx⟩:=hg;obtain⟨g,rv,p,hz⟩:=I.tuple r;obtain⟨u,hu,ru⟩:=rv.get hx;obtain⟨y,f1,f2,t,f4,f5⟩:=q l (by simp)
  refine wpAny_pyNext_tuple_item f (show s.heap.IsTuple a g.toArray from p) (x:=u) (by simpa using hu) λn m sb=>?_
  have I1:Inv X Ab σ H {s with heap:=n}:=I.turned (t':=s.toks) (λb o j e=>(sb.2 b j).trans e) y f1 t f4 f5;obtain⟨o,e,c,d⟩:=id m;exact⟨u,rfl,qTT (s:={s with heap:=n}) e c d (by decide) ⟨x,H,I1,ru,⟨rfl,λys hy=>by rw[I.tuple_inj hy r];exact hx⟩,m,λb j=>(q b j).1⟩⟩
 done:=by
  intro X hP hw hK hc i Ab s σ H E I q f hg;subst hP hw hK;obtain⟨xs,r,hx⟩:=hg;obtain⟨g,rv,p,hz⟩:=I.tuple r;obtain⟨y,f1,f2,t,f4,f5⟩:=q l (by simp)
  have hl:=rv.length;exact wpAny_pyNext_tuple_end (I.ok.hd hc) f (show s.heap.IsTuple a g.toArray from p) (by simp;lia) λn eb=>⟨rfl,I.turned (t':=s.toks) (λb o j e=>eb b o j e) y f1 t f4 f5⟩
 self:=λ_ _ _ _ _ f h=>wpAny_pyIter_tupleiter f h
theorem qSY {K:Ab1} {tg:Expr} (c:Addr)(lo:Int)(n:Nat):Turn P w K tg (Itr lo n) [c] c (λi h=>IsRangeIter h c (lo+(i:Nat)*1) ((n:Int)-(i:Nat)) 1) where
 mem:=by simp
 obj:=λi h a b d=>by
  have e:b=c:=by simpa using d
  subst e;exact⟨_,a,λv z=>by
   have z':A66 _=B19 v:=z;cases z'⟩
 keep:=λi h g a k=>k c (by simp) _ a
 item:=by
  intro X hP y x q i Ab s σ H E I j a p;subst hP y x;obtain⟨m,u,f2,l,r,f5⟩:=j c (by simp)
  have W:=Walks.range (prog:=X.prog) (w:=X.w) (I.ok.hd q) c lo 1 n;refine W.item i s _ _ p a λv g tk hv f kk=>?_;obtain⟨t,rfl⟩:=hv;have I1:Inv X Ab σ H {s with heap:=g,toks:=tk}:=I.turned (λb o d e=>kk b o (by simpa using d) e) m u l r f5
  refine⟨_,rfl,qTT (s:={s with heap:=g,toks:=tk}) (n:="range_iterator") f rfl rfl (by decide) ⟨.int (lo+i),H,I1,⟨t,?_⟩,⟨rfl,rfl⟩,f,λb d=>(j b d).1⟩⟩
  rw[Int.mul_one]
 done:=by
  intro X hP y x q i Ab s σ H E I j a p;subst hP y x;obtain⟨m,u,f2,l,r,f5⟩:=j c (by simp)
  exact wpAny_pyNext_range_end (I.ok.hd q) a (by have:n<=i:=p;lia) λg eb=>⟨rfl,I.turned (t':=s.toks) (λb o d e=>eb b o d e) m u l r f5⟩
 self:=λ_ _ _ _ _ a h=>wpAny_pyIter_rangeiter a h
section
variable{X:Cx}{tg:Expr}
def qgA (K:Ab1)(tl:TE):TI:=λσ H R=>tl σ H λx H1=>∃a,x=.ref a/\(∃xs,SqL K H1 a xs)/\R (Itl K a) H1
def iTup (K:Ab1)(tl:TE):TI:=λσ H R=>tl σ H λx H1=>∃a,x=.ref a/\(∃xs,SqT K H1 a xs)/\R (Itt K a) H1
theorem qDT {l:Expr} {c:TE} (i:PE X l c):PI X tg l (qgA X.K c):=by
 intro f s σ H R I h;refine thn (i f s σ H _ I h) λv s1 ⟨x,H1,I1,r1,q1⟩=>?_;obtain⟨a,e,⟨k,d⟩,q⟩:=q1;subst e;cases r1;obtain⟨g,n,p,m⟩:=I1.list d;refine B84 p.isList ?_;refine⟨s1.heap.objs.size,[s1.heap.objs.size],_,_,H1,rfl,I1.kept (t':=s1.toks) λb o e=>A3 _ e,qNS a _,⟨_,B3 _ rfl,rfl,rfl⟩,λb j=>?_,q⟩;have e:b=s1.heap.objs.size:=by simpa using j
 subst e;exact I1.fpOk (A7 _) (I1.hok.fresh (A7 _))
theorem qDC {l:Expr} {d:TE} (i:PE X l d):PI X tg l (iTup X.K d):=by
 intro g s σ H R I h;refine thn (i g s σ H _ I h) λv s1 ⟨x,H1,I1,r1,q1⟩=>?_;obtain⟨a,e,⟨k,f⟩,q⟩:=q1;subst e;cases r1;obtain⟨c,n,p,m⟩:=I1.tuple f;refine C26 (show s1.heap.IsTuple a c.toArray from p) ?_;refine⟨s1.heap.objs.size,[s1.heap.objs.size],_,_,H1,rfl,I1.kept (t':=s1.toks) λb o e=>A3 _ e,qLG a _,⟨_,B3 _ rfl,rfl,rfl⟩,λb j=>?_,q⟩;have e:b=s1.heap.objs.size:=by simpa using j
 subst e;exact I1.fpOk (A7 _) (I1.hok.fresh (A7 _))
theorem range_it {Ab:Aa2} {σ:St} {H:Hp} {R:It->Hp->Prop} {lo hi:Int} {t u v:Tok} {tk:Nat} (I:Inv X Ab σ H s)(h : -(2^62)<=lo)(j:lo<2^62)(g : -(2^62)<=hi)(f:hi<2^62)
  (q:R (Itr lo (hi-lo).toNat) H):wpAny (model X.prog X.w) X.A (pyIter (.ref s.heap.objs.size)) (PIE X Ab σ tg R) E {s with heap:=s.heap.push {cls:=.type "range",data:=.fields #[.int lo t,.int hi u,.int 1 v]},toks:=tk}:=by
 refine wpAny_pyIter_range (B55 ..) (small_one h j g f) ?_;have a:Inv X Ab σ H {s with heap:=s.heap.push {cls:=.type "range",data:=.fields #[.int lo t,.int hi u,.int 1 v]},toks:=tk}:=I.kept λb o e=>A3 _ e;refine⟨(s.heap.push {cls:=.type "range",data:=.fields #[.int lo t,.int hi u,.int 1 v]}).objs.size,[(s.heap.push {cls:=.type "range",data:=.fields #[.int lo t,.int hi u,.int 1 v]}).objs.size],_,_,H,rfl,
  a.kept (t':=tk) λb o e=>A3 _ e,qSY _ lo (hi-lo).toNat,?_,λb i=>?_,q⟩
 ·have c:lo+((0:Nat):Int)*1=lo:=by simp
  have d:(((hi-lo).toNat:Nat):Int)-((0:Nat):Int)=U0 lo hi 1:=by rw[rangeSize_one];split<;>lia
  show IsRangeIter _ _ (lo+((0:Nat):Int)*1) ((((hi-lo).toNat:Nat):Int)-((0:Nat):Int)) 1;rw[c,d];exact B3 _ rfl
 ·have e:b=(s.heap.push {cls:=.type "range",data:=.fields #[.int lo t,.int hi u,.int 1 v]}).objs.size:=by simpa using i
  subst e;exact a.fpOk (A7 _) (a.hok.fresh (A7 _))
def qg9 (ta:TA):TI:=λσ H R=>ta σ H λvs H1=>∃j:Int,vs=[.int j]/\-(2^62)<=j/\j<2^62/\R (Itr 0 j.toNat) H1
theorem qBT {a:Expr} {b:TA} {p pos:Pos} (d:Gl X "range") (g:X.mg "range" = none) (i:PA X [a] b) (c:B66 [a] X.env=[(false,eval a X.env)]:=by rfl):PI X tg (.Call (.Name "range" p) [a] [] pos) (qg9 b):=by
 intro f s σ H R I h;refine Call_ (qGZ I d g boot_range (Q3 (thn (i pos f s σ H _ I h) λus s1 ⟨vs,H1,I1,r1,q1⟩=>?_) c rfl));obtain⟨j,e,q1,k,q⟩:=q1;subst e;cases r1 with
 |cons r rr=>
  cases rr;obtain⟨t,rfl⟩:=r;exact call_range_1 (range_it I1 (by lia) (by lia) q1 k (by simpa using q))
def tFor (wi:TI)(g:TG)(tb:TS):TS:=λD σ H=>wi σ H λJ H1=>∃W:Nat->Nat->St->Hp->Prop,(∃m,W 0 m σ H1)/\∀i m σ H,W i m σ H->
 (J.stop i H/\D.nx σ H)\/(J.go i H/\∃N:St->Hp->Prop,(∀σ' H',N σ' H'->∃m',m'<m/\W (i+1) m' σ' H')/\∀x H',J.yld i H x H'->g x σ H' λσ2 H2=>tb {D with nx:=N,ct:=N,bk:=D.nx} σ2 H2)
noncomputable def qOC (fp:List Addr)(h:Heap):Aa2:=fp.filterMap λb=>(h.get? b).map λo=>(b,o)
theorem qG7 {a:List Addr} {h:Heap} {b:Addr} {o:Obj} (c:b∈a)(e:h.get? b=some o):(b,o)∈qOC a h:=G8.mpr ⟨b,c,by rw[e];rfl⟩
theorem qVS {a:List Addr} {h:Heap} {p:Addr×Obj} (c:p∈qOC a h):p.1∈a/\h.get? p.1=some p.2:=by
 obtain⟨b,d,e⟩:=G8.mp c;cases q:h.get? b with
 |none=>rw[q] at e;cases e
 |some o=>
  rw[q] at e;have f:(b,o)=p:=D1 e;subst f;exact⟨d,q⟩
theorem Inv.pinned {Ab:Aa2} {σ:St} {H:Hp} {s:Shared} {a:List Addr} (I:Inv X Ab σ H s)(h:∀b∈a,FpOk X Ab H b)(l:∀b∈a,∃o,s.heap.get? b=some o/\∀v,o.data≠.cell v):Inv X (Ab++qOC a s.heap) σ H s:=
 I.pins_of λp i=>(B8.mp i).elim (λz=>I.pin p (F9 _ z)) λz=>by
  obtain⟨f,e⟩:=qVS z;obtain⟨g,k,j,_⟩:=h p.1 f;obtain⟨o,c,d⟩:=l p.1 f;rw[e] at c;cases c;exact⟨e,g,k,j,d⟩
theorem Inv.unpinned {Ab b:Aa2} {σ:St} {H:Hp} (I:Inv X (Ab++b) σ H s):Inv X Ab σ H s:=I.pins_of λp a=>I.pin p (F9 _ (Q5 _ a))
theorem qC8 {j:Expr} {body:List Stmt} {wi:TI} {g:TG} {tb:TS} {pos:Pos} (hp:PassesOwn (model X.prog X.w) X.A X.env X.xe)(hc:X.calm=true)(hi:PI X tg j wi)(hg:PG X tg g)(a:PSs X body tb)
  (hs:∀x,C33 j X.env x=pure x:=by intro _;rfl):PS X (.For tg j body [] pos) (tFor wi g tb):=by
 intro q s σ H D I h;refine wpAny_For (thn (hi q s σ H _ I h) λv s1 h1=>thn h1 λa4 s2 h2=>?_) hs;obtain⟨it,y,tn,J,H2,e,I2,T,a2,f2,W,⟨m0,w0⟩,a1⟩:=h2;subst e
 -- what stays true of the iterator's objects through the loop
 have l:∀{H':Hp},(∀b∈y,H' b=none)->∀b∈y,FpOk X q H' b:=λhn b a=>⟨hn b a,(f2 b a).2⟩;refine codeAny_forLoop_any (λn s'=>∃i σ' H',Inv X q σ' H' s'/\tn i s'.heap/\(∀b∈y,H' b=none)/\W i n σ' H') ?_ m0 ⟨0,σ,H2,I2,a2,λb a=>(f2 b a).1,w0⟩;rintro n s3 ⟨i,σ3,H3,I3,st3,fr3,w3⟩;rcases a1 i n σ3 H3 w3 with⟨a0,qn⟩|⟨go,N,hN,z⟩
 ·refine C02 hp (thn (T.done X rfl rfl rfl hc i q s3 σ3 H3 X.xe I3 (l fr3) st3 a0) λr s4 ⟨hr,I4⟩=>?_);subst hr;exact C10 ⟨σ3,H3,I4,qn⟩
 ·refine C02 hp (thn (T.item X rfl rfl rfl hc i q s3 σ3 H3 X.xe I3 (l fr3) st3 go) λr s4 ⟨u,hr,h4⟩=>?_);subst hr;refine C02 hp (thn h4 λ_ s5 ⟨x,H5,I5,r5,y5,st5,fr5⟩=>?_);have a3:=I5.pinned (l fr5) (T.obj _ _ st5);refine C02 hp (thn (hg _ s5 σ3 H5 x u _ a3 r5 (z x H5 y5)) λ_ s6 ⟨σ6,H6,I6,q6⟩=>?_);refine C02 hp (thn (a _ s6 σ6 H6 _ I6 q6) λf s7 p=>?_);have k:∀{σ7:St} {H7:Hp},Inv X (q++qOC y s5.heap) σ7 H7 s7->N σ7 H7->∃m,m<n/\∃i σ' H',Inv X q σ' H' s7/\tn i s7.heap/\(∀b∈y,H' b=none)/\W i m σ' H':=λ{σ7 H7} c t=>by
   obtain⟨m',hm,w7⟩:=hN σ7 H7 t;refine⟨m',hm,i+1,σ7,H7,c.unpinned,T.keep _ _ _ st5 λb a o e=>(c.pin (b,o) (F9 _ (F9 _ (qG7 a e)))).1,λb a=>?_,w7⟩;obtain⟨o,e,d⟩:=T.obj _ _ st5 b a;exact(c.pin (b,o) (F9 _ (F9 _ (qG7 a e)))).2.1
  cases f with
  |next=>obtain⟨σ7,H7,c,t⟩:=p;exact k c t
  |cont=>obtain⟨σ7,H7,c,t⟩:=p;exact k c t
  |brk=>obtain⟨σ7,H7,c,p⟩:=p;exact⟨σ7,H7,c.unpinned,p⟩
  |ret v=>obtain⟨x7,σ7,H7,c,r7,p⟩:=p;exact⟨x7,σ7,H7,c.unpinned,r7,p⟩
end
abbrev ForG (I:It)(g:TG)(tb:TS)(D:Ends)(σ:St)(H:Hp):Prop:=∃W:Nat->Nat->St->Hp->Prop,(∃m,W 0 m σ H)/\∀i m σ H,W i m σ H->(I.stop i H/\D.nx σ H)\/(I.go i H/\∃N:St->Hp->Prop,(∀σ' H',N σ' H'->∃m',m'<m/\W (i+1) m' σ' H')/\∀x H',I.yld i H x H'->g x σ H' λσ2 H2=>tb {D with nx:=N,ct:=N,bk:=D.nx} σ2 H2)
theorem qH5 {K:Ab1} {a:Addr} {xs:List V} {g:TG} {c:TS} {D:Ends} {σ:St} {H:Hp} (Pv:Nat->St->Hp->Prop)(k:Pv 0 σ H)(l:∀i σ H,i<=xs.length->Pv i σ H->SqL K H a xs)
  (d:∀i x σ H,xs[i]?=some x->Pv i σ H->g x σ H λσ2 H2=>c {D with nx:=Pv (i+1),ct:=Pv (i+1),bk:=D.nx} σ2 H2) (f:∀σ H,Pv xs.length σ H->D.nx σ H):
  ForG (Itl K a) g c D σ H:=by
 refine⟨λi m σ H=>m=xs.length-i/\i<=xs.length/\Pv i σ H,⟨xs.length,by simp,E2 _,k⟩,?_⟩
 rintro i m σ H ⟨rfl,hi,p⟩;have q:=l i σ H hi p;by_cases b:i<xs.length
 ·refine .inr ⟨⟨xs,xs[i],q,by simp[b]⟩,Pv (i+1),λσ' h j=>⟨xs.length-(i+1),by lia,rfl,b,j⟩,λx h y=>?_⟩
  obtain⟨e,y⟩:=y;subst e;exact d i x σ _ (y xs q) p
 ·have e:i=xs.length:=by lia
  subst e;exact .inl ⟨⟨xs,q,A7 _⟩,f σ H p⟩
theorem qHV {K:Ab1} {a:Addr} {xs:List V} {g:TG} {c:TS} {D:Ends} {σ:St} {H:Hp} (Pv:Nat->St->Hp->Prop)(k:Pv 0 σ H)(l:∀i σ H,i<=xs.length->Pv i σ H->SqT K H a xs)
  (d:∀i x σ H,xs[i]?=some x->Pv i σ H->g x σ H λσ2 H2=>c {D with nx:=Pv (i+1),ct:=Pv (i+1),bk:=D.nx} σ2 H2) (f:∀σ H,Pv xs.length σ H->D.nx σ H):
  ForG (Itt K a) g c D σ H:=by
 refine⟨λi m σ H=>m=xs.length-i/\i<=xs.length/\Pv i σ H,⟨xs.length,by simp,E2 _,k⟩,?_⟩
 rintro i m σ H ⟨rfl,hi,p⟩;have q:=l i σ H hi p;by_cases b:i<xs.length
 ·refine .inr ⟨⟨xs,xs[i],q,by simp[b]⟩,Pv (i+1),λσ' h j=>⟨xs.length-(i+1),by lia,rfl,b,j⟩,λx h y=>?_⟩
  obtain⟨e,y⟩:=y;subst e;exact d i x σ _ (y xs q) p
 ·have e:i=xs.length:=by lia
  subst e;exact .inl ⟨⟨xs,q,A7 _⟩,f σ H p⟩
theorem qK8 {lo:Int} {n:Nat} {g:TG} {b:TS} {D:Ends} {σ:St} {H:Hp} (Pv:Nat->St->Hp->Prop)(j:Pv 0 σ H)
  (c:∀i σ H,i<n->Pv i σ H->g (.int (lo+i)) σ H λσ2 H2=>b {D with nx:=Pv (i+1),ct:=Pv (i+1),bk:=D.nx} σ2 H2) (d:∀σ H,Pv n σ H->D.nx σ H):
  ForG (Itr lo n) g b D σ H:=by
 refine⟨λi m σ H=>m=n-i/\i<=n/\Pv i σ H,⟨n,by simp,E2 _,j⟩,?_⟩
 rintro i m σ H ⟨rfl,hi,p⟩;by_cases a:i<n
 ·refine .inr ⟨a,Pv (i+1),λσ' f h=>⟨n-(i+1),by lia,rfl,a,h⟩,λx f y=>?_⟩
  obtain⟨e,y⟩:=y;subst e y;exact c i σ _ a p
 ·have e:i=n:=by lia
  subst e;exact .inl ⟨A7 _,d σ H p⟩
abbrev R2:=V->V->Hp->VK->Prop
def OpR (X:Cx)(f:Value->Value->Sem Value)(r:R2):Prop:=
 ∀(Ab:Aa2) (s:Shared) (σ:St) (H:Hp) (x y:V) (v u:Value) (Q:VK),Inv X Ab σ H s->RelV x v->RelV y u->r x y H Q->
  wpAny (model X.prog X.w) X.A (f v u) (EP X Ab σ Q) X.xe s
def UnR (X:Cx)(f:Value->Sem Value)(r:V->Hp->VK->Prop):Prop:=
 ∀(Ab:Aa2) (s:Shared) (σ:St) (H:Hp) (x:V) (v:Value) (Q:VK),Inv X Ab σ H s->RelV x v->r x H Q->
  wpAny (model X.prog X.w) X.A (f v) (EP X Ab σ Q) X.xe s
def qD9 (X:Cx)(f:Value)(r:List V->Hp->VK->Prop):Prop:=
 ∀(Ab:Aa2) (s:Shared) (σ:St) (H:Hp) (xs:List V) (us:List Value) (Q:VK),Inv X Ab σ H s->Vals xs us->r xs H Q->
  wpAny (model X.prog X.w) X.A (call f us) (EP X Ab σ Q) X.xe s
def TruR (X:Cx)(r:V->Hp->(Bool->Hp->Prop)->Prop):Prop:=
 ∀(Ab:Aa2) (s:Shared) (σ:St) (H:Hp) (x:V) (v:Value) (Q:Bool->Hp->Prop),Inv X Ab σ H s->RelV x v->r x H Q->
  wpAny (model X.prog X.w) X.A (truthy v) (TP X Ab σ Q) X.xe s
def tOp (r:R2)(ta tb:TE):TE:=λσ H Q=>ta σ H λx H1=>tb σ H1 λy H2=>r x y H2 Q
def tUn (r:V->Hp->VK->Prop)(ta:TE):TE:=λσ H Q=>ta σ H λx H1=>r x H1 Q
def rI (C:Int->Int->Prop)(g:Int->Int->V):R2:=λx y H Q=>∃i j,x=.int i/\y=.int j/\C i j/\Q (g i j) H
def rI0 (g:Int->Int->V):R2:=λx y H Q=>∃i j,x=.int i/\y=.int j/\Q (g i j) H
def rU (g:Int->V):V->Hp->VK->Prop:=λx H Q=>∃i,x=.int i/\Q (g i) H
section
variable{X:Cx}{a b c:Expr}{ta tb tc:TE}{pos:Pos}
theorem binT (c:PE X a ta)(d:PE X b tb){Ab:Aa2}{s:Shared}{σ:St}{H:Hp}{R:V->V->Hp->Prop}(I:Inv X Ab σ H s)
  (h:ta σ H λx H1=>tb σ H1 λy H2=>R x y H2) {Q:Aa1} {f:Value->Value->Sem Value}
  (e:∀v u s2 x y H2,Inv X Ab σ H2 s2->RelV x v->RelV y u->R x y H2->wpAny (model X.prog X.w) X.A (f v u) Q X.xe s2):
  wpAny (model X.prog X.w) X.A (eval a X.env) (λv s₁=>wpAny (model X.prog X.w) X.A (eval b X.env) (λu s₂=>wpAny (model X.prog X.w) X.A (f v u) Q X.xe s₂) X.xe s₁) X.xe s:=by
 refine thn (c Ab s σ H _ I h) λv s1 ⟨x,H1,I1,r1,q1⟩=>?_;refine thn (d Ab s1 σ H1 _ I1 q1) λu s2 ⟨y,H2,I2,r2,q2⟩=>?_;exact e v u s2 x y H2 I2 r1 r2 q2
theorem qAP {op:Operator} {r:R2} (i:OpR X (B99 op) r)(k:PE X a ta)(l:PE X b tb):PE X (.BinOp a op b pos) (tOp r ta tb):=by
 intro e s σ H Q I h;exact wpAny_BinOp (binT k l I h λv u g x y c d j f q=>i e g σ c x y v u Q d j f q)
theorem qMS {op:UnaryOp} {r:V->Hp->VK->Prop} (d:UnR X (unaryOp op) r)(c:PE X a ta):PE X (.UnaryOp op a pos) (tUn r ta):=by
 intro b s σ H Q I h;exact UnaryOp_ (thn (c b s σ H _ I h) λv s1 ⟨x,H1,I1,r1,q1⟩=>d b s1 σ H1 x v Q I1 r1 q1)
theorem opI {f:Value->Value->Sem Value} {C:Int->Int->Prop} {g:Int->Int->Int} 
  (a:∀(i j:Int) (t u:Tok) (s:Shared) (Q:Aa1) (E:Aa1),C i j->Q (.int (g i j) s.toks) {s with toks:=s.toks+1}->wpAny (model X.prog X.w) X.A (f (.int i t) (.int j u)) Q E s):
  OpR X f (rI C λi j=>.int (g i j)):=by
 intro k s σ H x y v u Q I e d h;obtain⟨i,j,rfl,rfl,c,q⟩:=h;obtain⟨t,rfl⟩:=e;obtain⟨b,rfl⟩:=d;exact a i j t b s _ _ c ⟨.int (g i j),H,I.tok _,⟨_,rfl⟩,q⟩
theorem opI0 {f:Value->Value->Sem Value} {g:Int->Int->Int} 
  (a:∀(i j:Int) (t u:Tok) (s:Shared) (Q:Aa1) (E:Aa1),Q (.int (g i j) s.toks) {s with toks:=s.toks+1}->wpAny (model X.prog X.w) X.A (f (.int i t) (.int j u)) Q E s):
  OpR X f (rI0 λi j=>.int (g i j)):=by
 intro e s σ H x y v u Q I d c h;obtain⟨i,j,rfl,rfl,q⟩:=h;obtain⟨t,rfl⟩:=d;obtain⟨b,rfl⟩:=c;exact a i j t b s _ _ ⟨.int (g i j),H,I.tok _,⟨_,rfl⟩,q⟩
theorem opB0 {f:Value->Value->Sem Value} {g:Int->Int->Bool} 
  (a:∀(i j:Int) (t u:Tok) (s:Shared) (Q:Aa1) (E:Aa1),Q (.bool (g i j)) s->wpAny (model X.prog X.w) X.A (f (.int i t) (.int j u)) Q E s):
  OpR X f (rI0 λi j=>.bl (g i j)):=by
 intro e s σ H x y v u Q I d c h;obtain⟨i,j,rfl,rfl,q⟩:=h;obtain⟨t,rfl⟩:=d;obtain⟨b,rfl⟩:=c;exact a i j t b s _ _ ⟨.bl (g i j),H,I,rfl,q⟩
def CDiv (i j:Int):Prop:=0<j/\j<1073741824
def CPow (i j:Int):Prop:=0<=j/\j<=1000000/\i.natAbs<2^64
def CMul (i j:Int):Prop:=(-(2^64)<i/\i<2^64)\/(-(2^64)<j/\j<2^64)
theorem CMul.ok {i j:Int} (h:CMul i j):IntMulOk i j:=by
 rcases h with⟨a,b⟩|⟨a,b⟩
 ·exact .of_left (intBits_le_64 a b)
 ·exact .of_right (intBits_le_64 a b)
theorem qD1:OpR X (B99 .Add) (rI0 λi j=>.int (i+j)):=opI0 λ_ _ _ _ _ _ _ q=>add_int q
theorem qDD:OpR X (B99 .Sub) (rI0 λi j=>.int (i-j)):=opI0 λ_ _ _ _ _ _ _ q=>sub_int q
theorem qLQ:OpR X (B99 .Mult) (rI CMul λi j=>.int (i*j)):=opI λ_ _ _ _ _ _ _ a q=>mul_int q a.ok
theorem qQ6:OpR X (B99 .FloorDiv) (rI CDiv λi j=>.int (i/j)):=opI λi j _ _ _ _ _ a q=>by
 have b:(0:Int)<j:=a.1;have c:j<1073741824:=a.2;exact floordiv_int (by lia) (by rw[p8 i (by lia)];exact q) (.inl (d4 (by lia)))
theorem qJQ:OpR X (B99 .Mod) (rI (λ_ j=>0<j) λi j=>.int (i%j)):=opI λi j _ _ _ _ _ a q=>by
 have b:(0:Int)<j:=a;exact mod_int' (by lia) (by rw[p9 i (by lia)];exact q)
theorem qe8:OpR X (B99 .Pow) (rI CPow λi j=>.int (i^j.toNat)):=opI λ_ _ _ _ _ _ _ a q=>pow_int_small a.1 a.2.1 a.2.2 q
theorem unI {f:Value->Sem Value} {g:Int->Int} 
  (a:∀(i:Int) (t:Tok) (s:Shared) (Q:Aa1) (E:Aa1),Q (.int (g i) s.toks) {s with toks:=s.toks+1}->wpAny (model X.prog X.w) X.A (f (.int i t)) Q E s):
  UnR X f (rU λi=>.int (g i)):=by
 intro c s σ H x v Q I b h;obtain⟨i,rfl,q⟩:=h;obtain⟨t,rfl⟩:=b;exact a i t s _ _ ⟨.int (g i),H,I.tok _,⟨_,rfl⟩,q⟩
theorem qGN:UnR X (unaryOp .USub) (rU λi=>.int (-i)):=unI λ_ _ _ _ _ q=>neg_int q
end
noncomputable def scal:V->V->Bool
 |.non,.non=>true|.non,.int _=>true|.int _,.non=>true|.non,.bl _=>true|.bl _,.non=>true|.non,.str _=>true|.str _,.non=>true
 |.int _,.int _=>true|.bl _,.bl _=>true|.str _,.str _=>true|.byt _,.byt _=>true
 |.int _,.str _=>true|.str _,.int _=>true|.bl _,.str _=>true|.str _,.bl _=>true
 |_,_=>false
def rEq:R2:=λx y H Q=>scal x y=true/\Q (.bl (decide (x=y))) H
def rNe:R2:=λx y H Q=>scal x y=true/\Q (.bl (!decide (x=y))) H
theorem qXF {i j:Int} :decide (V.int i=V.int j)=(i==j):=by
 rw[U2];simp
theorem qb3 {i j:Bool} :decide (V.bl i=V.bl j)=(i==j):=by
 rw[U2];simp
theorem qXE {i j:Str} :decide (V.str i=V.str j)=(i==j):=by
 rw[U2];simp
theorem qXG {i j:Array UInt8} :decide (V.byt i=V.byt j)=(i.toList==j.toList):=by
 rw[U2];cases i;cases j;simp
section
variable{X:Cx}{a b c:Expr}{ta tb tc:TE}{pos:Pos}
theorem qB6 {Ab:Aa2} {σ:St} {H:Hp} {Q:VK} {k a:Bool} (I:Inv X Ab σ H s)(q:Q (.bl k) H)(e:k=a):EP X Ab σ Q (.bool a) s:=by
 subst e;exact⟨.bl k,H,I,rfl,q⟩
theorem qMU:OpR X (B80 .Eq) rEq:=by
 intro e s σ H x y v u Q I d a h;obtain⟨c,q⟩:=h;cases x with
 |non=>
  cases d;cases y with
  |non=>cases a;exact PySem.EqNone.eq_none_none (qB6 I q (by simp))
  |bl j=>cases a;exact PySem.EqNone.eq_none_bool (qB6 I q (by simp))
  |int j=>obtain⟨b,rfl⟩:=a;exact PySem.EqNone.eq_none_int (qB6 I q (by simp))
  |str j=>obtain⟨b,rfl⟩:=a;exact PySem.EqNone.eq_none_str (qB6 I q (by simp))
  |_=>exact absurd (show false=true from c) C3
 |bl i=>
  cases d;cases y with
  |non=>cases a;exact PySem.EqNone.eq_bool_none (qB6 I q (by simp))
  |bl j=>cases a;exact eq_bool (qB6 I q qb3)
  |str j=>obtain⟨b,rfl⟩:=a;exact PySem.EqMixed.eq_bool_str (qB6 I q (by simp))
  |_=>exact absurd (show false=true from c) C3
 |int i=>
  obtain⟨t,rfl⟩:=d;cases y with
  |non=>cases a;exact PySem.EqNone.eq_int_none (qB6 I q (by simp))
  |int j=>obtain⟨b,rfl⟩:=a;exact eq_int (qB6 I q qXF)
  |str j=>obtain⟨b,rfl⟩:=a;exact PySem.EqMixed.eq_int_str (qB6 I q (by simp))
  |_=>exact absurd (show false=true from c) C3
 |str i=>
  obtain⟨t,rfl⟩:=d;cases y with
  |non=>cases a;exact PySem.EqNone.eq_str_none (qB6 I q (by simp))
  |bl j=>cases a;exact PySem.EqMixed.eq_str_bool (qB6 I q (by simp))
  |int j=>obtain⟨b,rfl⟩:=a;exact PySem.EqMixed.eq_str_int (qB6 I q (by simp))
  |str j=>obtain⟨b,rfl⟩:=a;exact eq_str (qB6 I q qXE)
  |_=>exact absurd (show false=true from c) C3
 |byt i=>
  obtain⟨t,rfl⟩:=d;cases y with
  |byt j=>obtain⟨b,rfl⟩:=a;exact PySem.W.eq_bytes (qB6 I q qXG)
  |_=>exact absurd (show false=true from c) C3
 |_=>cases y<;>exact absurd (show false=true from c) C3
theorem qZ0:OpR X (B80 .NotEq) rNe:=by
 intro e s σ H x y v u Q I d a h;obtain⟨c,q⟩:=h;cases x with
 |non=>
  cases d;cases y with
  |non=>cases a;exact PySem.EqNone.ne_none_none (qB6 I q (by simp))
  |bl j=>cases a;exact PySem.EqNone.ne_none_bool (qB6 I q (by simp))
  |int j=>obtain⟨b,rfl⟩:=a;exact PySem.EqNone.ne_none_int (qB6 I q (by simp))
  |str j=>obtain⟨b,rfl⟩:=a;exact PySem.EqNone.ne_none_str (qB6 I q (by simp))
  |_=>exact absurd (show false=true from c) C3
 |bl i=>
  cases d;cases y with
  |non=>cases a;exact PySem.EqNone.ne_bool_none (qB6 I q (by simp))
  |bl j=>cases a;exact ne_bool (qB6 I q (congrArg not qb3))
  |str j=>obtain⟨b,rfl⟩:=a;exact PySem.EqMixed.ne_bool_str (qB6 I q (by simp))
  |_=>exact absurd (show false=true from c) C3
 |int i=>
  obtain⟨t,rfl⟩:=d;cases y with
  |non=>cases a;exact PySem.EqNone.ne_int_none (qB6 I q (by simp))
  |int j=>obtain⟨b,rfl⟩:=a;exact ne_int (qB6 I q (congrArg not qXF))
  |str j=>obtain⟨b,rfl⟩:=a;exact PySem.EqMixed.ne_int_str (qB6 I q (by simp))
  |_=>exact absurd (show false=true from c) C3
 |str i=>
  obtain⟨t,rfl⟩:=d;cases y with
  |non=>cases a;exact PySem.EqNone.ne_str_none (qB6 I q (by simp))
  |bl j=>cases a;exact PySem.EqMixed.ne_str_bool (qB6 I q (by simp))
  |int j=>obtain⟨b,rfl⟩:=a;exact PySem.EqMixed.ne_str_int (qB6 I q (by simp))
  |str j=>obtain⟨b,rfl⟩:=a;exact ne_str (qB6 I q (congrArg not qXE))
  |_=>exact absurd (show false=true from c) C3
 |byt i=>
  obtain⟨t,rfl⟩:=d;cases y with
  |byt j=>obtain⟨b,rfl⟩:=a;exact PySem.W.ne_bytes (qB6 I q (congrArg not qXG))
  |_=>exact absurd (show false=true from c) C3
 |_=>cases y<;>exact absurd (show false=true from c) C3
theorem qOG:OpR X (B80 .Lt) (rI0 λi j=>.bl (decide (i<j))):=opB0 λ_ _ _ _ _ _ _ q=>lt_int q
theorem qZ1:OpR X (B80 .LtE) (rI0 λi j=>.bl (decide (i<=j))):=opB0 λ_ _ _ _ _ _ _ q=>le_int q
theorem qZ2:OpR X (B80 .Gt) (rI0 λi j=>.bl (decide (j<i))):=opB0 λ_ _ _ _ _ _ _ q=>gt_int q
theorem qc3:OpR X (B80 .GtE) (rI0 λi j=>.bl (decide (j<=i))):=opB0 λ_ _ _ _ _ _ _ q=>ge_int q
theorem qBF (b:Expr){op:CmpOp}(h:op≠.In:=by decide)(d:op≠.NotIn:=by decide):C08 op b=false:=by
 have a:(op==CmpOp.In)=false:=by cases op<;>first|rfl|exact absurd rfl h
 have c:(op==CmpOp.NotIn)=false:=by cases op<;>first|rfl|exact absurd rfl d
 cases b<;>simp[C08,a,c]
theorem qHM {op:CmpOp} {r:R2} (d:OpR X (B80 op) r)(l:PE X a ta)(m:PE X b tb)(j:C08 op b=false):PE X (.Compare a [op] [b] pos) (tOp r ta tb):=by
 intro f s σ H Q I h;exact wpAny_Compare1 (binT l m I h λv u i x y c e k g q=>d f i σ c x y v u Q e k g q) j
def qf6 (t:TE):TT:=λσ H Q=>t σ H λx H'=>∃k,x=.bl k/\Q k H'
theorem qAU {op:CmpOp} {r:R2} (f:OpR X (B80 op) r)(i:PE X a ta)(j:PE X b tb)(g:C08 op b=false):PT X (.Compare a [op] [b] pos) (qf6 (tOp r ta tb)):=by
 intro d s σ H Q I h;refine wpAny_isTrue_Compare1 (thn (i d s σ H _ I h) fun v s1 ⟨x,H1,I1,r1,q1⟩=>thn (j d s1 σ H1 _ I1 q1) fun u s2 ⟨y,H2,I2,r2,q2⟩=>
  thn (f d s2 σ H2 x y v u _ I2 r1 r2 q2) λc s3 ⟨z,H3,I3,r3,k,e,q3⟩=>?_) g
 subst e;cases r3;exact B79 ⟨H3,I3,q3⟩
def qdJ (r r':R2)(ta tb tc:TE):TE:=λσ H Q=>ta σ H λx H1=>tb σ H1 λy H2=>r x y H2 λz H3=>∃k,z=.bl k/\
 (if k=true then tc σ H3 λw' H4=>r' y w' H4 Q else Q (.bl false) H3)
theorem qMT {op f:CmpOp} {r j:R2} (n:OpR X (B80 op) r)(i:OpR X (B80 f) j)(o:PE X a ta)(p:PE X b tb)(m:PE X c tc)
  (l:lastMarks [op,f] [b,c]=false:=by with_unfolding_all rfl):PE X (.Compare a [op,f] [b,c] pos) (qdJ r j ta tb tc):=by
 intro g s σ H Q I h;refine Compare_chain (thn (o g s σ H _ I h) fun v s1 ⟨x,H1,I1,r1,q1⟩=>chain_link (thn (p g s1 σ H1 _ I1 q1) fun u s2 ⟨y,H2,I2,r2,q2⟩=>
  thn (n g s2 σ H2 x y v u _ I2 r1 r2 q2) λd s3 ⟨z,H3,I3,r3,k,e,q3⟩=>?_)) l
 subst e;cases r3;refine B79 ?_;cases k with
 |false=>exact ite_ff ⟨.bl false,H3,I3,rfl,q3⟩
 |true=>exact ite_tt (chain_last (thn (m g s3 σ H3 _ I3 q3) λw' s4 ⟨z',H4,I4,r4,q4⟩=>i g s4 σ H4 y z' u w' Q I4 r2 r4 q4))
def TruV (K:Ab1)(x:V)(H:Hp)(k:Bool):Prop:=
 match x with
 |.non=>k=false
 |.bl b=>k=b
 |.int i=>k=(i != 0)
 |.str y=>y.length<=B62/\k=((y.length:Int) != 0)
 |.byt y=>y.size<=B62/\k=((y.size:Int) != 0)
 |.ref p=>(∃xs,SqL K H p xs/\k=!xs.isEmpty)\/(∃xs,SqT K H p xs/\k=!xs.isEmpty)\/∃Af,H p=some (.dK Af)/\k=!Af.isEmpty
 |_=>False
theorem qTR {κ:Type} {Af:List (κ×V)} {vs:List (κ×Value)} (r:KV Af vs):(!vs.isEmpty)=!Af.isEmpty:=by
 cases r<;>rfl
theorem qLX {xs:List V} {a:List Value} (r:Vals xs a):(!a.toArray.isEmpty)=!xs.isEmpty:=by
 cases r<;>simp
theorem qLT:(B62:Nat)<2^63:=by rw[B64];decide
theorem qdB:TruR X (λx H Q=>∃k,TruV X.K x H k/\Q k H):=by
 intro Ab s σ H x v Q I d h;obtain⟨k,e,q⟩:=h;have hl:=qLT;have z:B62=16777216:=B64;cases x with
 |non=>
  cases d;have a:k=false:=e;subst a;exact truthy_none ⟨H,I,q⟩
 |bl b=>
  cases d;have a:k=b:=e;subst a;exact B79 ⟨H,I,q⟩
 |int i=>
  obtain⟨t,rfl⟩:=d;have a:k=(i != 0):=e;subst a;exact PySem.P.truthy_int ⟨H,I,q⟩
 |str y=>
  obtain⟨t,rfl⟩:=d;obtain⟨o,a⟩:y.length<=B62/\k=((y.length:Int) != 0):=e;subst a;exact PySem.P.truthy_str (by lia) ⟨H,I.tok _,q⟩
 |byt y=>
  obtain⟨t,rfl⟩:=d;obtain⟨o,a⟩:y.size<=B62/\k=((y.size:Int) != 0):=e;subst a;exact PySem.W.truthy_bytes (by lia) ⟨H,I.tok _,q⟩
 |ref p=>
  cases d;have a:(∃xs,SqL X.K H p xs/\k=!xs.isEmpty)\/(∃xs,SqT X.K H p xs/\k=!xs.isEmpty)\/∃Af,H p=some (.dK Af)/\k=!Af.isEmpty:=e;rcases a with⟨xs,f,a⟩|⟨xs,f,a⟩|⟨Af,f,a⟩
  ·subst a;obtain⟨l,r,j,n⟩:=I.list f;have c:=r.length;exact wpAny_truthy_list j.isList (by simp only[B5];lia) ⟨H,I.tok _,by rw[qLX r];exact q⟩
  ·subst a;obtain⟨l,r,j,n⟩:=I.tuple f;have c:=r.length;exact truthy_tuple j (by simp only[B5];lia) ⟨H,I.tok _,by rw[qLX r];exact q⟩
  ·subst a;obtain⟨n,u,g,r,m⟩:Af.length<=B62/\(p==B85)=false/\∃g,KV Af g/\s.heap.DictOf (qAT X.prog X.w) p g:=I.hok p _ f;have c:Af.length=g.length:=C2 r;exact wpAny_truthy_dict u m (by lia) ⟨H,I.tok _,by rw[qTR r];exact q⟩
 |_=>exact(show False from e).elim
theorem qYL (c:PE X a ta)(d:∀whole,isTrue a X.env whole=(do let v <- whole;standAt a.pos;B97 [v] (truthy v))):
  PT X a (λσ H Q=>ta σ H λx H'=>∃k,TruV X.K x H' k/\Q k H'):=by
 intro b s σ H Q I h;exact isTrue_plain (thn (c b s σ H _ I h) λv s1 ⟨x,H1,I1,r1,q1⟩=>qdB b s1 σ H1 x v Q I1 r1 q1) (d _)
theorem qDR {x:V} {a:List Value} (r:Vals [x] a):∃u,a=[u]/\RelV x u:=by
 cases r with
 |cons r1 r2=>cases r2;exact⟨_,rfl,r1⟩
theorem qSX {x y:V} {a:List Value} (r:Vals [x,y] a):∃u w',a=[u,w']/\RelV x u/\RelV y w':=by
 cases r with
 |cons r1 r2=>
  cases r2 with
  |cons r3 r4=>cases r4;exact⟨_,_,rfl,r1,r3⟩
theorem qXP (b:X.calm=true):qD9 X (.builtin "max") (λxs H Q=>∃i j,xs=[.int i,.int j]/\Q (.int (if j>i then j else i)) H):=by
 intro e s σ H xs d Q I r h;obtain⟨i,j,rfl,q⟩:=h;obtain⟨u,c,rfl,⟨t,rfl⟩,⟨g,rfl⟩⟩:=qSX r;refine max_two_ints (I.ok.hd b) λl f k=>⟨_,H,I.kept k,?_,q⟩;by_cases a:j>i
 ·rw[if_pos a,if_pos a];exact⟨_,rfl⟩
 ·rw[if_neg a,if_neg a];exact⟨_,rfl⟩
theorem qKN (b:X.calm=true):qD9 X (.builtin "min") (λxs H Q=>∃i j,xs=[.int i,.int j]/\Q (.int (if j<i then j else i)) H):=by
 intro e s σ H xs d Q I r h;obtain⟨i,j,rfl,q⟩:=h;obtain⟨u,c,rfl,⟨t,rfl⟩,⟨g,rfl⟩⟩:=qSX r;refine min_two_ints (I.ok.hd b) λl f k=>⟨_,H,I.kept k,?_,q⟩;by_cases a:j<i
 ·rw[if_pos a,if_pos a];exact⟨_,rfl⟩
 ·rw[if_neg a,if_neg a];exact⟨_,rfl⟩
theorem qKO:qD9 X (.type "int") (λxs H Q=>(∃i,xs=[.int i]/\Q (.int i) H)\/∃k,xs=[.bl k]/\Q (.int (if k then 1 else 0)) H):=by
 intro c s σ H xs b Q I r h;rcases h with⟨i,rfl,q⟩|⟨k,rfl,q⟩
 ·obtain⟨u,rfl,t,rfl⟩:=qDR r;exact call_int_int ⟨.int i,H,I,⟨_,rfl⟩,q⟩
 ·obtain⟨u,rfl,a⟩:=qDR r;cases a;exact call_int_bool ⟨.int (if k then 1 else 0),H,I.tok _,⟨_,rfl⟩,q⟩
theorem qR1:qD9 X (.builtin "divmod") (λxs H Q=>∃i j,xs=[.int i,.int j]/\CDiv i j/\∀p,H p=none->Q (.ref p) (Ag H p (.tup [.int (i/j),.int (i%j)]))):=by
 intro f s σ H xs d Q I r h;obtain⟨i,j,rfl,⟨k,l⟩,q⟩:=h;obtain⟨u,c,rfl,⟨t,rfl⟩,⟨g,rfl⟩⟩:=qSX r;refine divmod_int (by lia) ?_ (.inl (d4 (by lia)))
 rw[p8 i (by lia),p9 i (by lia)]
 have a:H s.heap.objs.size=none:=I.hok.fresh (A7 _);refine⟨.ref s.heap.objs.size,_,?_,rfl,q _ a⟩;refine I.laid (λb o e=>A3 _ e) (A7 _) ⟨by simp only[C6,J6];rw[B64];decide,[.int (i/j) s.toks,.int (i%j) (s.toks+1)],.cons ⟨_,rfl⟩ (.cons ⟨_,rfl⟩ .nil),?_⟩
 exact⟨_,B3 s.heap rfl,rfl,0,rfl⟩
end
structure ObjM (h:Heap)(x dx C:Addr)(mA:Ab0):Prop where
 obj:h.get? x=some (B17 C dx)
 ns:h.Ns1 dx mA
 ne:dx≠x
noncomputable def putF (f:Str)(v:V):List (Str×V)->List (Str×V)
 |[]=>[(f,v)]
 |(g,x)::r=>if g=f then(g,v)::r else(g,x)::putF f v r
theorem qJU (f g:Str)(v:V):∀fs:List (Str×V),(putF f v fs).lookup g=if g=f then some v else fs.lookup g
 |[]=>by
  show X8 g [(f,v)]=_;by_cases h:g=f
  ·have hb:(g==f)=true:=beq_iff_eq.mpr h;simp only[X8,hb,if_pos h]
  ·have hb:(g==f)=false:=beq_eq_false_iff_ne.mpr h;simp only[X8,hb,if_neg h]
 |(k,x)::r=>by
  have ih:=qJU f g v r;rw[show putF f v ((k,x)::r)=(if k=f then(k,v)::r else(k,x)::putF f v r) from rfl]
  by_cases hk:k=f
  ·rw[if_pos hk];by_cases h:g=k
   ·have hb:(g==k)=true:=beq_iff_eq.mpr h;simp only[X8,hb,if_pos (h.trans hk)]
   ·have hb:(g==k)=false:=beq_eq_false_iff_ne.mpr h;simp only[X8,hb,if_neg (λe:g=f=>h (e.trans hk.symm))]
  ·rw[if_neg hk];by_cases h:g=k
   ·have hb:(g==k)=true:=beq_iff_eq.mpr h;simp only[X8,hb,if_neg (λe:g=f=>hk (h.symm.trans e))]
   ·have hb:(g==k)=false:=beq_eq_false_iff_ne.mpr h;simp only[X8,hb];exact ih
theorem qJY (f:Str)(v:V):∀fs:List (Str×V),f∈(putF f v fs).map (·.1)/\∀g,g∈fs.map (·.1)->g∈(putF f v fs).map (·.1)
 |[]=>⟨by simp[putF],λg h=>by simp at h⟩
 |(k,x)::r=>by
  obtain⟨i1,i2⟩:=qJY f v r;rw[show putF f v ((k,x)::r)=(if k=f then(k,v)::r else(k,x)::putF f v r) from rfl]
  by_cases hk:k=f
  ·rw[if_pos hk];subst hk;exact⟨by simp,λg h=>by simpa using h⟩
  ·rw[if_neg hk];refine⟨?_,λg h=>?_⟩
   ·rw[C9];exact A8 _ i1
   ·rw[C9] at h ⊢;rcases B1.mp h with e|e
    ·exact B1.mpr (.inl e)
    ·exact A8 _ (i2 g e)
theorem RelO.some_of {v:V} {o:Option Value} (r:RelO (some v) o):∃u,o=some u/\RelV v u:=by
 cases o with
 |none=>exact(show False from r).elim
 |some u=>exact⟨u,rfl,r⟩
structure Cls (K:Ab1)(C:Addr):Prop where
 pg:PySem.W.plainGet K C T6=true
 hd:A92 K C=true
 po:PySem.W.plainOver K C=true
 sa:G3 K (.ref C) "__setattr__" = some (some (.builtin "object.__setattr__"))
def qSV (K:Ab1)(C:Addr)(f:Str):Prop:=G3 K (.ref C) f=some none
structure Con (K:Ab1)(C:Addr)(f:Str)(v:V)(u:Value):Prop where
 at_:G3 K (.ref C) f=some (some u)
 rel:RelV v u
 get:z9 K u "__get__" = some none
 cp:PySem.W.copiedNames.contains f=false
structure Meth (K:Ab1)(C:Addr)(m:Str)(f:Addr):Prop where
 at_:G3 K (.ref C) m=some (some (.ref f))
 fn:j7 K (.ref f)=true
 kp:J4 K (.ref f)=true
section
variable{X:Cx}{Ab:Aa2}{σ:St}{H:Hp}{s:Shared}{A:Around}{E:Aa1}{Q:Aa1}{c:Value}{b:Bool}
inductive TyOf (K:Ab1)(H:Hp):V->Value->Prop where
 |non:TyOf K H .non (.type "NoneType")
 |bl (x:Bool):TyOf K H (.bl x) (.type "bool")
 |int (i:Int):TyOf K H (.int i) (.type "int")
 |str (x:Str):TyOf K H (.str x) (.type "str")
 |flt (x:UInt64):TyOf K H (.flt x) (.type "float")
 |lst {a:Addr} {xs:List V} (e:H a=some (.lst xs)):TyOf K H (.ref a) (.type "list")
 |frz {a:Addr} {o:Obj} {xs:List V} (e:H a=some (.frz o (.lst xs))):TyOf K H (.ref a) (.type "list")
 |tup {a:Addr} {xs:List V} (e:H a=some (.tup xs)):TyOf K H (.ref a) (.type "tuple")
 |dK {a:Addr} {Af:List (Key×V)} (e:H a=some (.dK Af)):TyOf K H (.ref a) (.type "dict")
 |dT {a:Addr} {Af:List (List Key×V)} (e:H a=some (.dT Af)):TyOf K H (.ref a) (.type "dict")
 |ins {a C dx:Addr} {fs:List (Str×V)} (e:H a=some (.ins C dx fs)) (cl:Cls K C) (ha:G3 K (.ref C) "__class__" = some (some (.builtin "object.__class__")))
   (hn:z9 K (.builtin "object.__class__") "__get__" = some (some (.builtin "getset_descriptor.__get__"))) (htk:B20 K (.builtin "object.__class__")=some true)
   (hm:A80 K C (.type "object")=some true):TyOf K H (.ref a) (.ref C)
end
structure Room (k:Nat)(A:Around):Prop where
 hd:A.handled=none
 dp:A.depth+3*k+5<recursionLimit
 un:A.units+16*k+200<cLine
 gd:A.guards=some []
theorem Room.mono {j k:Nat} (r:Room k A)(h:j<=k):Room j A:=⟨r.hd,by have:=r.dp;lia,by have:=r.un;lia,r.gd⟩
theorem Room.deeper {k:Nat} {A:Around} (r:Room (k+1) A)(env:Env):Room k (A.deeper env):=
 ⟨r.hd,by have:=r.dp;show A.depth+1+3*k+5<_;lia,by have:=r.un;show A.units+3+16*k+200<_;lia,r.gd⟩
theorem Room.in1 {k:Nat} {A:Around} (r:Room (k+1) A):Room k A.in1:=
 ⟨r.hd,by have:=r.dp;show A.depth+3*k+5<_;lia,by have:=r.un;show A.units+1+16*k+200<_;lia,r.gd⟩
theorem qTL {A:Around} {C:Addr} {a:List Value} {b:List (Str×Value)} :(A.under (.builtin "type.__call__" ⟨.ref C::a,b⟩)).depth=A.depth+1:=by
 first|rfl|simp[A27,Code.weight,Code.isCreation,Code.isGuard,Code.isCaller,Code.frames,B01,guardIds]
theorem qTK {A:Around} {C:Addr} {a:List Value} {b:List (Str×Value)} :(A.under (.builtin "type.__call__" ⟨.ref C::a,b⟩)).units=A.units+1:=by
 first|rfl|simp[A27,Code.cUnits,Code.frames,B01]
theorem Room.make {k:Nat} {A:Around} (r:Room (k+1) A) (C:Addr) (a:List Value) (b:List (Str×Value)):Room k (A.under (.builtin "type.__call__" ⟨.ref C::a,b⟩)):=
 ⟨r.hd,by have:=r.dp;rw[qTL];lia,by have:=r.un;rw[qTK];lia,by first|exact r.gd|simp[A27,Code.guards,Code.isGuard,pushGuards,guardIds,r.gd]⟩
theorem Room.depth {k:Nat} {A:Around} (r:Room k A):A.depth<recursionLimit:=by have:=r.dp;lia
theorem Room.units {k:Nat} {A:Around} (r:Room k A):A.units+64<cLine:=by have:=r.un;lia
theorem Room.units0 {k:Nat} {A:Around} (r:Room k A):A.units<cLine:=by have:=r.un;lia
def tNil:TA:=λ_ H Q=>Q [] H
def qNV (ta:TE)(tr:TA):TA:=λσ H Q=>ta σ H λx H1=>tr σ H1 λxs H2=>Q (x::xs) H2
section
variable{X:Cx}{e:Expr}{es:List Expr}{te:TE}{t:TA}{pos:Pos}
theorem qA3:PA X [] tNil:=λ_ _ _ _ H Q I h=>A93 ⟨[],H,I,.nil,h⟩
theorem qA0 (f:PE X e te)(d:PA X es t)(c:B66 (e::es) X.env=(false,eval e X.env)::B66 es X.env:=by rfl):PA X (e::es) (qNV te t):=by
 intro a b s σ H Q I h;rw[c];show wpAny _ _ (spliced ((false,eval e X.env)::backTo a (B66 es X.env))) _ _ s;refine A81 (thn (f b s σ H _ I h) λu s1 ⟨x,H1,I1,r1,q1⟩=>?_);exact thn (d a b s1 σ H1 _ I1 q1) λus s2 ⟨xs,H2,I2,r2,q2⟩=>⟨x::xs,H2,I2,.cons r1 r2,q2⟩
def tTup (t:TA):TE:=λσ H Q=>t σ H λxs H1=>xs.length<=B62/\∀p,H1 p=none->Q (.ref p) (Ag H1 p (.tup xs))
def tLst (t:TA):TE:=λσ H Q=>t σ H λxs H1=>xs.length<=B62/\∀p,H1 p=none->Q (.ref p) (Ag H1 p (.lst xs))
theorem qBW (h:PA X es t):PE X (.Tuple es x1 pos) (tTup t):=by
 intro c s σ H Q I a;refine wpAny_Tuple_spliced (thn (h pos c s σ H _ I a) λus s1 ⟨xs,H1,I1,r,z,q⟩=>⟨by rw[<- r.length];exact z,?_⟩)
 have d:H1 s1.heap.objs.size=none:=I1.hok.fresh (A7 _);refine⟨.ref s1.heap.objs.size,Ag H1 s1.heap.objs.size (.tup xs),I1.laid (t':=s1.toks) (λb u e=>A3 _ e) (A7 _) ?_,rfl,q _ d⟩;exact⟨z,us,r,⟨_,B3 _ rfl,rfl,_,rfl⟩⟩
theorem qBX (h:PA X es t):PE X (.List es pos) (tLst t):=by
 intro c s σ H Q I a;refine wpAny_List_spliced (thn (h pos c s σ H _ I a) λus s1 ⟨xs,H1,I1,r,z,q⟩=>⟨by rw[<- r.length];exact z,?_⟩)
 have d:H1 s1.heap.objs.size=none:=I1.hok.fresh (A7 _);refine⟨.ref s1.heap.objs.size,Ag H1 s1.heap.objs.size (.lst xs),I1.laid (t':=s1.toks) (λb u e=>A3 _ e) (A7 _) ?_,rfl,q _ d⟩;exact⟨z,us,0,r,B3 _ rfl⟩
end
abbrev Sp:=List V->Hp->VK->XK->Prop
abbrev CXT:=List Env->Hp->Shared->XK->Aa1
structure Env0 (P:B63)(w:World)(K:Ab1)(mg:Ab0)(base:Heap)(A:Around)(outer:List Env)(s:Shared)(H:Hp):Prop where
 frames:A.frames=some outer
 mod:Mod K mg base
 bs:∀b o,base.get? b=some o->s.heap.get? b=some o/\H b=none
 bsz:base.objs.size<=s.heap.objs.size
 funs:s.heap.FunFrames base outer
 frf:∀b∈frs outer,H b=none
 hok:HOk P w H s.heap
 bare:C29 s.gens
def CE (outer:List Env)(P:B63)(w:World)(H:Hp)(s:Shared)(Q:VK)(u:Value)(s':Shared):Prop:=
 ∃v H',s'.os=s.os/\C29 s'.gens/\Un (frs outer) [] H H' s.heap s'.heap/\HOk P w H' s'.heap/\RelV v u/\Q v H'
def CR (CX:CXT)(outer:List Env)(P:B63)(w:World)(H:Hp)(s:Shared)(Q:VK)(E:XK)(r:Result)(s':Shared):Prop:=
 match r with
 |.ok (.ret u)=>CE outer P w H s Q u s'
 |.ok _=>False
 |.error e=>CX outer H s E e s'
structure FnOk (P:B63)(w:World)(K:Ab1)(mg:Ab0)(base:Heap)(CX:CXT)(k:Nat)(f:Addr)(fd:B77)(ps:List Str)(sp:Sp):Prop where
 len:∀vs H Q E,sp vs H Q E->vs.length=ps.length
 run:∀(A:Around) (outer:List Env) (s:Shared) (H:Hp) (args:Args) (us:List Value) (vs:List V) (Q:VK) (E:XK),Room k A->Env0 P w K mg base A outer s H->BindsTo s fd args (ps.zip us)->Vals vs us->sp vs H Q E->
  B86 (model P w) A (.call (.ref f) args) (CR CX outer P w H s Q E) s
theorem Env0.make {K:Ab1} {mg:Ab0} {base:Heap} {a:List Env} {H:Hp} (e:Env0 P w K mg base A a s H)(C:Addr)(b:List Value)(c:List (Str×Value)):
  Env0 P w K mg base (A.under (.builtin "type.__call__" ⟨.ref C::b,c⟩)) a s H:=⟨by first|exact e.frames|(simpa[A27,Code.envs,B01,pushEnvs] using e.frames),e.mod,e.bs,e.bsz,e.funs,e.frf,e.hok,e.bare⟩
section
variable{X:Cx}{Ab:Aa2}{σ:St}{H:Hp}{s s':Shared}
theorem Inv.env0 (I:Inv X Ab σ H s):Env0 X.prog X.w X.K X.mg X.base X.A X.stack s H:=
 ⟨I.ok.frames,I.ok.mod,I.bs,F3 I.ok.bsz I.sz,I.stack,I.stkFree,I.hok,I.bare⟩
theorem Inv.after {Q:VK} {u:Value} (I:Inv X Ab σ H s)(h:CE X.stack X.prog X.w H s Q u s'):EP X Ab σ Q u s':=by
 obtain⟨v,i,os,a,f,e,r,q⟩:=h;obtain⟨j,g,d,t,c⟩:=s';obtain rfl:c=s.os:=os;exact⟨v,i,I.call (h':=j) (g':=g) (d':=d) (t':=t) (ch:=[]) f e a (λb z=>absurd z (by simp)),r,q⟩
end
def qdK (sp:Sp)(dvs:List V)(E:XK)(t:TA):TE:=λσ H Q=>t σ H λvs H1=>sp (vs++dvs) H1 Q E
def Binds (K:Ab1)(fd:B77)(ps:List Str)(ds:List Value):Prop:=
 ∀(s:Shared) (us:List Value),K.In s.heap->(us++ds).length=ps.length->BindsTo s fd ⟨us,[]⟩ (ps.zip (us++ds))
theorem Binds.all {K:Ab1} {a:B77} {ps:List Str} (h:∀us:List Value,us.length=ps.length->C04 a ⟨us,[]⟩=pure (ps.zip us)):Binds K a ps []:=λs us _ b=>by
 rw[M4] at b ⊢;exact .of_eq (h us b)
def qSU (CX:CXT)(X:Cx)(E:XK):Prop:=∀(Ab:Aa2) (σ:St) (H:Hp) (s:Shared) (e:Value) (s':Shared),Inv X Ab σ H s->CX X.stack H s E e s'->X.xe e s'
section
variable{X:Cx}{CX:CXT}{k:Nat}{f C:Addr}{fd:B77}{ps:List Str}{sp:Sp}{dvs:List V}{ds:List Value}{E:XK}{x m:Str}{p pos apos:Pos}{e o:Expr}{es:List Expr}{ta:TE}{t:TA}
theorem qdU {Ab:Aa2} {σ:St} {H:Hp} {Q:VK} {a:List Value} {vs:List V} (F:FnOk X.prog X.w X.K X.mg X.base CX k f fd ps sp)(l:Room k X.A)(m:Binds X.K fd ps ds)(g:Vals dvs ds)(j:qSU CX X E)
  (I:Inv X Ab σ H s) (r:Vals vs a) (h:sp (vs++dvs) H Q E):wpAny (model X.prog X.w) X.A (call (.ref f) a) (EP X Ab σ Q) X.xe s:=by
 have c:Vals (vs++dvs) (a++ds):=r.append g;have i:(a++ds).length=ps.length:=by rw[<- c.length];exact F.len _ _ _ _ h
 refine C06 (B81 (F.run X.A X.stack s H ⟨a,[]⟩ (a++ds) (vs++dvs) Q E l I.env0 (m s a I.kIn i) c h) λr d b=>?_);cases r with
 |error e=>exact j Ab σ H s e d I b
 |ok fl=>
  cases fl with
  |ret u=>exact I.after b
  |next=>exact P9 b
  |brk=>exact P9 b
  |cont=>exact P9 b
theorem qQ4 (F:FnOk X.prog X.w X.K X.mg X.base CX k f fd ps sp)(m:Room k X.A)(c:Gl X x)(l:X.mg x=some (.ref f))(u:J4 X.K (.ref f)=true)(o:Binds X.K fd ps ds)(g:Vals dvs ds)(j:qSU CX X E)
  (n:PA X (e::es) t) (a:(x==("__debug__" : Str))=false:=by decide) (d:B66 (e::es) X.env=(false,eval e X.env)::B66 es X.env:=by rfl) (b:(backTo pos (B66 es X.env)).any (·.1)=false:=by rfl):
  PE X (.Call (.Name x p) (e::es) [] pos) (qdK sp dvs E t):=by
 intro i s σ H Q I h;refine B87 (qMY I c l ?_ a);refine t7 (h₀:=X.base) I.ok.mod.kin u (thn (n pos i s σ H _ I h) λus s1 ⟨vs,H1,I1,r,q⟩=>⟨I1.kIn,?_⟩) d b;exact qdU F m o g j I1 r q
structure Mk (K:Ab1)(C f:Addr):Prop where
 makes:PySem.W.makesIn K C=true
 init:G3 K (.ref C) "__init__" = some (some (.ref f))
 fn:j7 K (.ref f)=true
 kp:J4 K (.ref C)=true
end
def PK (X:Cx)(kws:List C30)(t:TA):Prop:=
 ∀(pos:Pos) (Ab:Aa2) (s:Shared) (σ:St) (H:Hp) (Q:List V->Hp->Prop),Inv X Ab σ H s->t σ H Q->wpAny (model X.prog X.w) X.A (evalAll ((backToKw pos (C36 kws X.env)).map (·.2))) (AP X Ab σ Q) X.xe s
section
variable{X:Cx}{CX:CXT}{k:Nat}{f C:Addr}{fd:B77}{ps ks:List Str}{sp:Sp}{E:XK}{x m:Str}{p pos apos kpos:Pos}{e o:Expr}{es:List Expr}{kws:List C30}{te ta:TE}{t tk:TA}{nm:Option Str}
theorem qV8:PK X [] tNil:=λ_ _ _ _ H Q I h=>wpAny_evalAll_nil ⟨[],H,I,.nil,h⟩
theorem qMP (d:PE X e te)(c:PK X kws t):PK X (⟨nm,e,kpos⟩::kws) (qNV te t):=by
 intro a b s σ H Q I h;show wpAny _ _ (evalAll ((do let v <- eval e X.env;standAt a;pure v)::(backToKw a (C36 kws X.env)).map (·.2))) _ _ s
 refine wpAny_evalAll_cons (B60 (thn (d b s σ H _ I h) λu s1 ⟨x,H1,I1,r1,q1⟩=>B60 (C03 (B61 ?_))));exact thn (c a b s1 σ H1 _ I1 q1) λus s2 ⟨xs,H2,I2,r2,q2⟩=>⟨x::xs,H2,I2,.cons r1 r2,q2⟩
structure KBinds (K:Ab1)(fd:B77)(ps ks:List Str)(g:List Value->List Value->List Value)(gV:List V->List V->List V):Prop where
 to:∀(s:Shared) (us ws:List Value),K.In s.heap->(g us ws).length=ps.length->BindsTo s fd ⟨us,ks.zip ws⟩ (ps.zip (g us ws))
 rel:∀{vs:List V} {us:List Value} {zs:List V} {ws:List Value},Vals vs us->Vals zs ws->Vals (gV vs zs) (g us ws)
variable{g:List Value->List Value->List Value}{gV:List V->List V->List V}
end
structure FnScope (N P:List Str)(sc:Scope):Prop where
 kind:sc.kind=.function
 co:sc.isCoroutine=false
 gen:sc.isGenerator=false
 nd:N.Nodup
 pre:N.take P.length=P
 par:∀x∈P,sc.names.lookup x=some .local\/sc.names.lookup x=some .cell
 nofree:∀y∈sc.names,y.2≠.free
theorem qPA {kindOf:Str->Option C17} {x:Str} :∀{binds:List (Str×Value)} {m:Ab0},(∀v,(x,v)∉binds)->bindL kindOf binds m x=m x
 |[],_,_=>rfl
 |(n,v)::r,m,h=>by
  unfold bindL;rw[qPA λw hw=>h w (A8 _ hw)]
  split
  ·have:x≠n:=by rintro rfl;exact h v B7
   simp[this]
  ·rfl
theorem qPC {kindOf:Str->Option C17} {x:Str} :∀{binds:List (Str×Value)} {m:Ab0},(∀v,(x,v)∉binds)->bindC kindOf binds m x=m x
 |[],_,_=>rfl
 |(n,v)::r,m,h=>by
  unfold bindC;rw[qPC λw hw=>h w (A8 _ hw)]
  split
  ·rfl
  ·have:x≠n:=by rintro rfl;exact h v B7
   simp[this]
theorem qPB {kindOf:Str->Option C17} {x:Str} {v:Value} :∀{P:List Str} {vs:List Value} {i:Nat} {m:Ab0},P.Nodup->P[i]?=some x->vs[i]?=some v->kindOf x=some .local->
  bindL kindOf (P.zip vs) m x=some v
 |[],_,_,_,_,h,_,_=>by simp at h
 |_::_,[],_,_,_,_,h,_=>by simp at h
 |p::P,w::vs,0,m,nd,h1,h2,hk=>by
  simp at h1 h2;subst h1;subst h2;show bindL kindOf ((p,w)::P.zip vs) m p=_;unfold bindL;rw[qPA λv hv=>(J7.mp nd).1 (n6 hv).1,if_pos hk];simp
 |p::P,w::vs,i+1,m,nd,h1,h2,hk=>by
  show bindL kindOf ((p,w)::P.zip vs) m x=_;unfold bindL;exact qPB (i:=i) (J7.mp nd).2 (by simpa using h1) (by simpa using h2) hk
theorem qPD {kindOf:Str->Option C17} {x:Str} {v:Value} :∀{P:List Str} {vs:List Value} {i:Nat} {m:Ab0},P.Nodup->P[i]?=some x->vs[i]?=some v->kindOf x≠some .local->
  bindC kindOf (P.zip vs) m x=some v
 |[],_,_,_,_,h,_,_=>by simp at h
 |_::_,[],_,_,_,_,h,_=>by simp at h
 |p::P,w::vs,0,m,nd,h1,h2,hk=>by
  simp at h1 h2;subst h1;subst h2;show bindC kindOf ((p,w)::P.zip vs) m p=_;unfold bindC;rw[qPC λv hv=>(J7.mp nd).1 (n6 hv).1,if_neg hk];simp
 |p::P,w::vs,i+1,m,nd,h1,h2,hk=>by
  show bindC kindOf ((p,w)::P.zip vs) m x=_;unfold bindC;exact qPD (i:=i) (J7.mp nd).2 (by simpa using h1) (by simpa using h2) hk
noncomputable def start (N:List Str)(vs:List V):St:=vs.map some++D8 (N.length-vs.length) none
noncomputable def cxOf (CX:CXT)(P:B63)(w:World)(K:Ab1)(mg:Ab0)(base:Heap)(N:List Str)(qual:Str)(scope:Scope)(f:Addr)(cd:Value)(A:Around)(outer:List Env)(s:Shared)(H:Hp)(E:XK):Cx where
 prog:=P
 w:=w
 K:=K
 mg:=mg
 base:=base
 A:=A.deeper (envOfC qual scope s.heap.objs.size f cd)
 N:=N
 s₀:=s
 H₀:=H
 env:=envOfC qual scope s.heap.objs.size f cd
 outer:=outer
 stack:=envOfC qual scope s.heap.objs.size f cd::outer
 ex:=[]
 calm:=true
 fn:=λ_=>true
 pn:=[]
 xe:=λe s'=>wpAny (model P w) (A.deeper (envOfC qual scope s.heap.objs.size f cd)) (leaving (envOfC qual scope s.heap.objs.size f cd) e) (λ_ s''=>CX outer H s E e s'') (λe' s''=>CX outer H s E e' s'') s'
theorem qSO {a:Scope} {n:Nat} {x:Str} (h:a.names.lookup x=some .cell):∃c,(cellsFrom n a.names []).lookup x=some c:=by
 have q:=A21 a.names n [] (.inl h);exact Z5.mp q
theorem qWI {CX:CXT} {K:Ab1} {mg:Ab0} {base:Heap} {N ps:List Str} {j:Str} {d:Scope} {f:Addr} {cd:Value} {g:List Env} {H:Hp} {E:XK} {us:List Value} {vs:List V} 
  (S:FnScope N ps d) (hd:A.handled=none) (m:Env0 P w K mg base A g s H) (hl:vs.length=ps.length) (r:Vals vs us)
  (x:InCallC s s.heap.objs.size (bindL (envOfC j d s.heap.objs.size f cd).kindOf (ps.zip us) λ_=>none) (cellsFrom (s.heap.objs.size+1) d.names []) (bindC (envOfC j d s.heap.objs.size f cd).kindOf (ps.zip us) λ_=>none) s1):
  Inv (cxOf CX P w K mg base N j d f cd A g s H E) [] (start N vs) H s1:=by
 have a1:ps.length<=N.length:=by have:=congrArg n8 S.pre;rw[C8] at this;lia
 obtain⟨h1,tk,rfl,hk⟩:=x.done;have o:∀b:Addr,b∉(cxOf CX P w K mg base N j d f cd A g s H E).ex:=λb z=>absurd (show b∈([]:List Addr) from z) (by simp)
 refine⟨⟨m.mod,S.kind,rfl,rfl,A7 _,λy z c h1 l=>?_,λy hy=>?_,λy c _ h=>?_,λ_=>hd,A49 m.frames,.inr ⟨rfl,rfl⟩,λb z=>absurd z (o b),m.bs,m.bsz,λb _ _=>o b,λb z=>absurd z (o b),m.funs,m.frf⟩,
  rfl,m.bare,Un.kept hk,⟨_,x.toInCall.ns,λi y v h1 l h3=>?_⟩,λy c h=>⟨_,x.cell y c h⟩,m.hok.fresh (A7 _),λy c h=>?_,λp t=>absurd (show p∈([]:Aa2) from t) (by simp),m.hok.kept hk,?_⟩
 ·exact name_of_addr x.apart (K9 h1) (K9 l)
 ·have hy:d.names.lookup y=some .cell\/d.names.lookup y=some .free:=hy;rcases hy with hy|hy
  ·exact qSO hy
  ·exact absurd rfl (S.nofree _ (K9 hy))
 ·exact V2 (x.above y c (K9 h))
 ·have hi:i<vs.length:=by
   unfold start at l;by_cases hi:i<vs.length
   ·exact hi
   ·rw[O2 (by simpa using hi)] at l
    rw[List.getElem?_replicate] at l
    split at l<;>cases l
  have ha:vs[i]?=some v:=by
   unfold start at l;rw[G4 (by simpa using hi),C5] at l
   cases e:vs[i]? with
   |none=>rw[e] at l;cases l
   |some a=>rw[e] at l;cases l;rfl
  obtain⟨u,hu,rv⟩:=r.get ha;have t:ps[i]?=some y:=by
   rw[<- S.pre,J8 (by lia)];exact h1
  have a0:ps.Nodup:=by rw[<- S.pre];exact S.nd.sublist (Y2 _ _)
  refine⟨u,rv,?_⟩;rcases S.par y (B0 t) with k|k
  ·exact .inl ⟨k,qPB a0 t hu k⟩
  ·obtain⟨c,e⟩:=qSO (n:=s.heap.objs.size+1) k;refine .inr ⟨.inl k,c,e,?_⟩;have q:=x.cell y c e;rw[qPD a0 t hu (by show d.names.lookup y≠_;rw[k];decide)] at q
   exact q
 ·exact m.hok.fresh (V2 (x.above y c (K9 h)))
 ·unfold start;show _=N.length;rw[A9,A0,List.length_replicate]
  lia
theorem qcM {CX:CXT} {K:Ab1} {mg:Ab0} {base:Heap} {k:Nat} {f:Addr} {name c:Str} {g:B95} {body:List Stmt} {a:Scope} {dV kV a0 pm d ct oc:Value} {an od:Option Addr} 
  {a1:Array (Option Value)} {N ps:List Str} {sp:Sp} (lk:K.lookup f=some ⟨oc,od,.func (R0 name c g body a dV kV a0 pm an d ct),a1⟩) (hcd:X4 K d c=true) (S:FnScope N ps a)
  (m:∀vs H Q E,sp vs H Q E->vs.length=ps.length)
  (i:∀ (A:Around) (outer:List Env) (s:Shared) (H:Hp) (vs:List V) (Q:VK) (E:XK),Room k (A.deeper (envOfC c a s.heap.objs.size f d))->sp vs H Q E->
   ∃t,PSs (cxOf CX P w K mg base N c a f d A outer s H E) body t/\t {nx:=λ_ H'=>Q .non H',rt:=Q} (start N vs) H):
  FnOk P w K mg base CX (k+1) f (R0 name c g body a dV kV a0 pm an d ct) ps sp:=by
 refine⟨m,λA outer s H a3 us vs Q E hr l hb r p=>?_⟩;have hl:=m _ _ _ _ p;have KX:K.In s.heap:=l.mod.kin.keeps λb o e=>(l.bs b o e).1;have a2:s.heap.NoLimit:=l.mod.nolimit.keeps λb o e=>(l.bs b o e).1;have h:∀y∈ps.zip us,a.names.lookup y.1=some .local\/(a.names.lookup y.1=some .cell/\((cellsFrom (s.heap.objs.size+1) a.names []).lookup y.1).isSome=true):=λ⟨n,v⟩ hy=>by
  rcases S.par n (n6 hy).1 with q|q
  ·exact .inl q
  ·exact .inr ⟨q,A21 _ _ _ (.inl q)⟩
 refine codeAny_call_function hr.depth (KX _ _ lk) rfl S.co S.gen rfl (PySem.W.codeRec_of KX hcd) (hb _ _ _ _ ?_);refine wpAny_newFunctionEnv_cells S.kind h λa4 he s1 x=>?_;subst he;refine⟨a2.keeps x.toInCall.keep,codeAny_func ?_⟩;obtain⟨t,ht,hq⟩:=i A outer s H vs Q E (hr.deeper _) p;have I:Inv (cxOf CX P w K mg base N c a f d A outer s H E) [] (start N vs) H s1:=qWI S hr.hd l hl r x;refine B69 (ht [] s1 (start N vs) H _ I hq) (λfl s' j=>?_) λe s' j=>j;have z:∀{σ':St} {H':Hp} {v:V} {u:Value},Inv (cxOf CX P w K mg base N c a f d A outer s H E) [] σ' H' s'->RelV v u->Q v H'->CE outer P w H s Q u s':=
  λ{σ' H' v u} J rv q=>⟨v,H',J.os,J.bare,J.base,J.hok,rv,q⟩
 cases fl with
 |ret u=>
  obtain⟨v,σ',H',J,rv,q⟩:=j;exact z J rv q
 |next=>
  obtain⟨σ',H',J,q⟩:=j;exact z (v:=V.non) (u:=J5) J rfl q
 |brk=>
  obtain⟨_,_,_,q⟩:=j;exact P9 q
 |cont=>
  obtain⟨_,_,_,q⟩:=j;exact P9 q
section
variable{X:Cx}{x:Str}{p pos:Pos}{e:Expr}{es:List Expr}{t:TA}{id T:String}{r:List V->Hp->VK->Prop}
def tCB (r:List V->Hp->VK->Prop)(t:TA):TE:=λσ H Q=>t σ H λvs H1=>r vs H1 Q
theorem qAC (i:qD9 X (.builtin id) r) (d:Gl X x) (j:X.mg x=none) (g:B72 x=some (.builtin id)) (k:PA X (e::es) t) (l:x ≠ "__name__":=by decide) (a:(x==("__debug__" : Str))=false:=by decide)
  (f:B66 (e::es) X.env=(false,eval e X.env)::B66 es X.env:=by rfl) (b:(backTo pos (B66 es X.env)).any (·.1)=false:=by rfl):PE X (.Call (.Name x p) (e::es) [] pos) (tCB r t):=by
 intro c s σ H Q I h;refine B87 (qGZ I d j g ?_ l a);exact PyProof.Rows.callWith_builtin1 (thn (k pos c s σ H _ I h) λus s1 ⟨vs,H1,I1,r1,q1⟩=>i c s1 σ H1 vs us Q I1 r1 q1) f b
theorem qAB (i:qD9 X (.type T) r) (d:Gl X x) (j:X.mg x=none) (g:B72 x=some (.type T)) (k:PA X (e::es) t) (l:x ≠ "__name__":=by decide) (a:(x==("__debug__" : Str))=false:=by decide)
  (f:B66 (e::es) X.env=(false,eval e X.env)::B66 es X.env:=by rfl) (b:(backTo pos (B66 es X.env)).any (·.1)=false:=by rfl):PE X (.Call (.Name x p) (e::es) [] pos) (tCB r t):=by
 intro c s σ H Q I h;refine B87 (qGZ I d j g ?_ l a);exact Q3 (thn (k pos c s σ H _ I h) λus s1 ⟨vs,H1,I1,r1,q1⟩=>i c s1 σ H1 vs us Q I1 r1 q1) f b
end
end L2
namespace HT
open PySem PyProof.Rows
noncomputable def lexLt:List Int->List Int->Bool
 |[],[]=>false
 |[],_::_=>true
 |_::_,[]=>false
 |x::xs,y::ys=>if x=y then lexLt xs ys else decide (x<y)
theorem lexLt_cons (x y:Int)(xs a:List Int):lexLt (x::xs) (y::a)=if x=y then lexLt xs a else decide (x<y):=rfl
theorem qMX:lexLt [] []=false:=rfl
theorem qL2 (y:Int)(a:List Int):lexLt [] (y::a)=true:=rfl
theorem qL3 (x:Int)(xs:List Int):lexLt (x::xs) []=false:=rfl
theorem eqAt_int (A:Around)(s:Shared)(a:Int)(t:Tok)(c:Int)(u:Tok):∃e,SeqAt.EqAt A s (.int a t) (.int c u) e/\(e=true↔a=c):=
 ⟨(a==c),t9 a t c u,by simp⟩
theorem rcLt_int (A:Around)(s:Shared)(a:Int)(t:Tok)(c:Int)(u:Tok)(prog:B63)(w:World)(E:Aa1)(Q:Aa1)(h:Q (.bool (decide (a<c))) s):
  wpAny (model prog w) A (C37 .Lt (.int a t) (.int c u)) Q E s:=
 (PyProof.Rows.lt_int h:wpAny (model prog w) A (B80 .Lt (.int a t) (.int c u)) Q E s)
section
open PySem.SeqAt
open PySem.AutoSeq1 (wpAny_loadPart')
open PySem.MeetsSeq PySem.MeetsSeq2 PySem.MeetsSeq3
theorem qM9 (l b:Addr)(i f:Array Value)(n n2:Nat)(dd a2:Option Addr)(sl a3:Array (Option Value))(ns ms:List Int)(hi:B68 i.toList ns)(hj:B68 f.toList ms):
  Meets (Builtin.«tuple.__lt__» ⟨[.ref l,.ref b],[]⟩)
   (fun _ R s=>s.heap.get? l=some { cls:=.type "tuple",dict:=dd,data:=.seq i n,slots:=sl }/\s.heap.get? b=some { cls:=.type "tuple",dict:=a2,data:=.seq f n2,slots:=a3 }/\
    R (.ok (.ret (.bool (lexLt ns ms)))) s):=
 .of_wp λo w A R s h=>by
  obtain⟨hp,g,d,tk,os⟩:=s;obtain⟨hl,hb,h⟩:=h;have f2:=A00;have z1:i.size=ns.length:=by rw[<- hi.length];simp
  have z2:f.size=ms.length:=by rw[<- hj.length];simp
  wp_walk using C47 hl,C47 hb,wpAny_forIn_list _ (fun r b s'=>b.1=none/\s'=⟨hp,g,d,tk,os⟩/\∃ (vs ws:List Value) (ns' ms':List Int),r=vs.zip ws/\
   B68 vs ns'/\B68 ws ms'/\ns'.length+f.size=ms'.length+i.size/\R (.ok (.ret (.bool (lexLt ns' ms')))) ⟨hp,g,d,tk,os⟩) _
  case turn=>
   rintro⟨y,x⟩ r b s' ⟨z,rfl,vs,ws,ns',ms',k,a0,m,j,v⟩;cases a0 with
   |nil=>rw[List.zip_nil_left] at k;cases k
   |cons a t hvi'=>
    cases m with
    |nil=>rw[List.zip_nil_right] at k;cases k
    |cons c u hwi'=>
     rw[L8] at k
     injection k with hyx hrest
     injection hyx with hy hx
     subst hy hx;rw[lexLt_cons] at v;simp only[C6] at j;obtain⟨e,he,p⟩:=eqAt_int A.in1 ⟨hp,g,d,tk,os⟩ a t c u;refine B60 (he o w _ _ ?_);cases e with
     |true=>
      rw[if_pos (p.mp rfl)] at v
      wp_walk
      exact⟨rfl,rfl,_,_,_,_,hrest,hvi',hwi',by lia,v⟩
     |false=>
      rw[if_neg (λq=>absurd (p.mpr q) C3)] at v;have a1:=rcLt_int A.in1 ⟨hp,g,d,tk,os⟩ a t c u o w
      wp_walk using a1
      exact⟨_,rfl,by simpa using v⟩
  case fin=>
   rintro⟨b1,b2⟩ s' ⟨z,rfl,vs,ws,ns',ms',k,a0,m,j,v⟩;simp only at z;subst z;have hv:lexLt ns' ms'=decide (i.size<f.size):=by
    cases a0 with
    |nil=>
     cases m with
     |nil=>
      simp only[J6] at j;rw[qMX];exact(decide_eq_false (by lia)).symm
     |cons c u hw=>
      simp only[J6,C6] at j;rw[qL2];exact(decide_eq_true (by lia)).symm
    |cons a t hv=>
     cases m with
     |nil=>
      simp only[J6,C6] at j;rw[qL3];exact(decide_eq_false (by lia)).symm
     |cons c u hw=>
      rw[L8] at k;cases k
   rw[hv] at v
   wp_walk
   exact⟨_,rfl,by simpa[d7] using v⟩
  case h=>
   exact⟨rfl,rfl,i.toList,f.toList,ns,ms,rfl,hi,hj,by lia,h⟩
end
section
variable{prog:B63}{w:World}{A:Around}{E:Aa1}{s:Shared}
theorem lt_tupInts {l b:Addr} {c a:Array Value} {ns f:List Int} {Q:Aa1} (hl:IsTup s.heap l c)(t:IsTup s.heap b a)(hi:B68 c.toList ns)(u:B68 a.toList f)
  (z:A.units<cLine) (h:Q (.bool (lexLt ns f)) s):wpAny (model prog w) A (B80 .Lt (.ref l) (.ref b)) Q E s:=by
 obtain⟨⟨a0,y,r,v⟩,p,o,n,q⟩:=id hl;obtain⟨⟨m,i,k,j⟩,d,g,n2,e⟩:=id t;simp only at o q g e;subst o q g e;exact richCompare_meets_room (op:=.Lt) ⟨_,p,rfl⟩ ⟨_,d,rfl⟩ A28 A22 (A08 _ _) (qM9 l b c a n n2 y i v j ns f hi u)
  ⟨p,d,show n4 (lexLt ns f)≠A50/\Q (.bool (lexLt ns f)) s from⟨(λx=>nomatch x),h⟩⟩ z
theorem cat_tup {t b:Addr} {vs ws:List Value} {Q:Aa1} (x:IsTup s.heap t vs.toArray)(y:IsTup s.heap b ws.toArray)(m:vs≠[])
  (z:ws=[]->Q (.ref t) s) (h2:ws≠[]->Q (.ref s.heap.objs.size) {s with heap:=s.heap.push {cls:=.type "tuple",data:=.seq (vs++ws).toArray}})
  (hsz:vs.length+ws.length<=B62):wpAny (model prog w) A (B99 .Add (.ref t) (.ref b)) Q E s:=by
 obtain⟨⟨cls,q,data,p⟩,j,o,n,r⟩:=id x;obtain⟨⟨l,f,k,g⟩,a,h,u,c⟩:=id y;simp only at o r h c;subst o r h c;have e:vs.toArray++ws.toArray=(vs++ws).toArray:=by simp
 by_cases i:ws=[]
 ·exact concat_meets ⟨_,j,rfl⟩ ⟨_,a,rfl⟩ C39 seq_tuple_add X6 W7 (W0 _ _)
   (tuple_addW1 t b vs.toArray ws.toArray n u q f p g (by simpa using m) (by simp[i])) ⟨j,a,z i⟩
 ·refine concat_meets ⟨_,j,rfl⟩ ⟨_,a,rfl⟩ C39 seq_tuple_add X6 W7 (W0 _ _)
   (tuple_addW2 t b vs.toArray ws.toArray n u q f p g (by simpa using m) (by simpa using i) (by rw[B5,B5];exact hsz)) ⟨j,a,?_⟩
  rw[e];exact h2 i
noncomputable def sIx (n d:Nat):Option Int->Nat
 |none=>d
 |some v=>if v<0 then(v+(n:Int)).toNat else min v.toNat n
theorem sIx_none (n d:Nat):sIx n d none=d:=rfl
theorem sIx_nat (n d k:Nat):sIx n d (some (k:Int))=min k n:=by
 show(if(k:Int)<0 then((k:Int)+(n:Int)).toNat else min (k:Int).toNat n)=min k n
 rw[if_neg (by lia),D0]
theorem qdT (n d:Nat)(b:d<=n)(o:Option Int):sIx n d o<=n:=by
 cases o with
 |none=>exact b
 |some v=>
  show(if v<0 then(v+(n:Int)).toNat else min v.toNat n)<=n
  by_cases a:v<0
  ·rw[if_pos a];lia
  ·rw[if_neg a];exact Nat.min_le_right _ _
theorem qXL (v:Int)(n d:Nat):(if v<0 then max (v+(n:Int)) 0 else min v (n:Int))=((sIx n d (some v):Nat):Int):=by
 show(if v<0 then max (v+(n:Int)) 0 else min v (n:Int))=(((if v<0 then(v+(n:Int)).toNat else min v.toNat n):Nat):Int)
 by_cases a:v<0
 ·simp only[if_pos a];lia
 ·simp only[if_neg a];lia
theorem qUB (lo hi:Option Int)(n:Nat):Y8 lo hi 1 (n:Int)=(((sIx n 0 lo:Nat):Int),((sIx n n hi:Nat):Int)):=by
 have a:¬((1:Int)<0):=by lia
 unfold Y8;simp only[a,if_false];refine Prod.ext ?_ ?_
 ·cases lo with
  |none=>rfl
  |some v=>exact qXL v n 0
 ·cases hi with
  |none=>rfl
  |some v=>exact qXL v n n
theorem qTB (i j:Nat):V7 (i:Int) (j:Int) 1=j-i:=by
 unfold V7;have a:(1:Int)>0:=by lia
 simp only[a,if_true,Int.ediv_one]
 split<;>lia
theorem qLM {v:Value} {o:Option Int} {Q:Option Int->Shared->Prop} (p:IsPart v o)(h:Q o s):wpAny (model prog w) A (Builtin.Slice.slicePartIndex v) Q E s:=by
 cases p with
 |none=>exact slicePart_none h
 |int i t=>exact slicePart_int h
theorem qF5 {e:Addr} {d c:Value} {lo hi:Option Int} {n:Nat} {Q:Int×Int×Nat->Shared->Prop} (f:s.heap.IsSliceOf e d c .none)(i:IsPart d lo)(g:IsPart c hi)
  (h:Q (((sIx n 0 lo:Nat):Int),1,sIx n n hi-sIx n 0 lo) s):wpAny (model prog w) A (q9 (.ref e) (pure (n:Int))) Q E s:=by
 obtain⟨k,b,j,a⟩:=id f;unfold q9 Builtin.Slice.sliceFields;refine B60 (B60 (B96 b a (x:=d) rfl (B60 (B96 b a (x:=c) rfl (B60 (B96 b a (x:=.none) rfl (B61 ?_)))))));refine B60 (slicePart_none ?_);show wpAny _ _ (if((1:Int)==0)=true then _ else _) _ _ s
 rw[if_neg (by decide)]
 refine B60 (qLM i (B60 (qLM g (B60 (B61 ?_)))));show wpAny _ _ (match Y8 lo hi 1 (n:Int) with|(lo,hi)=>pure (lo,(1:Int),V7 lo hi 1)) _ _ s
 rw[qUB lo hi n];show wpAny _ _ (pure (((sIx n 0 lo:Nat):Int),(1:Int),V7 ((sIx n 0 lo:Nat):Int) ((sIx n n hi:Nat):Int) 1)) _ _ s;rw[qTB];exact B61 h
theorem qYN (xs:Array Value)(i k:Nat):((F5 k).filterMap λ(m:Nat)=>xs[((i:Int)+(m:Int)*1).toNat]?).toArray=((xs.toList.drop i).take k).toArray:=by
 have e:(λ(m:Nat)=>xs[((i:Int)+(m:Int)*1).toNat]?)=λm=>xs[i+m]?:=by
  funext m
  have:((i:Int)+(m:Int)*1).toNat=i+m:=by lia
  rw[this]
 rw[e];have:=pick_run xs i k;rw[u6] at this;have a:((λx=>xs[x]?) ∘ λx=>i+x)=λm=>xs[i+m]?:=rfl;rw[a] at this;rw[this]
theorem getItem_tuple_cut {t d:Addr} {a:Array Value} {l k:Value} {lo hi:Option Int} {Q:Aa1} (c:IsTup s.heap t a)(j:s.heap.IsSliceOf d l k .none)(n:IsPart l lo)(u:IsPart k hi)
  (o:¬(sIx a.size 0 lo=0/\sIx a.size a.size hi=a.size))
  (h:Q (.ref s.heap.objs.size) {s with heap:=s.heap.push {cls:=.type "tuple",data:=.seq ((a.toList.drop (sIx a.size 0 lo)).take (sIx a.size a.size hi-sIx a.size 0 lo)).toArray}})
  (hsz:a.size<=B62):wpAny (model prog w) A (C22 (.ref t) (.ref d)) Q E s:=by
 have b:sizeOk (.seq ((a.toList.drop (sIx a.size 0 lo)).take (sIx a.size a.size hi-sIx a.size 0 lo)).toArray):=by
  show((a.toList.drop (sIx a.size 0 lo)).take (sIx a.size a.size hi-sIx a.size 0 lo)).toArray.size<=B62;rw[B5,C8,R1,D2]
  lia
 have v:sIx a.size a.size hi<=a.size:=qdT _ _ (A7 _) hi;obtain⟨r,f,i,p⟩:=id j;have g:s.TypeIs (.ref d) "slice":=⟨r,f,i⟩;unfold C22
 try with_reducible refine B65 ?_
 first|refine B60 (B61 ?_)|skip
 refine B60 (wpAny_sequenceKey c.typeIs (by decide) ?_)
 refine B60 (wpAny_callSpecial?_slot (name:=B6 "__getitem__") c.typeIs J9
  (B78 J9 c.typeIs entry_tuple_getitem ?_ (args_tuple_getitem _ _)))
 show wpAny _ _ (Y4 (.ref t) >>= _) _ _ s;refine B60 (tupleItemsOf_ c ?_);refine B60 (C14 g ?_);rw[if_pos (by decide)]
 refine B60 (qF5 j n u ?_);have e:¬((((sIx a.size 0 lo:Nat):Int)==0&&(1:Int)==1&&(sIx a.size a.size hi-sIx a.size 0 lo)==a.size)=true):=by
  intro q;rw[L4,L4] at q;have y:((sIx a.size 0 lo:Nat):Int)=0:=eq_of_beq q.1.1;have x:sIx a.size a.size hi-sIx a.size 0 lo=a.size:=eq_of_beq q.2;exact o ⟨by lia,by lia⟩
 show wpAny _ _ (if(((sIx a.size 0 lo:Nat):Int)==0&&(1:Int)==1&&(sIx a.size a.size hi-sIx a.size 0 lo)==a.size)=true then _ else _) _ _ s
 rw[if_neg e,qYN]
 first
  |exact B60 (m:=Q0 _) (B67 (B61 ⟨_,rfl,B61 h⟩) b)
  |exact B60 (m:=Q0 _) (B67 (B60 (B61 (B61 ⟨_,rfl,B61 h⟩))) b)
  |exact B60 (B60 (m:=Q0 _) (B67 (B61 (B61 ⟨_,rfl,B61 h⟩)) b))
  |exact B60 (B60 (m:=Q0 _) (B67 (B61 ⟨_,rfl,B61 h⟩) b))
end
end HT
namespace L2
open PySem PySem.Spec PyProof.Rows
abbrev TO:=St->Hp->(Option Int->Hp->Prop)->Prop
def PO (X:Cx)(e:Option Expr)(t:TO):Prop:=
 ∀(Ab:Aa2) (s:Shared) (σ:St) (H:Hp) (Q:Option Int->Hp->Prop),Inv X Ab σ H s->t σ H Q->
  wpAny (model X.prog X.w) X.A (evalPart e X.env) (λu s'=>∃o H',Inv X Ab σ H' s'/\IsPart u o/\Q o H') X.xe s
def qbE:TO:=λ_ H Q=>Q none H
def qf7 (t:TE):TO:=λσ H Q=>t σ H λx H1=>∃i,x=.int i/\Q (some i) H1
theorem qG8 {ns:List Int} :∀{us:List Value},Vals (ns.map V.int) us->B68 us ns:=by
 induction ns with
 |nil=>intro us r;rw[A29] at r;cases r;exact .nil
 |cons n ns ih=>
  intro us r;rw[C9] at r;cases r with
  |cons r1 r2=>
   obtain⟨t,e⟩:=r1;subst e;exact .cons n t (ih r2)
section
variable{X:Cx}{e:Expr}{te:TE}{lo hi:Option Expr}{tl th:TO}{pos p2:Pos}
theorem qHL:PO X none qbE:=by
 intro a s σ H Q I h;rw[evalPart_none];exact B61 ⟨none,H,I,.none,h⟩
theorem qHK (h:PE X e te):PO X (some e) (qf7 te):=by
 intro a s σ H Q I b;rw[evalPart_some];refine thn (h a s σ H _ I b) λu s1 ⟨x,H1,I1,r1,q1⟩=>?_;obtain⟨i,rfl,q⟩:=q1;obtain⟨t,rfl⟩:=r1;exact⟨some i,H1,I1,.int i t,q⟩
def SlR (X:Cx)(r:V->Option Int->Option Int->Hp->VK->Prop):Prop:=
 ∀(Ab:Aa2) (s:Shared) (σ:St) (H:Hp) (x:V) (v vl vu:Value) (lo hi:Option Int) (sl:Addr) (Q:VK),Inv X Ab σ H s->RelV x v->s.heap.IsSliceOf sl vl vu .none->IsPart vl lo->IsPart vu hi->r x lo hi H Q->
  ∃T id,typeLookup (.type T) "__getitem__" = pure (some (.builtin id))/\s.TypeIs v T/\wpAny (model X.prog X.w) X.A (C22 v (.ref sl)) (EP X Ab σ Q) X.xe s
def tSl (r:V->Option Int->Option Int->Hp->VK->Prop)(te:TE)(tl th:TO):TE:=λσ H Q=>te σ H λx H1=>tl σ H1 λl H2=>th σ H2 λu H3=>r x l u H3 Q
theorem qG4 {r:V->Option Int->Option Int->Hp->VK->Prop} (k:SlR X r)(j:PE X e te)(i:PO X lo tl)(d:PO X hi th):PE X (.Subscript e (.Slice lo hi none p2) pos) (tSl r te tl th):=by
 intro a s σ H Q I h;refine Subscript_ (thn (j a s σ H _ I h) λv s1 ⟨x,H1,I1,r1,q1⟩=>?_);refine wpAny_Slice (thn (i a s1 σ H1 _ I1 q1) λvl s2 ⟨l,H2,I2,pl,q2⟩=>thn (d a s2 σ H2 _ I2 q2) λvu s3 ⟨u,H3,I3,pu,q3⟩=>?_);rw[evalPart_none];refine B61 ?_;have f:Inv X a σ H3 {s3 with heap:=s3.heap.push {cls:=.type "slice",data:=.fields #[vl,vu,.none]}}:=I3.kept (t':=s3.toks) λb o q=>A3 _ q;obtain⟨T,n,m,g,c⟩:=k a {s3 with heap:=s3.heap.push {cls:=.type "slice",data:=.fields #[vl,vu,.none]}} σ H3 x v vl vu l u s3.heap.objs.size Q f r1 (B59 ..) pl pu q3;show wpAny (model X.prog X.w) X.A (subscriptTail e (.Slice lo hi none p2) v (.ref s3.heap.objs.size)) (EP X a σ Q) X.xe {s3 with heap:=s3.heap.push {cls:=.type "slice",data:=.fields #[vl,vu,.none]}};exact tail_any (ops:=[.ref s3.heap.objs.size,v]) g m c (by with_unfolding_all rfl)
noncomputable def cutV (xs:List V)(lo hi:Option Int):List V:=(xs.drop (HT.sIx xs.length 0 lo)).take (HT.sIx xs.length xs.length hi-HT.sIx xs.length 0 lo)
theorem qKI (xs:List V)(lo hi:Option Int):(cutV xs lo hi).length<=xs.length:=by
 unfold cutV;rw[C8,R1]
 lia
def rSlT (K:Ab1):V->Option Int->Option Int->Hp->VK->Prop:=λx lo hi H Q=>∃a xs,x=.ref a/\SqT K H a xs/\
 ¬(HT.sIx xs.length 0 lo=0/\HT.sIx xs.length xs.length hi=xs.length)/\∀p,H p=none->Q (.ref p) (Ag H p (.tup (cutV xs lo hi)))
theorem qdO:SlR X (rSlT X.K):=by
 intro y s σ H x v vl w e f z Q I t k l m h;obtain⟨a,d,rfl,p,n,q⟩:=h;cases t;obtain⟨g,r,i,j⟩:=I.tuple p;have c:g.toArray.size=d.length:=by rw[B5];exact r.length.symm
 refine⟨"tuple",_,J9.lookup,i.typeIs,?_⟩;refine HT.getItem_tuple_cut i k l m (by rw[c];exact n) ?_ (by rw[c];exact j)
 rw[c];refine⟨.ref s.heap.objs.size,_,I.laid (t':=s.toks) (o:=.tup (cutV d e f)) (λb u q=>A3 _ q) (A7 _) ?_,rfl,q _ (I.hok.fresh (A7 _))⟩;exact⟨F3 (qKI d e f) j,_,(r.drop (HT.sIx d.length 0 e)).take (HT.sIx d.length d.length f-HT.sIx d.length 0 e),IsTup.new _ _⟩
def qfQ (K:Ab1):R2:=λx y H Q=>∃a b xs ys,x=.ref a/\y=.ref b/\SqT K H a xs/\SqT K H b ys/\xs≠[]/\xs.length+ys.length<=B62/\
 (ys=[]->Q (.ref a) H)/\(ys≠[]->∀p,H p=none->Q (.ref p) (Ag H p (.tup (xs++ys))))
theorem Vals.nil_iff {xs:List V} {a:List Value} (r:Vals xs a):a=[]↔xs=[]:=by
 cases r with
 |nil=>simp
 |cons _ _=>simp
theorem qVP:OpR X (B99 .Add) (qfQ X.K):=by
 intro Ab s σ H x y v u Q I r l h;obtain⟨a,b,g,n,rfl,rfl,t,hb,p,f,i,q2⟩:=h;cases r;cases l;obtain⟨k,d,j,_⟩:=I.tuple t;obtain⟨e,c,m,_⟩:=I.tuple hb;refine HT.cat_tup j m (λz=>p (d.nil_iff.mp z)) (λz=>⟨.ref a,H,I,rfl,i (c.nil_iff.mp z)⟩) (λz=>?_) (by rw[<- d.length,<- c.length];exact f)
 refine⟨.ref s.heap.objs.size,_,I.laid (t':=s.toks) (o:=.tup (g++n)) (λb ob q=>A3 _ q) (A7 _) ?_,rfl,q2 (λw=>z (c.nil_iff.mpr w)) _ (I.hok.fresh (A7 _))⟩;exact⟨by rw[A9];exact f,_,d.append c,IsTup.new _ _⟩
end
noncomputable def ixN (n:Nat)(i:Int):Option Nat:=if 0<=i then(if i<n then some i.toNat else none) else if -(n:Int)<=i then some (i+n).toNat else none
noncomputable def atI {α:Type}(xs:List α)(i:Int):Option α:=(ixN xs.length i).bind λj=>xs[j]?
theorem qWG {n:Nat} {i:Int} {j:Nat} (h:ixN n i=some j):seqIndex? i n=some j/\j<n/\-(n:Int)<=i/\i<n:=by
 unfold ixN at h;by_cases b:0<=i
 ·rw[if_pos b] at h;by_cases a:i<n
  ·rw[if_pos a] at h;have e:i.toNat=j:=D1 h;exact⟨by rw[seqIndex_of b a,e],by lia,by lia,a⟩
  ·rw[if_neg a] at h;cases h
 ·rw[if_neg b] at h;by_cases a : -(n:Int)<=i
  ·rw[if_pos a] at h;have e:(i+n).toNat=j:=D1 h;exact⟨by rw[seqIndex_neg (by lia) a,e],by lia,a,by lia⟩
  ·rw[if_neg a] at h;cases h
theorem qR5 {α:Type} {xs:List α} {i:Int} {v:α} (h:atI xs i=some v):∃j,seqIndex? i xs.length=some j/\xs[j]?=some v/\j<xs.length/\-(xs.length:Int)<=i/\i<xs.length:=by
 unfold atI at h;cases e:ixN xs.length i with
 |none=>rw[e] at h;cases h
 |some j=>
  rw[e] at h;obtain⟨c,a,b,d⟩:=qWG e;exact⟨j,c,h,a,b,d⟩
theorem qXX {α:Type} {xs:List α} {j:Nat} {v:α} (h:xs[j]?=some v):atI xs (j:Int)=some v:=by
 have a:j<xs.length:=(A5.mp h).1;have e:ixN xs.length (j:Int)=some j:=by
  unfold ixN;rw[if_pos (by lia),if_pos (by lia)];simp
 unfold atI;rw[e];exact h
theorem qSR {α:Type} (xs:List α)(v:α):atI (xs++[v]) (-1)=some v:=by
 have a:(xs++[v]).length=xs.length+1:=by simp
 have e:ixN (xs++[v]).length (-1)=some xs.length:=by
  unfold ixN;rw[a,if_neg (by decide),if_pos (by lia)]
  congr 1
  lia
 unfold atI;rw[e];show(xs++[v])[xs.length]?=some v;simp
def qd1 (b:Expr):Prop:=∀o i,subscripted b false o i=operate [o,i] (C22 o i)
def IxR (X:Cx)(r:R2):Prop:=
 ∀(value slice:Expr) (Ab:Aa2) (s:Shared) (σ:St) (H:Hp) (x y:V) (v u:Value) (Q:VK),Inv X Ab σ H s->RelV x v->RelV y u->r x y H Q->
  subscripted slice false v u=operate [v,u] (C22 v u)->wpAny (model X.prog X.w) X.A (subscriptTail value slice v u) (EP X Ab σ Q) X.xe s
def MtR (X:Cx)(id:String)(r:V->List V->Hp->VK->Prop):Prop:=
 ∀(Ab:Aa2) (s:Shared) (σ:St) (H:Hp) (x:V) (xs:List V) (v:Value) (us:List Value) (Q:VK),Inv X Ab σ H s->RelV x v->Vals xs us->r x xs H Q->
  wpAny (model X.prog X.w) X.A (call (.builtin id) (v::us)) (EP X Ab σ Q) X.xe s
section
variable{X:Cx}{a b:Expr}{ta tb:TE}{pos:Pos}
theorem qBY {r:R2} (j:IxR X r)(l:PE X a ta)(m:PE X b tb)(d:qd1 b):PE X (.Subscript a b pos) (tOp r ta tb):=by
 intro f s σ H Q I h;exact Subscript_ (binT l m I h λv u i x y c e k g q=>j a b f i σ c x y v u Q e k g q (d _ _))
def rIxL (K:Ab1):R2:=λx y H Q=>∃p xs i v,x=.ref p/\y=.int i/\SqL K H p xs/\atI xs i=some v/\Q v H
def rIxT (K:Ab1):R2:=λx y H Q=>∃p xs i v,x=.ref p/\y=.int i/\SqT K H p xs/\atI xs i=some v/\Q v H
theorem qES:IxR X (rIxL X.K):=by
 intro e f m s σ H x y v u Q I rx ry h l;obtain⟨p,xs,i,z,rfl,rfl,hq,he,q⟩:=h;cases rx;obtain⟨t,rfl⟩:=ry;obtain⟨c,r,g,hz⟩:=I.list hq;obtain⟨j,b,h2,h3,h4,h5⟩:=qR5 he;obtain⟨w,n,k⟩:=r.get h2;have hl:=r.length;have hn:=qLT;have a:EP X m σ Q w s:=⟨z,H,I,k,q⟩;by_cases o:0<=i
 ·have d:i.toNat=j:=by
   rw[seqIndex_of o h5] at b;exact D1 b
  exact item_listR g.isList o (by lia) (by rw[d];simpa using n) a l
 ·have d:(i+(c.toArray.size:Int)).toNat=j:=by
   rw[seqIndex_neg (by lia) h4] at b
   rw[B5,<- hl];exact D1 b
  exact subscriptTail_builtinR (x:=w) g.isList.typeIs slot_list_getitem.lookup
   (wpAny_getItem_list_neg (Q:=λr s'=>r=w/\EP X m σ Q r s') g.isList (by lia) (by rw[B5]<;>lia) (by lia) (by rw[d];simpa using n) ⟨rfl,a⟩) l
theorem qCD:IxR X (rIxT X.K):=by
 intro a b e s σ H x y v u Q I m l h g;obtain⟨p,xs,i,z,rfl,rfl,hq,he,q⟩:=h;cases m;obtain⟨t,rfl⟩:=l;obtain⟨k,r,f,hz⟩:=I.tuple hq;obtain⟨j,n,o,h3,h4,h5⟩:=qR5 he;obtain⟨w,ew,d⟩:=r.get o;have hl:=r.length;have hn:=qLT;have c:EP X e σ Q w s:=⟨z,H,I,d,q⟩;exact subscriptTail_builtinR (x:=w) f.typeIs slot_tuple_getitem.lookup
  (getItem_tuple (j:=j) (Q:=λr s'=>r=w/\EP X e σ Q r s') f (by lia) (by lia) (by rw[B5,<- hl];exact n) (by simpa using ew) ⟨rfl,c⟩) g
theorem qTJ (a:List Value) (n j:Nat) (u:Value):G5 (·.setIfInBounds j u) {cls:=.type "list",data:=.seq a.toArray n}={cls:=.type "list",data:=.seq (a.set j u).toArray n}:=by
 simp[G5]
theorem Inv.lst {Ab:Aa2} {σ:St} {H:Hp} {p:Addr} {xs:List V} (I:Inv X Ab σ H s)(h:H p=some (.lst xs)):
  ∃(its:List Value) (n:Nat),Vals xs its/\s.heap.get? p=some {cls:=.type "list",data:=.seq its.toArray n}/\xs.length<=B62:=by
 obtain⟨z,its,n,r,e⟩:=I.hok p _ h;exact⟨its,n,r,e,z⟩
theorem Inv.lstUpd {Ab:Aa2} {σ:St} {H:Hp} {p:Addr} {xs c:List V} {a its':List Value} {n d:Nat} {f:Obj->Obj} (I:Inv X Ab σ H s)(h:H p=some (.lst xs))
  (k:s.heap.get? p=some {cls:=.type "list",data:=.seq a.toArray n}) (g:f {cls:=.type "list",data:=.seq a.toArray n}={cls:=.type "list",data:=.seq its'.toArray d}) (r:Vals c its') (i:c.length<=B62) (t:Nat):
  Inv X Ab σ (Ag H p (.lst c)) {s with heap:=s.heap.update p f,toks:=t}:=by
 have e:(s.heap.update p f).get? p=some {cls:=.type "list",data:=.seq its'.toArray d}:=by
  rw[E7 f k (by rw[g]<;>rfl),g]
 refine I.write (x:=p) (e:=p) (by rw[h];trivial) (.inl rfl) (λb u j q=>(C0 _ _ (F6 j)).trans q) ⟨_,e⟩ ?_
 exact⟨i,its',d,r,e⟩
def qfO:V->V->V->Hp->(Hp->Prop)->Prop:=λo i v H Q=>∃p xs k j,o=.ref p/\i=.int k/\H p=some (.lst xs)/\ixN xs.length k=some j/\Q (Ag H p (.lst (xs.set j v)))
theorem qIH:PSet X qfO:=by
 intro z s σ H o i v ov iv u Q I ro ri rv h;obtain⟨p,xs,k,j,rfl,rfl,f,y,q⟩:=h;cases ro;obtain⟨t,rfl⟩:=ri;obtain⟨a,n,r,e,x⟩:=I.lst f;obtain⟨b,h2,l,w⟩:=qWG y;have d:=r.length;have hn:=qLT;have g:Inv X z σ (Ag H p (.lst (xs.set j v))) {s with heap:=s.heap.update p (G5 (·.setIfInBounds j u))}:=
  I.lstUpd f e (qTJ a n j u) (r.set rv j) (by rw[b7];exact x) s.toks
 by_cases m:0<=k
 ·have c:k.toNat=j:=by
   rw[seqIndex_of m w] at b;exact D1 b
  exact PySem.W.ki_setAt e m (by lia) (by rw[B5,<- d];exact w) (by rw[c];exact⟨_,g,q⟩)
 ·have c:(k+(a.toArray.size:Int)).toNat=j:=by
   rw[seqIndex_neg (by lia) l] at b
   rw[B5,<- d];exact D1 b
  exact PySem.W.ki_setBack e (by lia) (by rw[B5,<- d];exact l) (by lia) (by rw[c];exact⟨_,g,q⟩)
theorem qO1 (lo hi:Option Int)(n:Nat):(C23 lo hi none n).1=((HT.sIx n 0 lo:Nat):Int)/\(C23 lo hi none n).2.1=((HT.sIx n n hi:Nat):Int)/\(C23 lo hi none n).2.2=1:=by
 refine⟨?_,?_,rfl⟩
 ·cases lo with
  |none=>simp[C23,HT.sIx]
  |some i=>
   simp only[C23,HT.sIx,A15,show(1:Int)>0 by decide,if_true]
   by_cases h:i<0
   ·simp only[h,if_true]<;>lia
   ·simp only[h,if_false]<;>lia
 ·cases hi with
  |none=>simp[C23,HT.sIx]
  |some i=>
   simp only[C23,HT.sIx,A15,show(1:Int)>0 by decide,if_true]
   by_cases h:i<0
   ·simp only[h,if_true]<;>lia
   ·simp only[h,if_false]<;>lia
theorem qMH (a:List Value)(lo hi:Option Int):slicePick a.toArray lo hi none=((a.drop (HT.sIx a.length 0 lo)).take (HT.sIx a.length a.length hi-HT.sIx a.length 0 lo)).toArray:=by
 obtain⟨c,d,b⟩:=qO1 lo hi a.toArray.size;unfold slicePick;rw[c,d,b];simp only[sliceRange_one,pick_run,B5]<;>rfl
def rSlL (K:Ab1):V->Option Int->Option Int->Hp->VK->Prop:=λx lo hi H Q=>∃a xs,x=.ref a/\SqL K H a xs/\∀p,H p=none->Q (.ref p) (Ag H p (.lst (cutV xs lo hi)))
theorem qPW:SlR X (rSlL X.K):=by
 intro w s σ H x v z u e f y Q I p i l m h;obtain⟨a,c,rfl,n,q⟩:=h;cases p;obtain⟨k,r,g,j⟩:=I.list n;have d:=r.length;refine⟨"list",_,slot_list_getitem.lookup,g.isList.typeIs,?_⟩;refine wpAny_getItem_list_slice g.isList i l m .none (by simp) ?_ (by rw[B5]<;>lia)
 rw[qMH,<- d];refine⟨.ref s.heap.objs.size,_,I.laid (t':=s.toks) (o:=.lst (cutV c e f)) (λb t q=>A3 _ q) (A7 _) ?_,rfl,q _ (I.hok.fresh (A7 _))⟩;exact⟨F3 (qKI c e f) j,_,0,(r.drop (HT.sIx c.length 0 e)).take (HT.sIx c.length c.length f-HT.sIx c.length 0 e),B3 _ rfl⟩
noncomputable def qN3:V->Bool
 |.non=>true
 |.bl _=>true
 |.int _=>true
 |.str _=>true
 |_=>false
noncomputable def eqV:V->V->Bool
 |.non,.non=>true
 |.bl a,.bl b=>a==b
 |.bl a,.int b=>(if a then 1 else 0)==b
 |.int a,.bl b=>a==(if b then 1 else 0)
 |.int a,.int b=>a==b
 |.str a,.str b=>a==b
 |_,_=>false
theorem qeS {y x:V} {u v:Value} (e:RelV y u)(c:RelV x v)(g:qN3 y=true)(f:qN3 x=true):SeqAt.EqAt A s u v (eqV y x):=by
 cases y with
 |non=>
  cases e;cases x with
  |non=>cases c;exact SeqAt.EqAt.same _
  |bl b=>cases c;exact SeqAt.EqAt.none_bool b
  |int b=>obtain⟨t,rfl⟩:=c;exact SeqAt.EqAt.none_int b t
  |str b=>obtain⟨t,rfl⟩:=c;exact SeqAt.EqAt.none_str b t
  |_=>exact absurd (show false=true from f) C3
 |bl a=>
  cases e;cases x with
  |non=>cases c;exact SeqAt.EqAt.bool_none a
  |bl b=>cases c;exact SeqAt.EqAt.bool_bool a b
  |int b=>obtain⟨t,rfl⟩:=c;exact SeqAt.EqAt.bool_int a b t
  |str b=>obtain⟨t,rfl⟩:=c;exact SeqAt.EqAt.bool_str a b t
  |_=>exact absurd (show false=true from f) C3
 |int a=>
  obtain⟨d,rfl⟩:=e;cases x with
  |non=>cases c;exact SeqAt.EqAt.int_none a d
  |bl b=>cases c;exact SeqAt.EqAt.int_bool a d b
  |int b=>obtain⟨t,rfl⟩:=c;exact t9 a d b t
  |str b=>obtain⟨t,rfl⟩:=c;exact A77 a d b t
  |_=>exact absurd (show false=true from f) C3
 |str a=>
  obtain⟨d,rfl⟩:=e;cases x with
  |non=>cases c;exact SeqAt.EqAt.str_none a d
  |bl b=>cases c;exact SeqAt.EqAt.str_bool a d b
  |int b=>obtain⟨t,rfl⟩:=c;exact A78 a d b t
  |str b=>obtain⟨t,rfl⟩:=c;exact SeqAt.EqAt.str_str a d b t
  |_=>exact absurd (show false=true from f) C3
 |_=>exact absurd (show false=true from g) C3
noncomputable def eqU (x:V)(u:Value):Bool:=match u with
 |.none=>eqV .non x
 |.bool b=>eqV (.bl b) x
 |.int i _=>eqV (.int i) x
 |.str z _=>eqV (.str z) x
 |_=>false
theorem qb1 {x y:V} {u:Value} (r:RelV y u)(f:qN3 y=true):eqU x u=eqV y x:=by
 cases y with
 |non=>cases r;rfl
 |bl b=>cases r;rfl
 |int i=>obtain⟨t,rfl⟩:=r;rfl
 |str z=>obtain⟨t,rfl⟩:=r;rfl
 |_=>exact absurd (show false=true from f) C3
theorem qR7 {x:V} :∀{xs:List V} {us:List Value},Vals xs us->xs.all qN3=true->us.any (eqU x)=xs.any λy=>eqV y x
 |_,_,.nil,_=>rfl
 |y::xs,u::us,.cons r t,f=>by
  rw[A09,L4] at f;rw[Y3,Y3,qb1 r f.1,qR7 t f.2]
theorem qMW {x:V} {v:Value} (rx:RelV x v)(fx:qN3 x=true):∀{xs:List V} {us:List Value},Vals xs us->xs.all qN3=true->∀u∈us,SeqAt.EqAt A s u v (eqU x u)
 |_,_,.nil,_=>λu hu=>by cases hu
 |y::xs,u::us,.cons r t,f=>λu' hu=>by
  rw[A09,L4] at f;rcases B1.mp hu with rfl|hu
  ·rw[qb1 r f.1];exact qeS r rx f.1 fx
  ·exact qMW rx fx t f.2 u' hu
noncomputable def inV (x:V)(xs:List V):Bool:=xs.any λy=>eqV y x
def rIn (K:Ab1)(neg:Bool):R2:=λx y H Q=>∃p xs,y=.ref p/\(SqL K H p xs\/SqT K H p xs)/\qN3 x=true/\xs.all qN3=true/\Q (.bl (if neg then !inV x xs else inV x xs)) H
theorem qJR:OpR X (B80 .In) (rIn X.K false):=by
 intro k s σ H x y v u Q I e i h;obtain⟨p,j,rfl,hq,f,b,q⟩:=h;cases i;rcases hq with hq|hq
 ·obtain⟨a,r,c,g⟩:=I.list hq;refine SeqAt.in_listAt (eqU x) c.isList (λw d=>qMW e f r b w (by simpa using d)) ⟨.bl _,H,I,rfl,?_⟩
  rw[show a.toArray.any (eqU x)=a.any (eqU x) by simp,qR7 r b]
  exact q
 ·obtain⟨a,r,c,g⟩:=I.tuple hq;refine SeqAt.in_tupleAt (eqU x) c (λw d=>qMW e f r b w (by simpa using d)) ⟨.bl _,H,I,rfl,?_⟩
  rw[show a.toArray.any (eqU x)=a.any (eqU x) by simp,qR7 r b]
  exact q
theorem qAA:qD9 X (.builtin "len") (λxs H Q=>∃p ys,xs=[.ref p]/\(SqL X.K H p ys\/SqT X.K H p ys)/\Q (.int ys.length) H):=by
 intro i s σ H xs g Q I r h;obtain⟨p,ys,rfl,hq,q⟩:=h;obtain⟨u,rfl,f⟩:=qDR r;cases f;have j:=qLT;rcases hq with hq|hq
 ·obtain⟨d,b,c,e⟩:=I.list hq;have a:=b.length;exact Calls.call_len_list c.isList (by simp only[B5]<;>lia) ⟨.int ys.length,H,I.tok _,⟨s.toks+1,by rw[B5,a]⟩,q⟩
 ·obtain⟨d,b,c,e⟩:=I.tuple hq;have a:=b.length;exact len_tuple c (by simp only[B5]<;>lia) ⟨.int ys.length,H,I.tok _,⟨s.toks+1,by rw[B5,a]⟩,q⟩
theorem qP5:qD9 X (.type "list") (λxs H Q=>∃p ys,xs=[.ref p]/\(SqL X.K H p ys\/SqT X.K H p ys)/\∀l,H l=none->Q (.ref l) (Ag H l (.lst ys))):=by
 intro t s σ H xs x Q I r h;obtain⟨p,ys,rfl,hq,q⟩:=h;obtain⟨u,rfl,v⟩:=qDR r;cases v;have c:∀(its:List Value),Vals ys its->ys.length<=B62->∀(h':Heap) (c':Nat),(∀b o',s.heap.get? b=some o'->h'.get? b=some o')->
   h'.get? s.heap.objs.size=some {cls:=.type "list",dict:=none,data:=.seq its.toArray c',slots:=#[]}->EP X t σ Q (.ref s.heap.objs.size) {s with heap:=h'}:=λits a f h' c' d e=>
  ⟨.ref s.heap.objs.size,_,I.laid (t':=s.toks) d (A7 _) (show ObjOk X.prog X.w _ h' _ (.lst ys) from⟨f,its,c',a,e⟩),rfl,q _ (I.hok.fresh (A7 _))⟩
 rcases hq with hq|hq
 ·obtain⟨its,a,j,f⟩:=I.list hq;have g:=a.length;obtain⟨o,m,k,n,i⟩:=j.isList;exact call_list_seq p (.inl rfl) m k i (λh' c' d e=>c its a f h' c' d e) (by simp only[B5]<;>lia)
 ·obtain⟨its,a,j,f⟩:=I.tuple hq;have g:=a.length;obtain⟨o,m,k,n,i⟩:=j;exact call_list_seq p (.inr rfl) m k i (λh' c' d e=>c its a f h' c' d e) (by simp only[B5]<;>lia)
theorem qAE:qD9 X (.type "tuple") (λxs H Q=>∃p ys,xs=[.ref p]/\((SqL X.K H p ys/\∀l,H l=none->Q (.ref l) (Ag H l (.tup ys)))\/(SqT X.K H p ys/\Q (.ref p) H))):=by
 intro i s σ H xs x Q I r h;obtain⟨p,ys,rfl,h⟩:=h;obtain⟨u,rfl,v⟩:=qDR r;cases v;rcases h with⟨d,q⟩|⟨d,q⟩
 ·obtain⟨a,f,g,j⟩:=I.list d;have m:=f.length;refine call_tuple_list g.isList (λc n=>?_) (by simp only[B5]<;>lia)
  have k:Inv X i σ H {s with heap:=c}:=I.kept (t':=s.toks) n;have t:Inv X i σ (Ag H c.objs.size (.tup ys)) {s with heap:=c.push {cls:=.type "tuple",data:=.seq a.toArray}}:=
   k.laid (t':=s.toks) (λb o e=>A3 _ e) (A7 _) (show ObjOk X.prog X.w _ _ _ (.tup ys) from⟨j,a,f,IsTup.new _ _⟩)
  exact⟨.ref c.objs.size,_,t,rfl,q _ (k.hok.fresh (A7 _))⟩
 ·obtain⟨a,f,g,j⟩:=I.tuple d;exact call_tuple_same g ⟨.ref p,H,I,rfl,q⟩
def tyV (K:Ab1)(T:String)(x:V)(H:Hp):Prop:=match x with
 |.str _=>T = "str"
 |.int _=>T = "int"
 |.ref p=>(T = "list"/\∃xs,SqL K H p xs)\/(T = "tuple"/\∃o,K.lookup p=some o/\o.cls=.type "tuple"/\o.dict=none)\/
   (T = "dict"/\((∃Af,H p=some (.dK Af))\/∃Af,H p=some (.dT Af)))\/(T = "set"/\∃S n,H p=some (.set S n))
 |_=>False
theorem qaC {Ab:Aa2} {σ:St} {H:Hp} {T:String} {x:V} {v:Value} (I:Inv X Ab σ H s)(r:RelV x v)(f:tyV X.K T x H):
  s.TypeIs v T/\∀a,v=.ref a->∃ob,s.heap.get? a=some ob/\ob.dict=none:=by
 cases x with
 |str z=>
  obtain⟨t,rfl⟩:=r;cases(show T = "str" from f);exact⟨typeIs_str s z t,λ_ e=>nomatch e⟩
 |int i=>
  obtain⟨t,rfl⟩:=r;cases(show T = "int" from f);exact⟨C31 s i t,λ_ e=>nomatch e⟩
 |ref p=>
  cases r;rcases f with⟨rfl,u,k⟩|⟨rfl,o,b,m,h⟩|⟨rfl,b⟩|⟨rfl,S,n,b⟩
  ·obtain⟨l,_,j,_⟩:=I.list k;refine⟨j.isList.typeIs,λa e=>?_⟩;cases e;obtain⟨o,n,e,c,h,_⟩:=j;exact⟨o,e,h⟩
  ·refine⟨⟨o,I.kIn p o b,m⟩,λa e=>?_⟩;cases e;exact⟨o,I.kIn _ o b,h⟩
  ·have z:∃o,s.heap.get? p=some o/\o.ExactDict:=by
    rcases b with⟨q,b⟩|⟨q,b⟩
    ·obtain⟨_,_,_,_,o,_,_,e,d,_⟩:=I.hok p _ b;exact⟨o,e,d⟩
    ·obtain⟨_,_,_,_,o,_,_,e,d,_⟩:=I.hok p _ b;exact⟨o,e,d⟩
   obtain⟨o,e,d⟩:=z;refine⟨⟨o,e,d.1⟩,λa g=>?_⟩;cases g;exact⟨o,e,d.2.1⟩
  ·obtain⟨o,_,_,_,e,d,_⟩:=I.hok p _ b;refine⟨⟨o,e,d.1⟩,λa g=>?_⟩;cases g;exact⟨o,e,d.2.1⟩
 |_=>exact P9 f
def tBM0 (K:Ab1)(T:String)(r:V->List V->Hp->VK->Prop)(to:TE):TE:=λσ H Q=>to σ H λx H1=>tyV K T x H1/\r x [] H1 Q
def tBM (K:Ab1)(T:String)(r:V->List V->Hp->VK->Prop)(to:TE)(t:TA):TE:=λσ H Q=>to σ H λx H1=>tyV K T x H1/\t σ H1 λxs H2=>r x xs H2 Q
variable{o e:Expr}{es:List Expr}{to:TE}{t:TA}{name:Str}{apos cpos:Pos}{T id:String}{r:V->List V->Hp->VK->Prop}
theorem qaN (i:PlainAttrs T) (c:Slot T name id) (d:typeOf (.builtin id)=pure (.type "method_descriptor")) (f:MtR X id r) (j:PE X o to)
  (b:C38 o name X.env (eval o X.env)=eval o X.env:=by rfl) (a:(apos.endLine==cpos.line)=true:=by rfl):PE X (.Call (.Attribute o name apos) [] [] cpos) (tBM0 X.K T r to):=by
 intro e s σ H Q I h;refine wpAny_Call_method0_late b a (thn (j e s σ H _ I h) λv s1 ⟨x,H1,I1,r1,ty,q1⟩=>?_);obtain⟨g,k⟩:=qaC I1 r1 ty;exact⟨T,id,i,c,d,g,k,X7 rfl (PySem.evalArgs_none (f e s1 σ H1 x [] v [] Q I1 r1 .nil q1))⟩
theorem qOE (n:PlainAttrs T) (f:Slot T name id) (g:typeOf (.builtin id)=pure (.type "method_descriptor")) (p:MtR X id r) (l:PE X o to) (q:PA X (e::es) t)
  (c:C38 o name X.env (eval o X.env)=eval o X.env:=by rfl)
  (d:((backTo cpos (B66 (e::es) X.env)).all (fun x=>!x.1) && (backToKw cpos (C36 [] X.env)).all (fun x=>x.1.isSome)
   && decide ((e::es).length+([]:List C30).length+(if([]:List C30).isEmpty then 0 else 1)<30))=true:=by rfl)
  (b:(apos.endLine==cpos.line)=true:=by rfl) (k:B66 (e::es) X.env=(false,eval e X.env)::B66 es X.env:=by rfl) (a:(backTo cpos (B66 es X.env)).any (·.1)=false:=by rfl):
  PE X (.Call (.Attribute o name apos) (e::es) [] cpos) (tBM X.K T r to t):=by
 intro i s σ H Q I h;refine wpAny_Call_method_late c d b rfl (thn (l i s σ H _ I h) λv s1 ⟨x,H1,I1,r1,ty,q1⟩=>?_);obtain⟨m,u⟩:=qaC I1 r1 ty;refine⟨T,id,n,f,g,m,u,?_⟩;have j:=q cpos i s1 σ H1 _ I1 q1;rw[k] at j ⊢;refine X7 (by show(false||(backTo cpos (B66 es X.env)).any (·.1))=false;rw[a]<;>rfl) (l9 ?_)
 exact thn j λus s2 ⟨vs,H2,I2,r2,q2⟩=>p i s2 σ H2 x vs v us Q I2 r1 r2 q2
end
def MtM (X:Cx)(id:String)(r:V->List V->Hp->VK->Prop):Prop:=
 ∀(Ab:Aa2) (s:Shared) (σ:St) (H:Hp) (x:V) (xs:List V) (v:Value) (us:List Value) (Q:VK),Inv X Ab σ H s->RelV x v->Vals xs us->r x xs H Q->
  wpAny (model X.prog X.w) X.A (call (.builtin id) (v::us)) (EP X Ab σ Q) X.xe s
theorem Vals.one:∀{x:V} {us:List Value},Vals [x] us->∃u,us=[u]/\RelV x u
 |_,_,.cons r .nil=>⟨_,rfl,r⟩
theorem Vals.two:∀{x y:V} {us:List Value},Vals [x,y] us->∃u v,us=[u,v]/\RelV x u/\RelV y v
 |_,_,_,.cons r (.cons q .nil)=>⟨_,_,rfl,r,q⟩
theorem Vals.zero:∀{us:List Value},Vals [] us->us=[]
 |_,.nil=>rfl
theorem Vals.reverse {xs:List V} {a:List Value} (h:Vals xs a):Vals xs.reverse a.reverse:=by
 induction h with
 |nil=>exact .nil
 |cons r t ih=>rw[W1,W1];exact Vals.append ih (.cons r .nil)
theorem Vals.rep {xs:List V} {us:List Value} (h:Vals xs us):∀k:Nat,Vals (D8 k xs).flatten (D8 k us).flatten
 |0=>.nil
 |k+1=>by
  rw[M5,M5,R6,R6];exact Vals.append h (Vals.rep h k)
theorem qOU (its:List Value):∀(k:Nat) (acc:List Value),
  B37 (λx1 x2=>x1++x2) acc.toArray (D8 k its.toArray)=(acc++(D8 k its).flatten).toArray
 |0,acc=>by simp
 |k+1,acc=>by
  have e:acc.toArray++its.toArray=(acc++its).toArray:=by simp
  have e2:(acc++its)++(D8 k its).flatten=acc++(D8 (k+1) its).flatten:=by
   rw[M5,R6,F7]
  rw[<- e2,<- qOU its k (acc++its),<- e,M5,Q4]
section
variable{X:Cx}{Ab:Aa2}{σ:St}{H:Hp}{s:Shared}{l b:Addr}{xs ys zs:List V}
theorem Inv.lset {a its':List Value} {n:Nat} {f:Array Value->Array Value} {t':Nat} (I:Inv X Ab σ H s)(h:H l=some (.lst xs))
  (e:s.heap.get? l=some {cls:=.type "list",data:=.seq a.toArray n}) (b:f a.toArray=its'.toArray) (g:Vals ys its') (d:ys.length<=B62):
  Inv X Ab σ (Ag H l (.lst ys)) {s with heap:=s.heap.update l (G5 f),toks:=t'}:=by
 have q:=PySem.IsL.update e f;rw[b] at q;refine I.write (x:=l) (e:=l) (by rw[h];exact trivial) (.inl rfl) (λj u i c=>(C0 s.heap (G5 f) (F6 i)).trans c) ⟨_,q⟩ ?_
 exact⟨d,its',_,g,q⟩
theorem Inv.lnew {a:List Value} {t':Nat} (I:Inv X Ab σ H s)(b:Vals ys a)(c:ys.length<=B62):
  Inv X Ab σ (Ag H s.heap.objs.size (.lst ys)) {s with heap:=s.heap.push {cls:=.type "list",data:=.seq a.toArray},toks:=t'}:=
 I.laid (λ_ _ q=>A3 _ q) (A7 _) ⟨c,a,0,b,B3 _ rfl⟩
theorem Inv.fresh (I:Inv X Ab σ H s):H s.heap.objs.size=none:=I.hok.fresh (A7 _)
theorem Inv.lstM (I:Inv X Ab σ H s) (a:H l=some (.lst xs)):xs.length<=B62/\∃(its:List Value) (n:Nat),Vals xs its/\xs.length=its.length/\s.heap.get? l=some {cls:=.type "list",data:=.seq its.toArray n}:=by
 obtain⟨z,its,n,r,e⟩:=I.hok l _ a;exact⟨z,its,n,r,r.length,e⟩
theorem qS5 {n:Nat} (h:n<=B62):W2 n=false:=by
 unfold W2;exact decide_eq_false (by lia)
end
section
variable{X:Cx}
def qbN:V->List V->Hp->VK->Prop:=λx vs H Q=>∃l xs y,x=.ref l/\vs=[y]/\H l=some (.lst xs)/\xs.length<B62/\Q .non (Ag H l (.lst (xs++[y])))
theorem qD2:MtM X "list.append" qbN:=by
 intro j s σ H x o v i Q I f d h;obtain⟨l,g,y,rfl,rfl,b,k,q⟩:=h;cases f;obtain⟨u,rfl,c⟩:=d.one;obtain⟨z,a,n,r,m,e⟩:=I.lstM b;refine C48 F.slot_list_append ⟨_,e,rfl⟩ F.entry_list_append (F.args_list_append_2 _ _) (PySem.list_append l a.toArray n u (by rw[B5];lia)) ⟨e,?_⟩
 refine⟨.non,_,I.lset (its':=a++[u]) b e (by simp) (r.append (.cons c .nil)) ?_,rfl,q⟩
 rw[A9,B9]
 lia
def qbM:V->List V->Hp->VK->Prop:=λx vs H Q=>∃l b xs zs,x=.ref l/\vs=[.ref b]/\H l=some (.lst xs)/\H b=some (.lst zs)/\xs.length+zs.length<=B62/\Q .non (Ag H l (.lst (xs++zs)))
theorem qVV:MtM X "list.extend" qbM:=by
 intro Ab s σ H x vs v us Q I k o h;obtain⟨l,b,xs,zs,rfl,rfl,g,j,y,q⟩:=h;cases k;obtain⟨u,rfl,p⟩:=o.one;cases p;obtain⟨z,c,n,r,hl,e⟩:=I.lstM g;obtain⟨z2,a,w,m,t,i⟩:=I.lstM j;have f:c.toArray.size+a.toArray.size<=B62:=by rw[B5,B5];lia
 have d:¬(!c.toArray.isEmpty&&W2 (c.toArray.size+a.toArray.size))=true:=by
  rw[qS5 f,X5];exact C3
 refine C48 F.slot_list_extend ⟨_,e,rfl⟩ F.entry_list_extend (F.args_list_extend_2 _ _)
  (AutoSeq1.list_extend_list_list_0 l c.toArray n b a.toArray w d (by rw[B5];lia) (by lia)) ⟨e,i,?_⟩
 refine⟨.non,_,I.lset (its':=c++a) g e (by simp) (r.append m) ?_,rfl,q⟩
 rw[A9]
 lia
def qYI:V->List V->Hp->VK->Prop:=λx vs H Q=>∃l xs,x=.ref l/\vs=[]/\H l=some (.lst xs)/\Q .non (Ag H l (.lst xs.reverse))
theorem qTF:MtM X "list.reverse" qYI:=by
 intro j s σ H x m v i Q I f d h;obtain⟨l,g,rfl,rfl,c,q⟩:=h;cases f;have b:=d.zero;subst b;obtain⟨z,a,n,r,k,e⟩:=I.lstM c;refine C48 F.slot_list_reverse ⟨_,e,rfl⟩ F.entry_list_reverse (F.args_list_reverse_1 _) (AutoSeq1.list_reverse_list_0 l a.toArray n (by rw[B5];lia)) ⟨e,?_⟩
 refine⟨.non,_,I.lset (its':=a.reverse) c e (by simp) r.reverse ?_,rfl,q⟩
 rw[A67]
 lia
def rCat:R2:=λx y H Q=>∃l b xs zs,x=.ref l/\y=.ref b/\H l=some (.lst xs)/\H b=some (.lst zs)/\xs.length+zs.length<=B62/\∀p,H p=none->Q (.ref p) (Ag H p (.lst (xs++zs)))
theorem qLR:OpR X (B99 .Add) rCat:=by
 intro Ab s σ H x y v u Q I o i h;obtain⟨l,b,t,p,rfl,rfl,m,f,hz,q⟩:=h;cases o;cases i;obtain⟨z,c,n,r,hl,e⟩:=I.lstM m;obtain⟨w,a,n2,g,k,d⟩:=I.lstM f;refine PySem.P.add_list e d ?_ (by rw[B5,B5];lia)
 have j:c.toArray++a.toArray=(c++a).toArray:=by simp
 rw[j];exact⟨.ref _,_,I.lnew (t':=s.toks) (r.append g) (by rw[A9];lia),rfl,q _ I.fresh⟩
def rRep:R2:=λx y H Q=>∃l k xs,x=.ref l/\y=.int k/\H l=some (.lst xs)/\-(2^63)<=k/\k<2^63/\xs.length*k.toNat<=B62/\
 ∀p,H p=none->Q (.ref p) (Ag H p (.lst (D8 k.toNat xs).flatten))
theorem qcC {α:Type} (xs:List α)(k:Nat):(D8 k xs).flatten.length=k*xs.length:=by
 induction k with
 |zero=>simp
 |succ k ih=>rw[M5,R6,A9,ih,Nat.succ_mul,u7]
theorem qS3:OpR X (B99 .Mult) rRep:=by
 intro Ab s σ H x y v u Q I rx ry h;obtain⟨l,k,xs,rfl,rfl,hH,h1,h2,p,q⟩:=h;cases rx;obtain⟨t,rfl⟩:=ry;obtain⟨z,b,n,r,hl,e⟩:=I.lstM hH;have f:b.toArray.size*k.toNat<=B62:=by rw[B5,<- hl];exact p
 have d:¬b.toArray.size*k.toNat>(2^63-1)/8:=by
  have:(B62:Nat)<=(2^63-1)/8:=by decide
  lia
 have g:¬(!Builtin.List.listFitsIndex k)=true:=by
  rw[fitsIndex_both h1 h2];exact C3
 have c:¬W2 (b.toArray.size*k.toNat)=true:=by
  rw[qS5 f];exact C3
 have i:B37 (λo j=>o++j) #[] (D8 (if b.toArray.isEmpty=true then 0 else k.toNat) b.toArray)=(D8 k.toNat b).flatten.toArray:=by
  have w:∀m:Nat,B37 (λo j=>o++j) #[] (D8 m b.toArray)=(D8 m b).flatten.toArray:=λm=>by
   have:=qOU b m [];rw[n9] at this;exact this
  rw[w];cases b with
  |nil=>simp
  |cons a r'=>rw[if_neg (by simp)]
 refine wpAny_binaryOp_repeat_ref (T:="list") (U:="int") (by decide) ⟨_,e,rfl⟩ (λs'=>C31 s' k t) noFill_list_mul F.fills_int_mul F.slot_int_rmul repeat_list F.slot_int_index.lookup
  (C48 F.slot_int_rmul (C31 s k t) F.entry_int_rmul (F.args_int_rmul_2 _ _) (int___rmul___int_list k t l b.toArray n)
   ⟨e,rfl,⟨_,e,rfl⟩,C48 F.slot_list_mul ⟨_,e,rfl⟩ F.entry_list_mul (F.args_list_mul_2 _ _) (AutoListH.list___mul___list_int_3 l b.toArray n k t g d c) ⟨e,?_⟩⟩)
 rw[i];exact⟨.ref _,_,I.lnew (t':=s.toks) (r.rep k.toNat) (by rw[qcC,W4];exact p),rfl,q _ I.fresh⟩
end
section
variable{prog:B63}{w:World}{A:Around}{E:Aa1}{s:Shared}
set_option maxRecDepth 100000 in
end
end L2
namespace Att
open PySem PySem.W PySem.Calls PyProof.Rows
theorem qK2 {P:Params} {h:Heap} :∀(ns:List Int) (vs:List Value),WellAll P h vs (ns.map WData.int)->B68 vs ns:=by
 intro ns
 induction ns with
 |nil=>
  intro vs w;rw[A29] at w;cases w;exact .nil
 |cons n ns ih=>
  intro vs w;rw[C9] at w;cases w with
  |cons a b=>
   cases a;exact .cons _ _ (ih _ b)
theorem qV0 {l:OpenLaw} {n:Nat} (t:l.most=some n){P:Params}{h:Heap}{args:List WData}{c:List Value}
  (b:l.row.toRowW.claim.pre args=true) (j:WellAll P h c args):
  ∃a vs ns,c=[D4 a]/\args=[WData.list (ns.map WData.int)]/\h.get? a=some {cls:=.type "list",data:=.seq vs.toArray}/\B68 vs ns/\ns.length<=n:=by
 have i:WShape.hasAll [] args [.list .int]=true:=(pre_splitW b).1;have k:l.pre.holds [] {args:=args}=true:=(pre_splitW b).2;obtain⟨d,r,rfl,p,s⟩:=hasAllW_cons i;obtain rfl:=hasAllW_nil s;obtain⟨u,rfl,m⟩:=hasW_list p;obtain⟨ns,rfl⟩:=items_int m;have e:ns.length<=n:=by
  unfold OpenLaw.pre at k;have f:(WTm.not (.lt (.lit (.int (n:Int))) (.len (.arg 0)))).holds [] {args:=[.list (ns.map .int)]}=true:=by
   have f:=(holds_andW k).1;rw[t] at f;exact f
  have g:=condW_of f (w_not (w_lt w_lit (w_len_list (w_arg rfl))));rw[A0] at g;refine Z1 λq=>?_;have o:(n:Int)<((ns.length:Nat):Int):=by lia
  first
   |(rw[decide_eq_true o] at g;exact absurd g (by decide))
   |(simp at g;lia)
 cases j with
 |cons w1 w2=>
  cases w2;cases w1 with
  |list ho hall=>exact⟨_,_,ns,rfl,rfl,ho,qK2 ns _ hall,e⟩
theorem qV7 (l:OpenLaw)(args:List WData):l.row.toRowW.claim.post args (.bool true) args=true:=
 postW_of (r:=l.row.toRowW) (X:=(true==true))
  (show WShape.has [] (.bool true) .bool=true by first|rfl|decide|simp[WShape.has,WShape.arms,WShape.armsAll])
  (show(WTm.eq .res (.lit (.bool true))).value [] {args:=args,res:=some (.bool true),after:=args}=some (.bool (true==true)) from w_eq_bool (w_res rfl) w_lit) rfl
theorem attach_call {l:OpenLaw} {n:Nat} {b:List Str} {XP:(Ab0)->Heap->Prop} {YP:World->Heap->Prop} {d:DefRec} 
  (z:l.most=some n) (j:d.params.defaults=[])
  (e:∀ (w:World) (s₀ s₁:Shared) (mg mb:Ab0) (fa:Addr) (o:Obj) (pm cd doc:Value) (a:Addr) (vs:List Value) (ns:List Int),
   Ground q b [] XP w s₀ mg mb s₁.heap->YP w s₁.heap->
   s₁.heap.get? fa=some o->o.data=.func (docDef d.name d.params d.body d.scope pm cd doc)->s₁.heap.CodeRec cd d.name->mg d.name=some (.ref fa)->
   s₁.heap.get? a=some {cls:=.type "list",data:=.seq vs.toArray}->B68 vs ns->ns.length<=n->s₁.gens=#[]->
   B86 (model l.prog w) callerA (.call (.ref fa) ⟨[.ref a],[]⟩) (λr s'=>r=.ok (.ret (.bool true))/\OldK s₁.heap s'.heap/\s'.os=s₁.os/\C29 s'.gens) s₁):
  WalkO q b XP YP l.row.toRowW d [] (λf vs=>B38 f vs):=by
 intro w s₀ s₁ mg mb G Y fa o pm cd doc dV kV ho hd k v p x s t as g u a0 m a1;obtain rfl:dV=.none:=Dflts.none v j;obtain rfl:kV=.none:=Dflts.noKw v;obtain⟨a,vs,ns,rfl,rfl,h,c,i⟩:=qV0 z g m;refine enter_call (B81 (e w s₀ s₁ mg mb fa o pm cd doc a vs ns G Y ho (fd_plain hd) k p h c i x) λr s' hq=>?_);obtain⟨rfl,h2,h3,h4⟩:=hq;exact⟨.inl ⟨.bool true,.bool true,[],rfl,λ_=>rfl,.bool true,qV7 l _,λ_=>⟨List.Pairwise.nil,λ_ y=>(nomatch y)⟩⟩,h2,h3,h4⟩
end Att
namespace L2
open PySem PySem.Spec PyProof.Rows
theorem qJ4:∀{vs:List Value} {ns:List Int},B68 vs ns->Vals (ns.map V.int) vs
 |_,_,.nil=>.nil
 |_,_,.cons n t h=>.cons ⟨t,rfl⟩ (qJ4 h)
noncomputable def qDZ (s:Stmt):B95:=match s with
 |.FunctionDef _ a _ _ _ _ _ _ _ _=>a
 |_=>{posonlyargs:=[],args:=[],vararg:=none,kwonlyargs:=[],kw_defaults:=[],kwarg:=none,defaults:=[]}
noncomputable def qAZ (s:Stmt):List Stmt:=match s with
 |.FunctionDef _ _ b _ _ _ _ _ _ _=>b
 |_=>[]
noncomputable def qA8 (s:Stmt):Scope:=match s with
 |.FunctionDef _ _ _ _ _ _ sc _ _ _=>sc
 |_=>{kind:=.function,names:=[],isGenerator:=false,isCoroutine:=false}
abbrev CX0:CXT:=λ_ _ _ _ _ _=>False
abbrev E0:XK:=λ_ _ _=>False
theorem qfV {X:Cx} :qSU CX0 X E0:=λ_ _ _ _ _ _ _ h=>h.elim
structure Fun (K:Ab1)(x qual:Str)(st:Stmt)(f:Addr)(fd:B77):Prop where
 ex:∃(oc:Value) (od:Option Addr) (kV doc pm:Value) (an:Option Addr) (cdv ct:Value) (osl:Array (Option Value)),
  fd=R0 x qual (qDZ st) (qAZ st) (qA8 st) .none kV doc pm an cdv ct/\K.lookup f=some ⟨oc,od,.func fd,osl⟩/\X4 K cdv qual=true
 kp:J4 K (.ref f)=true
section
variable{P:B63}{w:World}{K:Ab1}{mg:Ab0}{base:Heap}
theorem Fun.ok {x a:Str} {st:Stmt} {f:Addr} {g:B77} {N ps:List Str} {k:Nat} {sp:Sp} (F:Fun K x a st f g)(S:FnScope N ps (qA8 st))(c:∀vs H Q E,sp vs H Q E->vs.length=ps.length)
  (b:∀ (cdv:Value) (A:Around) (outer:List Env) (s:Shared) (H:Hp) (vs:List V) (Q:VK) (E:XK),Room k (A.deeper (envOfC a (qA8 st) s.heap.objs.size f cdv))->sp vs H Q E->
   ∃t,PSs (cxOf CX0 P w K mg base N a (qA8 st) f cdv A outer s H E).nox (qAZ st) t/\t {nx:=λ_ H'=>Q .non H',rt:=Q} (start N vs) H):FnOk P w K mg base CX0 (k+1) f g ps sp:=by
 obtain⟨p,r,o,j,v,n,cdv,u,i,rfl,m,d⟩:=F.ex;refine qcM m d S c λA outer s H vs Q E l e=>?_;obtain⟨t,h,q⟩:=b cdv A outer s H vs Q E l e;exact⟨t,h.nox,q⟩
theorem Fun.binds {x a:Str} {st:Stmt} {f:Addr} {b:B77} {ps:List Str} (F:Fun K x a st f b)
  (h:∀(kV doc pm:Value) (an:Option Addr) (cdv ct:Value) (us:List Value),us.length=ps.length->C04 (R0 x a (qDZ st) (qAZ st) (qA8 st) .none kV doc pm an cdv ct) ⟨us,[]⟩=pure (ps.zip us)):Binds K b ps []:=by
 obtain⟨e,g,kV,doc,pm,an,cdv,ct,c,rfl,i,d⟩:=F.ex;exact .all (h kV doc pm an cdv ct)
theorem fun_mk {x a:Str} {st:Stmt} {f:Addr} {m:Value} {n g:Option Addr} {e:Array (Option Value)} {h d j b i:Value} (l:K.lookup f=some ⟨m,n,.func (R0 x a (qDZ st) (qAZ st) (qA8 st) .none h d j g b i),e⟩)
  (c:X4 K b a=true) (k:J4 K (.ref f)=true):Fun K x a st f (R0 x a (qDZ st) (qAZ st) (qA8 st) .none h d j g b i):=⟨⟨m,n,h,d,j,g,b,i,e,rfl,l,c⟩,k⟩
end
theorem qID {A:Around} {k:Nat} (a:Room k A):A.units+1<cLine:=T4 (Nat.add_le_add_left (by decide:1<=64) _) a.units
theorem qAI {n:Nat} (h:n<=1000):n<B62:=T4 h (by decide)
variable{X:Cx}
theorem pv (i:Nat) {x:Str} {pos:Pos} (c:X.N[i]?=some x:=by rfl) (b:Vis X.env.scope x:=by first|exact E9 rfl|exact A30 (E9 rfl)|exact A30 (A30 rfl)) (a:(x==("__debug__" : Str))=false:=by decide)
  (hcd:(x==("__classdict__" : Str))=false:=by decide):PE X (.Name x pos) (tVar i):=qe4 c b a hcd
theorem iteF {A B:Prop} (h:B):if false=true then A else B:=by
 rw[if_neg C3];exact h
theorem iteT {A B:Prop} (h:A):if true=true then A else B:=by
 rw[if_pos rfl];exact h
theorem ite2 {c A B:Prop} [Decidable c](a:c->A)(b:¬c->B):if c then A else B:=by
 by_cases h:c
 ·rw[if_pos h];exact a h
 ·rw[if_neg h];exact b h
def Same (H H':Hp):Prop:=∀b o,H b=some o->H' b=some o
theorem Same.refl (H:Hp):Same H H:=λ_ _ h=>h
theorem Same.trans {H H1 H2:Hp} (a:Same H H1)(b:Same H1 H2):Same H H2:=λc o h=>b c o (a c o h)
theorem Same.free {H H':Hp} (e:Same H H'){l:Addr}(h:H' l=B56):H l=B56:=by
 cases q:H l with
 |none=>rfl
 |some o=>
  rw[e l o q] at h;cases h
section
variable{κ:Type}[DecidableEq κ]
noncomputable def valV (Af:List (κ×V))(k:κ):Option V:=(Af.find? λkv=>decide (kv.1=k)).map (·.2)
noncomputable def putK (Af:List (κ×V))(k:κ)(v:V):List (κ×V):=
 if(Af.any λkv=>decide (kv.1=k))=true then Af.map (λkv=>if kv.1=k then(kv.1,v) else kv) else Af++[(k,v)]
noncomputable def qOY (Af:List (κ×V))(k:κ):List (κ×V):=Af.filter λkv=>decide (kv.1≠k)
theorem qB7 {p:κ×V} {r:List (κ×V)} {k:κ} (e:p.1=k):valV (p::r) k=some p.2:=by simp[valV,X9,e]
theorem qB1 {p:κ×V} {r:List (κ×V)} {k:κ} (e:¬p.1=k):valV (p::r) k=valV r k:=by simp[valV,X9,e]
theorem qFY (k:κ):∀Af:List (κ×V),(Af.any λkv=>decide (kv.1=k))=(valV Af k).isSome
 |[]=>rfl
 |p::r=>by
  rw[Y3];by_cases e:p.1=k
  ·simp only[qB7 e,decide_eq_true e,Bool.true_or,Option.isSome_some]
  ·rw[qB1 e,decide_eq_false e,Bool.false_or];exact qFY k r
theorem qRC (k j:κ)(y:V):∀Af:List (κ×V),valV (Af.map λkv=>if kv.1=k then(kv.1,y) else kv) j=(valV Af j).map λx=>if j=k then y else x
 |[]=>rfl
 |p::r=>by
  have ih:=qRC k j y r;rw[C9];by_cases h:p.1=k
  ·rw[if_pos h];by_cases e:p.1=j
   ·rw[qB7 (p:=(p.1,y)) e,qB7 e,T0,if_pos (e.symm.trans h)]
   ·rw[qB1 (p:=(p.1,y)) e,qB1 e,ih]
  ·rw[if_neg h];by_cases e:p.1=j
   ·rw[qB7 (p:=p) e,qB7 e,T0,if_neg (λz=>h (e.trans z))]
   ·rw[qB1 (p:=p) e,qB1 e,ih]
theorem qNP (k j:κ)(y:V):∀Af:List (κ×V),valV Af k=none->valV (Af++[(k,y)]) j=if j=k then some y else valV Af j
 |[],_=>by
  by_cases e:k=j
  ·rw[if_pos e.symm];exact qB7 (p:=(k,y)) e
  ·rw[if_neg (λz=>e z.symm)];exact qB1 (p:=(k,y)) e
 |p::r,hn=>by
  rw[B07];have hk:¬p.1=k:=λz=>by rw[qB7 z] at hn;cases hn
  rw[qB1 hk] at hn;have ih:=qNP k j y r hn;by_cases e:p.1=j
  ·rw[qB7 e,qB7 e,if_neg (λz=>hk (e.trans z))]
  ·rw[qB1 e,qB1 e,ih]
theorem qRB (Af:List (κ×V))(k j:κ)(y:V):valV (putK Af k y) j=if j=k then some y else valV Af j:=by
 unfold putK;by_cases a:(Af.any λb=>decide (b.1=k))=true
 ·rw[if_pos a,qRC];rw[qFY] at a;by_cases e:j=k
  ·obtain⟨x,c⟩:=Z5.mp a;rw[if_pos e,e,c,T0,if_pos rfl]
  ·rw[if_neg e];cases valV Af j with
   |none=>rfl
   |some x=>rw[T0,if_neg e]
 ·rw[if_neg a];refine qNP k j y Af ?_;rw[qFY] at a;cases q:valV Af k with
  |none=>rfl
  |some x=>rw[q] at a;exact(a rfl).elim
theorem qCM (Af:List (κ×V))(k:κ)(v:V):(putK Af k v).length<=Af.length+1:=by
 unfold putK
 split
 ·rw[A0];lia
 ·rw[A9,C6,J6];lia
theorem qMN {Af:List (κ×V)} {k:κ} (v:V)(h:valV Af k=none):putK Af k v=Af++[(k,v)]:=by
 unfold putK;rw[qFY,h];exact if_neg (by decide)
theorem RelO.isSome_eq {o:Option V} {u:Option Value} (r:RelO o u):o.isSome=u.isSome:=by
 cases o with
 |none=>cases u with
  |none=>rfl
  |some _=>exact(show False from r).elim
 |some _=>cases u with
  |none=>exact(show False from r).elim
  |some _=>rfl
theorem KV.val {Af:List (κ×V)} {vs:List (κ×Value)} (r:KV Af vs)(k:κ):RelO (valV Af k) (valueAt vs k):=by
 unfold KV at r
 induction r with
 |nil=>exact Z6
 |@cons p q ps qs h t ih=>
  obtain⟨c,d⟩:=h;by_cases e:p.1=k
  ·have a:q.1=k:=c.symm.trans e;have b:valueAt (q::qs) k=some q.2:=by simp[valueAt,X9,a]
   rw[qB7 e,b];exact d
  ·have a:¬q.1=k:=λz=>e (c.trans z);have b:valueAt (q::qs) k=valueAt qs k:=by simp[valueAt,X9,a]
   rw[qB1 e,b];exact ih
theorem KV.any {Af:List (κ×V)} {vs:List (κ×Value)} (r:KV Af vs)(k:κ):(Af.any λkv=>decide (kv.1=k))=vs.any λkv=>decide (kv.1=k):=by
 unfold KV at r
 induction r with
 |nil=>rfl
 |cons h t ih=>rw[Y3,Y3,ih,h.1]
theorem KV.repl {Af:List (κ×V)} {vs:List (κ×Value)} (r:KV Af vs)(k:κ){y:V}{u:Value}(b:RelV y u):
  KV (Af.map λkv=>if kv.1=k then(kv.1,y) else kv) (vs.map λkv=>if kv.1=k then(kv.1,u) else kv):=by
 unfold KV at r ⊢
 induction r with
 |nil=>exact .nil
 |@cons p q ps qs h t ih=>
  rw[C9,C9];refine .cons ?_ ih;obtain⟨a,c⟩:=h;by_cases e:p.1=k
  ·rw[if_pos e,if_pos (a.symm.trans e)];exact⟨a,b⟩
  ·rw[if_neg e,if_neg (λz=>e (a.trans z))];exact⟨a,c⟩
theorem KV.put {Af:List (κ×V)} {vs:List (κ×Value)} (r:KV Af vs)(k:κ){y:V}{u:Value}(a:RelV y u):KV (putK Af k y) (stored vs k u):=by
 unfold putK stored;rw[r.any k];by_cases e:(vs.any λb=>decide (b.1=k))=true
 ·rw[if_pos e,if_pos e];exact r.repl k a
 ·rw[if_neg e,if_neg e];exact U3 r ⟨rfl,a⟩
theorem KV.drop {Af:List (κ×V)} {vs:List (κ×Value)} (r:KV Af vs)(k:κ):KV (qOY Af k) (without vs k):=by
 unfold KV at r ⊢;unfold qOY without
 induction r with
 |nil=>exact .nil
 |@cons p q ps qs h t ih=>
  obtain⟨c,d⟩:=h;rw[L5,L5];by_cases e:p.1=k
  ·have a:¬decide (p.1≠k)=true:=by simp[e]
   have b:¬decide (q.1≠k)=true:=by simp[c.symm.trans e]
   rw[if_neg a,if_neg b];exact ih
  ·have f:¬q.1=k:=λz=>e (c.trans z);have a:decide (p.1≠k)=true:=by simp[e]
   have b:decide (q.1≠k)=true:=by simp[f]
   rw[if_pos a,if_pos b];exact .cons ⟨c,d⟩ ih
theorem KV.keys {Af:List (κ×V)} {vs:List (κ×Value)} (r:KV Af vs):Af.map (·.1)=vs.map (·.1):=by
 unfold KV at r
 induction r with
 |nil=>rfl
 |cons h t ih=>rw[C9,C9,ih,h.1]
theorem KV.length {Af:List (κ×V)} {vs:List (κ×Value)} (r:KV Af vs):Af.length=vs.length:=C2 r
theorem qSL (Af:List (κ×V))(k:κ):(qOY Af k).length<=Af.length:=M6 _ _
end
theorem qOP {k:Key} {u:Value} (r:RelV (kV k) u):(qAT P w).is k u=true:=by
 cases k with
 |inl i=>obtain⟨t,e⟩:=(show∃t,u=O9 i t from r);subst e;exact qQG P w i t
 |inr x=>obtain⟨t,e⟩:=(show∃t,u=B16 x t from r);subst e;exact qQF P w x t
theorem qOQ :∀{ks:List Key} {us:List Value},Vals (ks.map kV) us->ItemsAre (qAT P w) ks us
 |[],_,r=>by rw[A29] at r;cases r;exact .nil
 |k::ks,_,r=>by
  rw[C9] at r;cases r with
  |cons h t=>exact .cons (qOP h) (qOQ t)
abbrev KT (H:Hp):List (List Key×V)->List (List Key×Addr×Value)->Prop:=Paired λp q=>p.1=q.1/\H q.2.1=some (.tup (p.1.map kV))/\RelV p.2 q.2.2
theorem KT.val {H:Hp} {Af:List (List Key×V)} {xs:List (List Key×Addr×Value)} (r:KT H Af xs)(k:List Key):RelO (valV Af k) ((atKey xs k).map (·.2)):=by
 induction r with
 |nil=>exact Z6
 |@cons p q ps qs h t ih=>
  obtain⟨c,_,d⟩:=h;by_cases e:p.1=k
  ·have a:q.1=k:=c.symm.trans e;have b:atKey (q::qs) k=some q.2:=by simp[atKey,X9,a]
   rw[qB7 e,b];exact d
  ·have a:¬q.1=k:=λz=>e (c.trans z);have b:atKey (q::qs) k=atKey qs k:=by simp[atKey,X9,a]
   rw[qB1 e,b];exact ih
theorem KT.repl {H:Hp} {Af:List (List Key×V)} {xs:List (List Key×Addr×Value)} (r:KT H Af xs)(k:List Key){y:V}{u:Value}(c:RelV y u):
  KT H (Af.map λkv=>if kv.1=k then(kv.1,y) else kv) (xs.map (putAt k u)):=by
 induction r with
 |nil=>exact .nil
 |@cons p q ps qs h t ih=>
  rw[C9,C9];refine .cons ?_ ih;obtain⟨a,b,d⟩:=h;unfold putAt;by_cases e:p.1=k
  ·rw[if_pos e,if_pos (a.symm.trans e)];exact⟨a,b,c⟩
  ·rw[if_neg e,if_neg (λz=>e (a.trans z))];exact⟨a,b,d⟩
theorem KT.put {H:Hp} {Af:List (List Key×V)} {xs:List (List Key×Addr×Value)} (r:KT H Af xs)(k:List Key){b:Addr}{y:V}{u:Value}(d:H b=some (.tup (k.map kV)))(a:RelV y u):
  KT H (putK Af k y) (storedH xs k b u):=by
 have e:(Af.any λc=>decide (c.1=k))=(atKey xs k).isSome:=by
  rw[qFY,(r.val k).isSome_eq,d8]
 unfold putK storedH;rw[e];by_cases q:(atKey xs k).isSome=true
 ·rw[if_pos q,if_pos q];exact r.repl k a
 ·rw[if_neg q,if_neg q];exact U3 r ⟨rfl,d,a⟩
theorem KT.keeps {H H':Hp} {Af:List (List Key×V)} {xs:List (List Key×Addr×Value)} (r:KT H Af xs)(a:∀b ys,H b=some (.tup ys)->H' b=some (.tup ys)):KT H' Af xs:=
 Paired.mapP r λ_ _ z=>⟨z.1,a _ _ z.2.1,z.2.2⟩
section
variable{P:B63}{w:World}{H:Hp}{h:Heap}{a:Addr}
theorem qdW {u:HO} (ok:HOk P w H h)(e:Rd H a u):ObjOk P w H h a u:=e.ok ok
theorem qU0 {Af:List (Key×V)} (b:HOk P w H h)(e:Rd H a (.dK Af)):Af.length<=B62/\(a==B85)=false/\∃vs,KV Af vs/\h.DictOf (qAT P w) a vs:=
 show ObjOk P w H h a (.dK Af) from qdW b e
theorem qQV {Af:List (Key×V)} (b:HOk P w H h)(e:H a=some (.dK Af)):Af.length<=B62/\(a==B85)=false/\∃vs,KV Af vs/\h.DictOf (qAT P w) a vs:=qU0 b (.inl e)
theorem qLW {ks:List Key} (c:HOk P w H h)(e:H a=some (.tup (ks.map kV))):(C42 (qAT P w)).is h ks a:=by
 obtain⟨_,b,r,o,f,g,n,d⟩:=(show ObjOk P w H h a (.tup (ks.map kV)) from c a _ e);exact⟨o,b.toArray,n,f,g,d,by simpa using qOQ r⟩
theorem qTZ {Af:List (List Key×V)} (c:HOk P w H h)(e:Rd H a (.dT Af)):Af.length<=B62/\(a==B85)=false/\
  ∃xs,KT H Af xs/\h.DictOfH (C42 (qAT P w)) a xs:=by
 obtain⟨z,y,xs,r,o,k,g,j,n,i,d,f⟩:=(show ObjOk P w H h a (.dT Af) from qdW c e);refine⟨z,y,xs,r,o,k,g,j,n,i,d,λx hx=>?_,f⟩;have b:∀{l:List (List Key×V)} {m:List (List Key×Addr×Value)},KT H l m->∀x∈m,(C42 (qAT P w)).is h x.1 x.2.1:=by
  intro l m q
  induction q with
  |nil=>intro x hx;exact nomatch hx
  |@cons p q ps qs hq t ih=>
   intro x hx;rcases B1.mp hx with e|hx
   ·subst e;exact qLW c (by rw[<- hq.1];exact hq.2.1)
   ·exact ih x hx
 exact b r x hx
theorem qeT {Af:List (List Key×V)} (b:HOk P w H h)(e:H a=some (.dT Af)):Af.length<=B62/\(a==B85)=false/\
  ∃xs,KT H Af xs/\h.DictOfH (C42 (qAT P w)) a xs:=qTZ b (.inl e)
end
def DGet (H:Hp)(a:Addr)(y:V)(r:Option V):Prop:=
 (∃Af k,Rd H a (.dK Af)/\y=kV k/\r=valV Af k)\/∃Af k b,Rd H a (.dT Af)/\y=.ref b/\H b=some (.tup (k.map kV))/\r=valV Af k
def DPut (H:Hp)(a:Addr)(y v:V)(H':Hp):Prop:=
 (∃Af k,H a=some (.dK Af)/\y=kV k/\Af.length<B62/\H'=Ag H a (.dK (putK Af k v)))\/
 ∃Af k b,H a=some (.dT Af)/\y=.ref b/\H b=some (.tup (k.map kV))/\Af.length<B62/\H'=Ag H a (.dT (putK Af k v))
theorem DGet.k {H:Hp} {a:Addr} {Af:List (Key×V)} {k:Key} (e:H a=some (.dK Af)):DGet H a (kV k) (valV Af k):=.inl ⟨Af,k,.inl e,rfl,rfl⟩
theorem DPut.k {H:Hp} {a:Addr} {Af:List (Key×V)} {k:Key} {v:V} (e:H a=some (.dK Af))(b:Af.length<B62):DPut H a (kV k) v (Ag H a (.dK (putK Af k v))):=.inl ⟨Af,k,e,rfl,b,rfl⟩
section
variable{X:Cx}{Ab:Aa2}{σ:St}{H:Hp}{s:Shared}{a:Addr}{y v:V}{u r:Value}{o:Option V}{A:Around}{E:Aa1}
theorem Inv.big (I:Inv X Ab σ H s):B85<s.heap.objs.size:=by
 have h:B74<s.heap.objs.size:=(I.mod.glob.keeps I.bk).lt;exact Z7 (by decide) h
theorem qXI {Q:Aa1} (t:A.units+1<cLine)(I:Inv X Ab σ H s)(g:DGet H a y (some v))(n:RelV y u)(h:∀w' s',Inv X Ab σ H s'->RelV v w'->Q w' s'):
  wpAny (model X.prog X.w) A (C22 (.ref a) u) Q E s:=by
 rcases g with⟨r,k,e,f,l⟩|⟨r,k,b,e,f,eb,l⟩
 ·subst f;obtain⟨z,x,vs,c,m⟩:=qU0 I.hok e;obtain⟨w',j,d⟩:=RelO.some_of (v:=v) (o:=valueAt vs k) (by rw[l];exact c.val k)
  exact wpAny_getItem_of (qOP n) m.mapOf j (h w' _ (I.tok _) d)
 ·subst f;cases(show u=D4 b from n);obtain⟨z,x,q,c,m⟩:=qTZ I.hok e;obtain⟨w',j,d⟩:=RelO.some_of (v:=v) (o:=(atKey q k).map (·.2)) (by rw[l];exact c.val k)
  obtain⟨p,hp,i⟩:=A23.mp j;refine wpAny_getItem_heap (C27 t) (qLW I.hok eb) m hp ?_;rw[i];exact h w' _ (I.tok _) d
theorem d_in {Q:Aa1} (m:A.units+1<cLine)(I:Inv X Ab σ H s)(g:DGet H a y o)(j:RelV y u)(h:∀s',Inv X Ab σ H s'->Q (.bool o.isSome) s'):
  wpAny (model X.prog X.w) A (B80 .In u (.ref a)) Q E s:=by
 rcases g with⟨n,k,e,f,l⟩|⟨n,k,b,e,f,p,l⟩
 ·subst f;obtain⟨z,i,t,c,d⟩:=qU0 I.hok e;refine wpAny_in_of (qOP j) i d.mapOf ?_;rw[<- (c.val k).isSome_eq,<- l];exact h _ (I.tok _)
 ·subst f;cases(show u=D4 b from j);obtain⟨z,i,r,c,d⟩:=qTZ I.hok e;refine wpAny_in_heap (C27 m) (qLW I.hok p) i d ?_;have q:=(c.val k).isSome_eq;rw[d8] at q;rw[<- q,<- l];exact h _ (I.tok _)
theorem qcV {Q:Aa1} (m:A.units+1<cLine)(I:Inv X Ab σ H s)(g:DGet H a y o)(j:RelV y u)(h:∀s',Inv X Ab σ H s'->Q (.bool (!o.isSome)) s'):
  wpAny (model X.prog X.w) A (B80 .NotIn u (.ref a)) Q E s:=by
 rcases g with⟨n,k,e,f,l⟩|⟨n,k,b,e,f,p,l⟩
 ·subst f;obtain⟨z,i,t,c,d⟩:=qU0 I.hok e;refine wpAny_notIn_of (qOP j) i d.mapOf ?_;rw[<- (c.val k).isSome_eq,<- l];exact h _ (I.tok _)
 ·subst f;cases(show u=D4 b from j);obtain⟨z,i,r,c,d⟩:=qTZ I.hok e;refine wpAny_notIn_heap (C27 m) (qLW I.hok p) i d ?_;have q:=(c.val k).isSome_eq;rw[d8] at q;rw[<- q,<- l];exact h _ (I.tok _)
theorem qHX {h':Heap} {t':Nat} {c:HO} (I:Inv X Ab σ H s)(h:Mut (H a))(f:Heap.SameBut a s.heap h')(g:∃q,h'.get? a=some q)(d:ObjOk X.prog X.w (Ag H a c) h' a c):
  Inv X Ab σ (Ag H a c) {s with heap:=h',toks:=t'}:=
 I.write (x:=a) (e:=a) h (.inl rfl) (λb q i z=>(f.2 b i).trans z) g d
theorem qOZ {H':Hp} {h':Heap} {Af:List (Key×V)} {vs:List (Key×Value)} (z:Af.length<=B62)(c:(a==B85)=false)(b:KV Af vs)(d:h'.DictOf (qAT P w) a vs):
  ObjOk P w H' h' a (.dK Af):=⟨z,c,vs,b,d⟩
theorem qXH {H':Hp} {Q:Unit->Shared->Prop} (hu:A.units+1<cLine)(I:Inv X Ab σ H s)(g:DPut H a y v H')(ry:RelV y u)(rv:RelV v r)(h:∀s',Inv X Ab σ H' s'->Q () s'):
  wpAny (model X.prog X.w) A (setItem (.ref a) u r) Q E s:=by
 rcases g with⟨i,k,e,o,l,t⟩|⟨i,k,b,e,o,eb,l,t⟩
 ·subst o t;obtain⟨z,x,vs,d,n⟩:=qQV I.hok e;have m:vs.length<=B62:=by rw[<- d.length];exact z
  have p:(putK i k v).length<=B62:=by have:=qCM i k v;lia
  refine wpAny_setItem_pairs (hsz:=m) (qOP ry) n λh' f j=>h _ ?_;have he:∃q,h'.get? a=some q:=let⟨q,_,_,hq,_⟩:=f;⟨q,hq⟩
  exact qHX I (by rw[e];exact Z6) j he (qOZ p x (d.put k rv) f)
 ·subst o t;cases(show u=D4 b from ry);obtain⟨z,x,xs,d,n⟩:=qeT I.hok e;have m:xs.length<=B62:=by rw[<- C2 d];exact z
  have p:(putK i k v).length<=B62:=by have:=qCM i k v;lia
  refine wpAny_setItem_heap (hsz:=m) (C27 hu) (qLW I.hok eb) n λh' f j=>h _ ?_;obtain⟨q,es,ep,hq,h2,h3,h4,_,h5⟩:=f;refine qHX I (by rw[e];exact Z6) j ⟨q,hq⟩ ⟨p,x,_,(d.put k eb rv).keeps λc ys ec=>?_,q,es,ep,hq,h2,h3,h4,h5⟩
  rw[qA7 (qC6 ec e (λz=>nomatch z))];exact ec
end
section
variable{X:Cx}{Ab:Aa2}{σ:St}{H:Hp}{s:Shared}{a:Addr}{Af:List (Key×V)}{k:Key}{u:Value}{A:Around}{E:Aa1}
theorem qeU {Q:Unit->Shared->Prop} (I:Inv X Ab σ H s)(e:H a=some (.dK Af))(j:RelV (kV k) u)(l:(valV Af k).isSome=true)(h:∀s',Inv X Ab σ (Ag H a (.dK (qOY Af k))) s'->Q () s'):
  wpAny (model X.prog X.w) A (delItem (.ref a) u) Q E s:=by
 obtain⟨z,i,n,b,d⟩:=qQV I.hok e;refine wpAny_delItem_slot d.typeIs (by decide) y1
  (call_meetsIn y1 d.typeIs PySem.F.entry_dict_delitem (PySem.F.args_dict_delitem_2 _ _) (meets_dict_delitem_pairs (qAT X.prog X.w) a (qOP j)) ⟨n,d,by rw[<- b.length];exact z,by rw[<- (b.val k).isSome_eq];exact l,λm c f=>h _ ?_⟩)
 have g:∃q,m.get? a=some q:=let⟨q,_,_,hq,_⟩:=c;⟨q,hq⟩
 exact qHX I (by rw[e];exact Z6) f g (qOZ (F3 (qSL Af k) z) i (b.drop k) c)
theorem qgD {v:V} {b:List Value} {Q:Aa1} (I:Inv X Ab σ H s)(e:H a=some (.dK Af))(f:RelV (kV k) u)(l:valV Af k=some v)(j:b=[]\/∃x,b=[x])
  (h:∀w' s',Inv X Ab σ (Ag H a (.dK (qOY Af k))) s'->RelV v w'->Q w' s'):wpAny (model X.prog X.w) A (call (.builtin "dict.pop") (.ref a::u::b)) Q E s:=by
 obtain⟨z,y,n,c,m⟩:=qQV I.hok e;obtain⟨w',hw,g⟩:=RelO.some_of (v:=v) (o:=valueAt n k) (by rw[<- l];exact c.val k)
 have hp:(keyPart u).isSome=true:=by
  cases k with
  |inl i=>obtain⟨t,q⟩:=(show∃t,u=O9 i t from f);subst q;rfl
  |inr x=>obtain⟨t,q⟩:=(show∃t,u=B16 x t from f);subst q;rfl
 have ha:argsOk "dict.pop" ⟨.ref a::u::b,[]⟩:=by
  rcases j with q|⟨x,q⟩
  ·subst q;exact PySem.F.args_dict_pop_2 _ _
  ·subst q;exact PySem.F.args_dict_pop_3 _ _ _
 refine call_meetsIn A31 m.typeIs PySem.F.entry_dict_pop ha (meets_dict_pop_there (qAT X.prog X.w) a (qOP f) b j hp)
  ⟨n,w',m,by rw[<- c.length];exact z,hw,λh' d p=>h w' _ ?_ g⟩
 have r:∃q,h'.get? a=some q:=let⟨q,_,_,hq,_⟩:=d;⟨q,hq⟩
 exact qHX I (by rw[e];exact Z6) p r (qOZ (F3 (qSL Af k) z) y (c.drop k) d)
end
def NoSl (i:Expr):Prop:=∀ov iv,subscripted i false ov iv=operate [ov,iv] (C22 ov iv)
theorem qbH {env:Env} {b a:Expr} {pos:Pos} {T id:String} {Q:Aa1} 
  (k:typeLookup (.type T) "__getitem__" = pure (some (.builtin id))) (g:NoSl a)
  (h:wpAny (model prog w) A (eval b env) (λo s₁=>wpAny (model prog w) A (eval a env) (λi s₂=>s₂.TypeIs o T/\wpAny (model prog w) A (C22 o i) Q E s₂) E s₁) E s):
  wpAny (model prog w) A (eval (.Subscript b a pos) env) Q E s:=by
 refine Subscript_ (B69 h (λo s₁ l=>B69 l (λi s₂ d=>?_) λ_ _ x=>x) λ_ _ x=>x);obtain⟨f,d⟩:=d;unfold subscriptTail;refine B60 ?_;rw[getitemInPython_of_ne f.not_modules];refine B60 (wpAny_specialOf f k ?_);have c:wpAny (model prog w) A (subscripted a false o i) (λr e=>wpAny (model prog w) A (letTemporaryGo b o r >>= λ_=>pure r) Q E e) E s₂:=by
  rw[g o i];exact wpAny_operating (B69 d (λr e j=>B60 (wpAny_letTemporaryGo (B61 j))) λ_ _ x=>x)
 first
  |exact B61 (B60 c)
  |exact B60 (B61 (B60 c))
  |exact B60 c
theorem qQW {X:Cx} {Ab:Aa2} {σ:St} {H:Hp} {s:Shared} {a:Addr} {y:V} {o:Option V} (I:Inv X Ab σ H s) (g:DGet H a y o):s.TypeIs (.ref a) "dict":=by
 rcases g with⟨d,k,e,_,_⟩|⟨d,k,b,e,_,_,_⟩
 ·obtain⟨_,_,h,_,c⟩:=qU0 I.hok e;exact c.typeIs
 ·obtain⟨_,_,f,_,c⟩:=qTZ I.hok e;exact c.typeIs
def qfE (td ty:TE):TE:=λσ H Q=>td σ H λx H1=>ty σ H1 λy H2=>∃a v,x=.ref a/\DGet H2 a y (some v)/\Q v H2
def tDIn (ty td:TE):TE:=λσ H Q=>ty σ H λy H1=>td σ H1 λx H2=>∃a o,x=.ref a/\DGet H2 a y o/\Q (.bl o.isSome) H2
def qbG (ty td:TE):TE:=λσ H Q=>ty σ H λy H1=>td σ H1 λx H2=>∃a o,x=.ref a/\DGet H2 a y o/\Q (.bl (!o.isSome)) H2
def qfK (td ty tv:TE):TS:=λD σ H=>tv σ H λv H1=>td σ H1 λx H2=>ty σ H2 λy H3=>∃a H4,x=.ref a/\DPut H3 a y v H4/\D.nx σ H4
section
variable{X:Cx}{o i e value:Expr}{pos pos' tpos:Pos}{td ty tv:TE}
theorem qCB (e:X.A.units+1<cLine)(f:PE X o td)(hi:PE X i ty)(d:NoSl i):PE X (.Subscript o i pos) (qfE td ty):=by
 intro c s σ H Q I h;refine qbH PySem.F.slot_dict_getitem.lookup d (thn (f c s σ H _ I h) λu s1 ⟨x,H1,I1,rx,q1⟩=>thn (hi c s1 σ H1 _ I1 q1) λiv s2 ⟨y,H2,I2,ry,a,v,ex,g,q2⟩=>?_);subst ex;obtain rfl:u=D4 a:=rx;exact⟨qQW I2 g,qXI e I2 g ry λk l j b=>⟨v,H2,j,b,q2⟩⟩
theorem qVH (c:X.A.units+1<cLine)(hi:PE X i ty)(d:PE X o td):PC X .In i o (tDIn ty td):=by
 intro b s σ H Q I h;refine thn (hi b s σ H _ I h) λiv s1 ⟨y,H1,I1,ry,q1⟩=>thn (d b s1 σ H1 _ I1 q1) λu s2 ⟨x,H2,I2,rx,a,ov,ex,g,q2⟩=>?_;subst ex;obtain rfl:u=D4 a:=rx;exact d_in c I2 g ry λf e=>⟨.bl ov.isSome,H2,e,rfl,q2⟩
theorem qOF (c:X.A.units+1<cLine)(hi:PE X i ty)(d:PE X o td):PC X .NotIn i o (qbG ty td):=by
 intro b s σ H Q I h;refine thn (hi b s σ H _ I h) λiv s1 ⟨y,H1,I1,ry,q1⟩=>thn (d b s1 σ H1 _ I1 q1) λu s2 ⟨x,H2,I2,rx,a,ov,ex,g,q2⟩=>?_;subst ex;obtain rfl:u=D4 a:=rx;exact qcV c I2 g ry λf e=>⟨.bl (!ov.isSome),H2,e,rfl,q2⟩
theorem qFD (d:X.A.units+1<cLine)(j:PE X o td)(hi:PE X i ty)(f:PE X value tv)(c:swapsWith value (some (.Subscript o i pos')) pos.line X.env=pure false):
  PS X (.Assign [.Subscript o i pos'] value pos) (qfK td ty tv):=by
 intro b s σ H D I h;refine wpAny_Assign_Subscript (thn (f b s σ H _ I h) λr s1 ⟨v,H1,I1,rv,q1⟩=>thn (j b s1 σ H1 _ I1 q1) λu s2 ⟨x,H2,I2,rx,q2⟩=>thn (hi b s2 σ H2 _ I2 q2) λiv s3 ⟨y,H3,I3,ry,a,H4,ex,g,q3⟩=>?_) c;subst ex;obtain rfl:u=D4 a:=rx;exact qXH d I3 g ry rv λk e=>⟨σ,H4,e,q3⟩
end
theorem qSM {H:Hp} (h:Heap) (a:B85<h.objs.size):ObjOk P w H (h.push {cls:=.type "dict",data:=.dict #[]}) h.objs.size (.dK []):=
 ⟨E2 _,beq_eq_false_iff_ne.mpr (F6 (C4 a)),[],.nil,B21 h⟩
theorem qa4 {H:Hp} (h:Heap) (a:B85<h.objs.size):ObjOk P w H (h.push {cls:=.type "dict",data:=.dict #[]}) h.objs.size (.dT []):=
 ⟨E2 _,beq_eq_false_iff_ne.mpr (F6 (C4 a)),[],.nil,_,#[],0,B3 _ rfl,⟨rfl,rfl,rfl⟩,rfl,rfl,y3⟩
def qdI:TE:=λ_ H Q=>∀p,H p=none->Q (.ref p) (Ag H p (.dK []))
section
variable{X:Cx}{pos:Pos}
theorem qGV:PE X (.Dict [] [] pos) qdI:=λb s σ H Q I h=>
 wpAny_Dict_empty ⟨.ref s.heap.objs.size,_,I.laid (a:=s.heap.objs.size) (o:=.dK []) (t':=s.toks) (λ_ _ q=>A3 _ q) (A7 _) (qSM s.heap I.big),rfl,h _ (I.hok.fresh (A7 _))⟩
end
def qUO:List (TE×TE)->St->Hp->(List (V×V)->Hp->Prop)->Prop
 |[],_,H,Q=>Q [] H
 |(tk,tv)::r,σ,H,Q=>tk σ H λx H1=>tv σ H1 λy H2=>qUO r σ H2 λps H3=>Q ((x,y)::ps) H3
abbrev VV:List (V×V)->List (Value×Value)->Prop:=Paired λp q=>RelV p.1 q.1/\RelV p.2 q.2
def PPs (X:Cx)(pos:Pos)(keys:List (Option Expr))(values:List Expr)(trs:List (TE×TE)):Prop:=
 ∀(Ab:Aa2) (s:Shared) (σ:St) (H:Hp) (Q:List (V×V)->Hp->Prop),Inv X Ab σ H s->qUO trs σ H Q->
  wpAny (model X.prog X.w) X.A (evalPairs (pairTrees keys values X.env pos)) (λvs s'=>∃ps H',Inv X Ab σ H' s'/\VV ps vs/\Q ps H') X.xe s
theorem qbT {X:Cx} {pos:Pos} :PPs X pos [] [] []:=λa s σ H Q I h=>pairTrees_nil_walk ⟨[],H,I,.nil,h⟩
theorem qRY {X:Cx} {pos:Pos} {k v:Expr} {ks:List (Option Expr)} {vs:List Expr} {tk d:TE} {a:List (TE×TE)} (i:PE X k tk)(f:PE X v d)(g:PPs X pos ks vs a):
  PPs X pos (some k::ks) (v::vs) ((tk,d)::a):=λb s σ H Q I h=>
 pairTrees_cons_walk (thn (i b s σ H _ I h) fun u s1 ⟨x,H1,I1,rx,q1⟩=>thn (f b s1 σ H1 _ I1 q1) fun w2 s2 ⟨y,H2,I2,ry,q2⟩=>
  thn (g b s2 σ H2 _ I2 q2) λws s3 ⟨ps,H3,I3,rel,q3⟩=>⟨(x,y)::ps,H3,I3,.cons ⟨rx,ry⟩ rel,q3⟩)
noncomputable def qJT (Af more:List (Key×V)):List (Key×V):=more.foldl (λc e=>putK c e.1 e.2) Af
theorem KV.merge:∀{more:List (Key×V)} {rs:List (Key×Value)} {Af:List (Key×V)} {vs:List (Key×Value)},KV more rs->KV Af vs->KV (qJT Af more) (merged vs rs):=by
 intro more rs Af vs r;unfold KV at r
 induction r generalizing Af vs with
 |nil=>intro q;exact q
 |@cons p q ps qs h t ih=>
  intro a;have e:KV (putK Af p.1 p.2) (stored vs q.1 q.2):=by
   have:=a.put p.1 h.2;rw[<- h.1];exact this
  exact ih e
theorem qGX:∀(more Af:List (Key×V)),(qJT Af more).length<=Af.length+more.length
 |[],Af=>by show Af.length<=Af.length+0;lia
 |p::r,Af=>by
  have h1:=qGX r (putK Af p.1 p.2);have h2:=qCM Af p.1 p.2;show(qJT (putK Af p.1 p.2) r).length<=_;rw[C6];lia
theorem qM2 :∀{Af:List (Key×V)} {ws:List (Value×Value)},VV (Af.map λkv=>(kV kv.1,kv.2)) ws->∃rs,Carries (qAT P w) ws rs/\KV Af rs
 |[],_,r=>by rw[A29] at r;cases r;exact⟨[],Z6,.nil⟩
 |p::Af,_,r=>by
  rw[C9] at r;cases r with
  |@cons a b as bs h t=>
   obtain⟨rs,c,q⟩:=qM2 (P:=P) (w:=w) t;obtain⟨b1,b2⟩:=b;exact⟨(p.1,b2)::rs,⟨qOP h.1,rfl,c⟩,.cons ⟨rfl,h.2⟩ q⟩
def qfD (trs:List (TE×TE)):TE:=λσ H Q=>∀p,H p=none->qUO trs σ (Ag H p (.dK [])) λps H2=>H2 p=some (.dK [])/\∃Af:List (Key×V),ps=Af.map (λkv=>(kV kv.1,kv.2))/\Af.length<=15/\Q (.ref p) (Ag H2 p (.dK (qJT [] Af)))
theorem qbZ {X:Cx} {pos:Pos} {b:List (Option Expr)} {d:List Expr} {f:List (TE×TE)} (h:PPs X pos b d f)(g:b.all (·.isSome)=true)(hl:b.length=d.length)(y:b≠[])
  (j:b.length<=15):PE X (.Dict b d pos) (qfD f):=by
 intro r s σ H Q I q;have n:=I.hok.fresh (A7 s.heap.objs.size);have m:=I.laid (a:=s.heap.objs.size) (o:=.dK []) (h':=s.heap.push {cls:=.type "dict",data:=.dict #[]}) (t':=s.toks) (λ_ _ q=>A3 _ q) (A7 _) (qSM s.heap I.big);refine wpAny_Dict_walk (knd:=qAT X.prog X.w) g hl y j (thn (h r _ σ _ _ m (q _ n)) λws s2 ⟨ps,H2,I2,rel,e,Af,ep,lk,q2⟩=>?_);subst ep;obtain⟨x,c,v⟩:=qM2 (P:=X.prog) (w:=X.w) rel;obtain⟨z,hd,a0,r0,u⟩:=qQV I2.hok e;cases r0;refine⟨x,c,u,λh' i k=>⟨.ref s.heap.objs.size,_,?_,rfl,q2⟩⟩;have l:(qJT [] Af).length<=B62:=by
  have t:=qGX Af [];rw[J6] at t;rw[B64];lia
 have p:∃q,h'.get? s.heap.objs.size=some q:=let⟨q,_,_,hq,_⟩:=i;⟨q,hq⟩
 exact qHX I2 (by rw[e];exact Z6) k p (qOZ l hd (v.merge .nil) i)
structure M1 (X:Cx)(o:Expr)(m:Str)(apos:Pos)(e:Expr)(cpos:Pos):Prop where
 base:C38 o m X.env (eval o X.env)=eval o X.env
 few:((backTo cpos (B66 [e] X.env)).all (fun x=>!x.1) && (backToKw cpos (C36 [] X.env)).all (fun x=>x.1.isSome)
  && decide (([e]:List Expr).length+([]:List C30).length+(if([]:List C30).isEmpty then 0 else 1)<30))=true
 line:(apos.endLine==cpos.line)=true
 trees:backTo cpos (B66 [e] X.env)=[(false,eval e X.env)]
structure M2 (X:Cx)(o:Expr)(m:Str)(apos:Pos)(e f:Expr)(cpos:Pos):Prop where
 base:C38 o m X.env (eval o X.env)=eval o X.env
 few:((backTo cpos (B66 [e,f] X.env)).all (fun x=>!x.1) && (backToKw cpos (C36 [] X.env)).all (fun x=>x.1.isSome)
  && decide (([e,f]:List Expr).length+([]:List C30).length+(if([]:List C30).isEmpty then 0 else 1)<30))=true
 line:(apos.endLine==cpos.line)=true
 trees:backTo cpos (B66 [e,f] X.env)=[(false,eval e X.env),(false,eval f X.env)]
def IsD (H:Hp)(a:Addr):Prop:=(∃Af,Rd H a (.dK Af))\/∃Af,Rd H a (.dT Af)
theorem qeJ {X:Cx} {Ab:Aa2} {σ:St} {H:Hp} {a:Addr} (I:Inv X Ab σ H s)(d:IsD H a):
  s.TypeIs (.ref a) "dict"/\(∀b,D4 a=.ref b->∃ob,s.heap.get? b=some ob/\ob.dict=none)/\(a==B85)=false:=by
 rcases d with⟨i,e⟩|⟨i,e⟩
 ·obtain⟨_,f,k,_,c⟩:=qU0 I.hok e;refine⟨c.typeIs,λb q=>?_,f⟩;cases q;obtain⟨ob,_,_,g,h,_⟩:=c;exact⟨ob,g,h.2.1⟩
 ·obtain⟨_,f,j,_,c⟩:=qTZ I.hok e;refine⟨c.typeIs,λb q=>?_,f⟩;cases q;obtain⟨ob,_,_,g,h,_⟩:=c;exact⟨ob,g,h.2.1⟩
def qdH (td ty:TE):TE:=λσ H Q=>td σ H λx H1=>∃a,x=.ref a/\IsD H1 a/\ty σ H1 λy H2=>∃Af k v,H2 a=some (.dK Af)/\y=kV k/\valV Af k=some v/\Q v (Ag H2 a (.dK (qOY Af k)))
section
variable{X:Cx}{o e f:Expr}{apos cpos:Pos}{td ty tx:TE}
theorem qYV (j:PE X o td) (i:PE X e ty) (m:M1 X o "pop" apos e cpos):PE X (.Call (.Attribute o "pop" apos) [e] [] cpos) (qdH td ty):=by
 intro c s σ H Q I h;refine wpAny_Call_method m.base m.few m.line A10 A31 PySem.F.type_dict_pop (thn (j c s σ H _ I h) λu s1 ⟨x,H1,I1,rx,a,ex,d,q1⟩=>?_);subst ex;obtain rfl:u=D4 a:=rx;obtain⟨f,g,_⟩:=qeJ I1 d;refine⟨f,g,?_⟩;rw[m.trees];refine X7 rfl (l9 (A81 (thn (i c s1 σ H1 _ I1 q1) λiv s2 ⟨y,H2,I2,ry,Af,k,v,ea,ey,l,q2⟩=>A93 ?_)));subst ey;exact qgD I2 ea ry l (.inl rfl) λp q n b=>⟨v,_,n,b,q2⟩
end
section
variable{κ:Type}[DecidableEq κ]
theorem qHS:∀{l:List κ} {k:κ},l.Nodup->¬k∈l->(l++[k]).Nodup
 |[],k,_,_=>by simp
 |a::r,k,h,hk=>by
  obtain⟨h1,h2⟩:=J7.mp h;show(a::(r++[k])).Nodup;refine J7.mpr ⟨λm=>?_,qHS h2 λm=>hk (B1.mpr (A30 m))⟩;rcases B8.mp m with q|q
  ·exact h1 q
  ·exact hk (B1.mpr (E9 (A6.mp q).symm))
end
def noX:Aa1:=λ_ _=>False
noncomputable def qH9 (env:Env):List (Str×C17)->List (Str×Addr)->List (Str×Addr)
 |[],acc=>acc
 |(n,k)::r,acc=>qH9 env r (if(k==L0)=true then(n,(env.cells.lookup n).getD 0)::acc else acc)
theorem qFU {env:Env} :∀{names:List (Str×C17)} {acc:List (Str×Addr)},(∀x,(x,L0)∈names->∃c,env.cells.lookup x=some c)->(∀x c,acc.lookup x=some c->env.cells.lookup x=some c)->
  ∀x c,(qH9 env names acc).lookup x=some c->env.cells.lookup x=some c
 |[],acc,_,ha,x,c,h=>ha x c h
 |(n,k)::r,acc,hf,ha,x,c,h=>by
  refine qFU (names:=r) (λy hy=>hf y (A8 _ hy)) (λy d hd=>?_) x c h
  split at hd
  ·rename_i hk
   have hk':k=L0:=by simpa using hk
   subst hk';obtain⟨e,he⟩:=hf n B7;by_cases hyn:y=n
   ·subst hyn;rw[T1,he] at hd;rw[he];exact hd
   ·rw[X2,beq_eq_false_iff_ne.mpr hyn] at hd;exact ha y d hd
  ·exact ha y d hd
theorem qFV {env:Env} :∀{names:List (Str×C17)} {acc:List (Str×Addr)} {x:Str},((x,L0)∈names\/∃c,acc.lookup x=some c)->∃c,(qH9 env names acc).lookup x=some c
 |[],acc,x,h=>by
  rcases h with h|h
  ·exact absurd h (by simp)
  ·exact h
 |(n,k)::r,acc,x,h=>by
  refine qFV (names:=r) ?_;rcases h with h|⟨c,h⟩
  ·rcases B1.mp h with e|h
   ·cases e;refine .inr ⟨(env.cells.lookup n).getD 0,?_⟩;rw[if_pos (by rfl),T1]
   ·exact .inl h
  ·refine .inr ?_
   split
   ·by_cases hyn:x=n
    ·subst hyn;exact⟨_,T1⟩
    ·refine⟨c,?_⟩;rw[X2,beq_eq_false_iff_ne.mpr hyn];exact h
   ·exact⟨c,h⟩
theorem qKJ {env:Env} (f:Str×C17->List (Str×Addr)->Sem (ForInStep (List (Str×Addr))))
  (hf:∀n k c,f (n,k) c=(if(k==L0)=true then(do let a <- cellOf env n;pure (P3 ((n,a)::c))) else pure (P3 c))):
  ∀(names:List (Str×C17)) (acc:List (Str×Addr)),(∀x,(x,L0)∈names->∃c,env.cells.lookup x=some c)->forIn names acc f=(pure (qH9 env names acc):Sem _)
 |[],acc,_=>rfl
 |(n,k)::r,acc,h=>by
  have ih:=λacc=>qKJ f hf r acc λx hx=>h x (A8 _ hx);rw[A32,hf];by_cases hk:(k==L0)=true
  ·have hk':k=L0:=by simpa using hk
   subst hk';obtain⟨c,hc⟩:=h n B7;rw[if_pos hk];unfold cellOf qH9;rw[hc,if_pos hk];exact ih _
  ·rw[if_neg hk];unfold qH9;rw[if_neg hk];exact ih _
theorem qHY {a:Scope} {env:Env} (h:∀x,(x,L0)∈a.names->∃c,env.cells.lookup x=some c):closureFor a env=pure (qH9 env a.names []):=by
 unfold closureFor;dsimp only;rw[qKJ (env:=env) _ (λn k c=>?_) a.names [] h]
 ·rfl
 ·rfl
theorem qED {env:Env} {x:Str} :∀{names:List (Str×C17)},
  (names.map λ(n,k)=>if(k==L0&&env.scope.kind == .function&&env.kindOf n==some .cell)=true then(n,B44) else(n,k)).lookup x =
   (names.lookup x).map λk=>if(k==L0&&env.scope.kind == .function&&env.kindOf x==some .cell)=true then B44 else k
 |[]=>rfl
 |(n,k)::r=>by
  have ih:=@qED env x r;rw[C9];by_cases hx:x=n
  ·subst hx;dsimp only;rw[T1 (b:=k),T0]
   split
   ·rw[T1]
   ·rw[T1]
  ·have hb:(x==n)=false:=beq_eq_false_iff_ne.mpr hx;dsimp only;rw[X2 (k:=n) (b:=k),hb];dsimp only;rw[<- ih]
   split
   ·rw[X2,hb]
   ·rw[X2,hb]
structure LcZ where
 L:Addr
 cl:List (Str×Addr)
 ex:List Addr
 s₀:Shared
 H₀:Hp
noncomputable def lcCx (X:Cx)(scope:Scope)(own:List Str)(fv:List Nat)(z:LcZ):Cx where
 prog:=X.prog
 w:=X.w
 K:=X.K
 mg:=X.mg
 base:=X.base
 A:=X.A
 N:=own++fv.map λi=>X.N.getD i T6
 s₀:=z.s₀
 H₀:=z.H₀
 env:=compEnvC scope z.cl z.L X.env
 outer:=X.stack
 stack:=X.stack
 ex:=z.ex
 fn:=λ_=>false
 calm:=X.calm
 pn:=[]
 xe:=noX
structure LcScope (X:Cx)(scope:Scope)(own:List Str)(fv:List Nat):Prop where
 kind:scope.kind=.function
 nocell:∀y∈scope.names,y.2≠.cell
 names:∀y∈scope.names,y.2=.local->scope.names.lookup y.1=some .local
 free:∀y∈scope.names,y.2=.free->X.env.kindOf y.1=some .cell\/X.env.kindOf y.1=some .free
 nd:(own++fv.map λi=>X.N.getD i T6).Nodup
 fvs:∀i∈fv,i<X.N.length/\scope.names.lookup (X.N.getD i T6)=some .free
noncomputable def qJX (own:List Str)(fv:List Nat)(σ:St):St:=(own.map λ_=>none)++fv.map λi=>(σ[i]?).join
theorem qP3 {R:Result->Shared->Prop} {g a e:Expr} {f:List Expr} {b:Scope} {pos:Pos} {k acc:Value} {env:Env} (I:Nat->Shared->Prop)
  (i:∀ n s,I n s->wpAny (model prog w) A (pyNext k) (fun r s₁=>match r with
   |none=>R (.ok .next) s₁
   | some v=>wpAny (model prog w) A (C46 a k v) (fun _ s₁=>wpAny (model prog w) A (assign a env v) (fun _ s₂=>
     wpAny (model prog w) A (forIn f true fun c r=>if r=true then do let ok <- isTrue c env (eval c env);pure (P3 ok) else pure (P3 r)) (fun ok s₃=>
      if ok=true then wpAny (model prog w) A (eval g env) (fun x s₄=>
       wpAny (model prog w) A (call (.builtin "list.append") [acc,x]) (λ_ s₅=>∃m,m<n/\I m s₅) noX s₄) noX s₃
      else∃m,m<n/\I m s₃) noX s₂) noX s₁) noX s₁) noX s)
  (n:Nat) (h:I n s):
  B86 (model prog w) A (.compLoop (.ListComp g [⟨a,e,f,0⟩] b pos) 0 k acc env) R s:=by
 refine codeAny_loop rfl I (λn s p=>?_) n h;show wpAny _ A ((compTurn (.ListComp g [⟨a,e,f,0⟩] b pos) 0 k acc env).onRaise (λx=>do noteFrame x env;theTreesLotGoes x)) _ _ s
 refine wpAny_noted ?_;rw[compTurn_list];refine B60 (C03 (B60 (B69 (i n s p) (λr s₁ j=>?_) λ_ _ d=>d.elim)));cases r with
 |none=>exact B61 j
 |some v=>
  refine B60 (B69 j (λ_ s₁ j=>?_) λ_ _ d=>d.elim);refine B60 (B69 j (λ_ s₂ o=>B60 (B69 o (λok s₃ l=>?_) λ_ _ d=>d.elim)) λ_ _ d=>d.elim);cases ok with
  |false=>exact B61 ⟨rfl,l⟩
  |true=>
   exact B60 (B60 (B69 l (λx s₄ t=>B60 (B69 t (λ_ s₅ q=>B61 (B61 ⟨rfl,q⟩)) λ_ _ d=>d.elim)) λ_ _ d=>d.elim))
section
variable{X:Cx}{Ab:Aa2}{σ:St}{H:Hp}{s:Shared}
theorem Inv.other {h':Heap} {L:Addr} {n:Nat} (I:Inv X Ab σ H s)(a:X.s₀.heap.objs.size<=L)(g:H L=none)(f:L≠X.env.locals)(h:∀x c,X.env.cells.lookup x=some c->c≠L)(d:∀p∈X.pn++Ab,p.1≠L)
  (k:Heap.SameBut L s.heap h'):Inv X Ab σ H {s with heap:=h'}:=
 I.turned (t':=s.toks) (λb o a e=>(k.2 b a).trans e) g f (.inr a) h d
theorem qeD {a:Scope} {own:List Str} {fv:List Nat} {m:List Addr} (I:Inv X Ab σ H s)(S:LcScope X a own fv)(i:∀b∈m,FpOk X Ab H b)(hsz:∀b∈m,b<s.heap.objs.size):
  (lcCx X a own fv ⟨s.heap.objs.size,qH9 X.env a.names [],m,s,H⟩).Ok:=by
 have l:∀x,(x,L0)∈a.names->∃c,X.env.cells.lookup x=some c:=λx h=>I.ok.has x (S.free _ h rfl);have f:=qFU (env:=X.env) (names:=a.names) (acc:=[]) l (λx c z=>by simp at z)
 refine⟨I.ok.mod,S.kind,I.ok.glob,I.ok.blt,A7 _,λx y c q r=>I.ok.inj x y c (f _ _ q) (f _ _ r),λx h=>?_,λx c h=>?_,I.ok.hd,I.ok.frames,.inl rfl,λb g=>⟨?_,λx c e=>?_⟩,I.bs,F3 I.ok.bsz I.sz,λb o e g=>?_,λb g j=>?_,I.stack,I.stkFree⟩
 ·refine qFV (.inl ?_);have d:(relabel a X.env).names.lookup x=some .cell\/(relabel a X.env).names.lookup x=some .free:=h;unfold relabel at d;rw[qED] at d;cases e:a.names.lookup x with
  |none=>rw[e] at d;simp at d
  |some k=>
   have n:=K9 e;have p:=S.nocell _ n;rw[e] at d;simp only[T0,Q2.injEq] at d;cases k with
   |free=>exact n
   |cell=>exact absurd rfl p
   |_=>simp at d
 ·cases h
 ·exact C4 (hsz b g)
 ·exact(i b g).2.2.2.2.1 x c (f _ _ e)
 ·rcases(i b g).2.2.2.1 with z|z
  ·exact I.ok.noex b o e z
  ·exact absurd (D7 (B4 (I.ok.bs b o e).1) z) (T9 _)
 ·rcases B1.mp (I.stkSub b j) with z|z
  ·exact(i b g).2.1 z
  ·exact(i b g).2.2.1 z
theorem qZG {a:Scope} {own:List Str} {fv:List Nat} {w:List Addr} {h₁:Heap} {tk:Nat} (I:Inv X Ab σ H s)(S:LcScope X a own fv)(hf:∀b∈w,FpOk X Ab H b)(hsz:∀b∈w,b<s.heap.objs.size)
  (a2:h₁.Ns s.heap.objs.size (λ_=>none)) (r:∀b o,s.heap.get? b=some o->h₁.get? b=some o):
  Inv (lcCx X a own fv ⟨s.heap.objs.size,qH9 X.env a.names [],w,s,H⟩) [] (qJX own fv σ) H {s with heap:=h₁,toks:=tk}:=by
 have a0:∀x,(x,L0)∈a.names->∃c,X.env.cells.lookup x=some c:=λx hx=>I.ok.has x (S.free _ hx rfl);have h:=qFU (env:=X.env) (names:=a.names) (acc:=[]) a0 (λx c z=>by simp at z)
 refine⟨qeD I S hf hsz,rfl,I.bare,Un.kept r,⟨_,a2,λi x v f d h3=>?_⟩,λx c e=>?_,I.hok.fresh (A7 _),λx c e=>I.freeC x c (h _ _ e),λp hp=>absurd (show p∈([]:Aa2) from hp) (by simp),I.hok.kept r,?_⟩
 ·have f:(own++fv.map λi=>X.N.getD i T6)[i]?=some x:=f;unfold qJX at d;have t:own.length<=i:=by
   apply Z1;intro t;rw[G4 (by simpa using t),C5] at d
   cases e:own[i]? with
   |none=>rw[e] at d;cases d
   |some z=>rw[e] at d;cases d
  rw[O2 (by simpa using t),A0,C5] at d
  rw[O2 t,C5] at f;cases e:fv[i-own.length]? with
  |none=>rw[e] at f;cases f
  |some j=>
   rw[e] at f d;have hj:=S.fvs j (B0 e);have f:X.N.getD j T6=x:=D1 f;have d:(σ[j]?).join=some v:=D1 d;have a1:σ[j]?=some (some v):=by
    cases q:σ[j]? with
    |none=>rw[q] at d;cases d
    |some y=>rw[q] at d;exact congrArg some d
   have hx:X.N[j]?=some x:=by
    rw[R4] at f;rw[A4 hj.1] at f ⊢;exact congrArg some f
   have k:a.names.lookup x=some .free:=f ▸ hj.2;have g:=K9 k;obtain ⟨m,hn,hl⟩:=id I.loc;have l:=S.free _ g rfl;obtain ⟨u,ru,lk⟩:=hl j x v hx a1 (by
    rcases l with z|z
    ·exact .inr (.inl z)
    ·exact .inr (.inr z))
   refine⟨u,ru,?_⟩;rcases lk with⟨z,_⟩|⟨_,c,e1,z⟩
   ·rcases l with y|y
    ·have n:X.env.kindOf x=some .cell:=y;rw[z] at n;cases n
    ·have n:X.env.kindOf x=some .free:=y;rw[z] at n;cases n
   ·obtain⟨c',e2⟩:=qFV (env:=X.env) (names:=a.names) (acc:=[]) (x:=x) (.inl g);have e3:=h _ _ e2;rw[e1] at e3;cases e3;obtain⟨o,ho,hd⟩:=z;refine .inr ⟨?_,c,e2,o,r _ _ ho,hd⟩;show(relabel a X.env).names.lookup x=some .cell\/(relabel a X.env).names.lookup x=some .free;unfold relabel;rw[qED,k,T0]
    split
    ·exact .inl rfl
    ·exact .inr rfl
 ·obtain⟨v,o,ho,hd⟩:=I.cell x c (h _ _ e);exact⟨v,o,r _ _ ho,hd⟩
 ·unfold qJX;show _=(own++fv.map λi=>X.N.getD i T6).length;rw[A9,A9,A0,A0,A0]
theorem qcE {a:Scope} {own:List Str} {fv:List Nat} {f:List Addr} {c:Aa2} {σ':St} {H':Hp} {g:List (Str×Addr)} (I:Inv X Ab σ H s)(d:∀b∈f,FpOk X Ab H b)
  (J:Inv (lcCx X a own fv ⟨s.heap.objs.size,g,f,s,H⟩) c σ' H' s'):Inv X Ab σ H' s':=
 I.call' (ch:=f) J.os J.base J.hok J.bare λb e=>⟨(d b e).2.2.2.1,(d b e).2.1,(d b e).2.2.2.2.1,(d b e).2.2.2.2.2⟩
end
def PTs (X:Cx)(ifs:List Expr)(t:TT):Prop:=
 ∀(Ab:Aa2) (s:Shared) (σ:St) (H:Hp) (Q:Bool->Hp->Prop),Inv X Ab σ H s->t σ H Q->
  wpAny (model X.prog X.w) X.A (forIn ifs true λc r=>if r=true then do let ok <- isTrue c X.env (eval c X.env);pure (P3 ok) else pure (P3 r)) (TP X Ab σ Q) X.xe s
def qf5:TT:=λ_ H Q=>Q true H
theorem qBI {X:Cx} :PTs X [] qf5:=λa s σ H Q I h=>wpAny_tests_nil ⟨H,I,h⟩
theorem qFC {X:Cx} {c:Expr} {t:TT} (h:PT X c t):PTs X [c] t:=λb s σ H Q I a=>wpAny_tests_one (h b s σ H Q I a)
def qeE (own:List Str)(fv:List Nat)(wi:TI)(g:TG)(tc:TT)(te:TE)(K:Addr->Hp->Prop):St->Hp->Prop:=λσ H=>wi σ H λJ H1=>∀p,H1 p=none->
 ∃W:Nat->Nat->St->Hp->Prop,(∃m,W 0 m (qJX own fv σ) (Ag H1 p (.lst [])))/\∀i m σ H,W i m σ H->
  (J.stop i H/\K p H)\/(J.go i H/\∃ N:St->Hp->Prop,(∀ σ' H',N σ' H'->∃ m',m'<m/\W (i+1) m' σ' H')/\∀ x H',J.yld i H x H'->g x σ H' fun σ2 H2=>tc σ2 H2 fun b H3=>
   if b=true then te σ2 H3 λy H4=>∃ys,H4 p=some (.lst ys)/\ys.length<B62/\N σ2 (Ag H4 p (.lst (ys++[y])))
   else N σ2 H3)
def tLc (own:List Str)(fv:List Nat)(wi:TI)(g:TG)(tc:TT)(te:TE):TE:=λσ H Q=>qeE own fv wi g tc te (λp H'=>Q (.ref p) H') σ H
section
variable{X:Cx}{tg iter elt:Expr}{ifs:List Expr}{scope:Scope}{pos:Pos}{own:List Str}{fv:List Nat}{wi:TI}{g:TG}{tc:TT}{te:TE}
theorem qW4 {Ab:Aa2} {σ:St} {H:Hp} {K:Addr->Hp->Prop} {use:Option (Value->Sem Unit)} {Q:Aa1} (hc:X.calm=true)(S:LcScope X scope own fv)(hi:PI X tg iter wi)
  (hg:∀z,PG (lcCx X scope own fv z) tg g) (ht:∀z,PTs (lcCx X scope own fv z) ifs tc) (he:∀z,PE (lcCx X scope own fv z) elt te)
  (I:Inv X Ab σ H s) (h:qeE own fv wi g tc te K σ H) (a8:∀e s,X.xe e s->E e s)
  (am:∀ (p:Addr) (L:Addr) (H':Hp) (s':Shared) (m:Ab0),Inv X Ab σ H' s'->K p H'->s'.heap.Ns L m->X.s₀.heap.objs.size<=L->H' L=none->L ≠ X.env.locals->(∀ x c,X.env.cells.lookup x=some c->c ≠ L)->(∀ q ∈ X.pn++Ab,q.1 ≠ L)->
   compPost (model X.prog X.w) X.A E use Q (.ref p) L (.ok .next) s') (hs:∀x,C33 iter X.env x=pure x:=by intro _;rfl):
  wpAny (model X.prog X.w) X.A (comprehension (.ListComp elt [⟨tg,iter,ifs,0⟩] scope pos) scope X.env (firstIterPos [⟨tg,iter,ifs,0⟩] pos) (newList []) false (eval iter X.env) use) Q E s:=by
 have ao:∀x,(x,L0)∈scope.names->∃c,X.env.cells.lookup x=some c:=λx hx=>I.ok.has x (S.free _ hx rfl);refine wpAny_comprehension_free rfl hs (qHY ao) S.kind S.names (B69 (hi Ab s σ H _ I h) (λv s1 h1=>B69 h1 (λap j h2=>?_) a8) a8);obtain⟨it,k,tn,J,H2,e,I2,T,ae,f2,q2⟩:=h2;subst e
 -- the list
 refine B67 ?_;have a4:H2 j.heap.objs.size=none:=I2.hok.fresh (A7 _);have I3:Inv X Ab σ (Ag H2 j.heap.objs.size (.lst [])) {j with heap:=j.heap.push {cls:=.type "list",dict:=none,data:=.seq ([]:List Value).toArray}}:=
  I2.laid (t':=j.toks) (λb u e=>A3 _ e) (A7 _) ⟨E2 _,[],0,.nil,B3 _ rfl⟩
 obtain⟨W,⟨m0,w0⟩,ah⟩:=q2 j.heap.objs.size a4;have aa:∀b∈k,b<j.heap.objs.size:=λb a=>by
  obtain⟨o,e,_⟩:=T.obj 0 _ ae b a;exact B4 e
 have f3:∀b∈k,FpOk X Ab (Ag H2 j.heap.objs.size (.lst [])) b:=λb a=>⟨by rw[qA7 (C4 (aa b a))];exact(f2 b a).1,(f2 b a).2⟩
 generalize hp:j.heap.objs.size=p at *;generalize hH3:Ag H2 p (.lst [])=H3 at *;have ak:tn 0 (j.heap.push {cls:=.type "list",dict:=none,data:=.seq ([]:List Value).toArray}):=T.keep _ _ _ ae λb _ o e=>A3 _ e;have aj:∀b∈k,b<(j.heap.push {cls:=.type "list",dict:=none,data:=.seq ([]:List Value).toArray}).objs.size:=λb a=>by
  rw[G9];have:=aa b a;rw[hp];exact G0 this
 generalize hs3:({j with heap:=j.heap.push {cls:=.type "list",dict:=none,data:=.seq ([]:List Value).toArray}}:Shared)=f at *;have ab:tn 0 f.heap:=by rw[<- hs3];exact ak
 have a5:∀b∈k,b<f.heap.objs.size:=by rw[<- hs3];exact aj
 -- the block's frame
 refine wpAny_newFunctionEnv S.nocell (by intro y hy;simp at hy) (λh₁ af ag=>?_) S.kind
 have a0:∀b o,f.heap.get? b=some o->h₁.get? b=some o:=λb o e=>ag.extBut b o (C4 (B4 e)) (A3 _ e);have J0:Inv (lcCx X scope own fv ⟨f.heap.objs.size,qH9 X.env scope.names [],k,f,H3⟩) [] (qJX own fv σ) H3 {f with heap:=h₁,toks:=f.toks+([]:List (Str×Value)).length}:=qZG I3 S f3 a5 af a0;have a7:=qeD I3 S f3 a5;generalize hz:(⟨f.heap.objs.size,qH9 X.env scope.names [],k,f,H3⟩:LcZ)=z at *;have l:tn 0 h₁:=T.keep _ _ _ ab λb _ o e=>a0 b o e;have a3:∀b∈k,H3 b=none:=λb a=>(f3 b a).1;have a1:∀{H':Hp},(∀b∈k,H' b=none)->∀b∈k,FpOk (lcCx X scope own fv z) [] H' b:=λhn b a=>by
  subst hz;refine⟨hn b a,(a7.exf b a).1,a7.exfs b a,.inl a,(a7.exf b a).2,λq hq=>absurd (show q∈([]:Aa2) from hq) (by simp)⟩
 have ac:({newEnv scope f.heap.objs.size X.env.globals (qH9 X.env scope.names []) X.env.qual none .none (some X.env) C45 with scope:=relabel scope X.env}:Env)=(lcCx X scope own fv z).env:=by
  subst hz
  rfl
 have a6:∀sA:Shared,sA={f with heap:=h₁,toks:=f.toks+([]:List (Str×Value)).length}->B86 (model X.prog X.w) X.A (.compLoop (.ListComp elt [⟨tg,iter,ifs,0⟩] scope pos) 0 (.ref it) (.ref p) (lcCx X scope own fv z).env)
   (compPost (model X.prog X.w) X.A E use Q (.ref p) f.heap.objs.size) sA:=by
  rintro sA rfl;refine qP3 (λn s'=>∃i σ' H',Inv (lcCx X scope own fv z) [] σ' H' s'/\tn i s'.heap/\(∀b∈k,H' b=none)/\W i n σ' H') ?_ m0 ⟨0,_,H3,J0,l,a3,w0⟩;rintro n s4 ⟨i,σ4,H4,I4,l,a3,w4⟩;rcases ah i n σ4 H4 w4 with⟨ad,qn⟩|⟨go,Nx,ai,a9⟩
  ·refine thn (T.done (lcCx X scope own fv z) rfl rfl rfl hc i [] s4 σ4 H4 noX I4 (a1 a3) l ad) λr s5 ⟨hr,I5⟩=>?_;subst hr;subst hz;have I6:Inv X Ab σ H4 s5:=qcE I3 f3 I5;obtain⟨m,hn,_⟩:=id I5.loc;have a2:=I3.fpOk (H':=H4) (b:=f.heap.objs.size) (A7 _) I5.free;refine am p f.heap.objs.size H4 s5 m I6 qn hn I3.sz a2.1 a2.2.1 a2.2.2.2.2.1 a2.2.2.2.2.2
  ·refine thn (T.item (lcCx X scope own fv z) rfl rfl rfl hc i [] s4 σ4 H4 noX I4 (a1 a3) l go) λr s5 ⟨u,hr,h5⟩=>?_;subst hr;refine thn h5 λ_ s6 ⟨x,H6,I6,r6,y6,st6,fr6⟩=>?_;have an:=I6.pinned (a1 fr6) (T.obj _ _ st6);have t:∀{σ7:St} {H7:Hp} {s7:Shared} {m':Nat},m'<n->Inv (lcCx X scope own fv z) ([]++qOC k s6.heap) σ7 H7 s7->W (i+1) m' σ7 H7->
     ∃m,m<n/\∃i σ' H',Inv (lcCx X scope own fv z) [] σ' H' s7/\tn i s7.heap/\(∀b∈k,H' b=none)/\W i m σ' H':=λ{σ7 H7 s7 m'} hm I7 w7=>by
    refine⟨m',hm,i+1,σ7,H7,I7.unpinned,T.keep _ _ _ st6 λb a o e=>(I7.pin (b,o) (F9 _ (F9 _ (qG7 a e)))).1,λb a=>?_,w7⟩;obtain⟨o,e,d⟩:=T.obj _ _ st6 b a;exact(I7.pin (b,o) (F9 _ (F9 _ (qG7 a e)))).2.1
   refine thn (hg z _ s6 σ4 H6 x u _ an r6 (a9 x H6 y6)) λ_ s7 ⟨σ7,H7,I7,q7⟩=>?_;refine thn (ht z _ s7 σ7 H7 _ I7 q7) λb s8 ⟨H8,I8,q8⟩=>?_;cases b with
   |false=>
    obtain⟨m',hm,w8⟩:=ai _ _ q8;exact t hm I8 w8
   |true=>
    refine thn (he z _ s8 σ7 H8 _ I8 q8) λv s9 ⟨y,H9,I9,r9,ys,ep,hl,w9⟩=>?_;refine thn (qD2 (X:=lcCx X scope own fv z) _ s9 σ7 H9 (.ref p) [y] (.ref p) [v] (λ_ H'=>Nx σ7 H') I9 rfl (.cons r9 .nil) ⟨p,ys,y,rfl,rfl,ep,hl,w9⟩) λ_ s10 ⟨_,H10,I10,_,q10⟩=>?_;obtain⟨m',hm,al⟩:=ai _ _ q10;exact t hm I10 al
 rw[ac];exact codeAny_compStart_list (a6 _ rfl) (T.self _ _ _ _ _ l (a6 _ rfl))
theorem qEJ (k:X.calm=true)(S:LcScope X scope own fv)(hi:PI X tg iter wi)(d:∀z,PG (lcCx X scope own fv z) tg g)(i:∀z,PTs (lcCx X scope own fv z) ifs tc)(r:∀z,PE (lcCx X scope own fv z) elt te)
  (c:∀x,C33 iter X.env x=pure x:=by intro _;rfl):PE X (.ListComp elt [⟨tg,iter,ifs,0⟩] scope pos) (tLc own fv wi g tc te):=by
 intro w s σ H Q I h;rw[eval_ListComp];refine qW4 (use:=none) (K:=λp a=>Q (.ref p) a) k S hi d i r I h (λ_ _ q=>q) (λp L a v m j q u o t l e f=>?_) c;exact⟨m,u,λy b=>⟨.ref p,a,j.other (n:=0) o t l e f b,rfl,q⟩⟩
theorem qOA {i:Nat} {x:Str} {b c:Pos} (hN:X.N.Nodup)(hx:X.N[i]?=some x)(r:X.env.scope.names.lookup x=some .local)(hc:X.calm=true)(S:LcScope X scope own fv)(hi:PI X tg iter wi)(w:∀z,PG (lcCx X scope own fv z) tg g)
  (ht:∀z,PTs (lcCx X scope own fv z) ifs tc) (he:∀z,PE (lcCx X scope own fv z) elt te) (d:swapsWith (.ListComp elt [⟨tg,iter,ifs,0⟩] scope pos) (some (.Name x b)) c.line X.env=pure true)
  (u:∀x,C33 iter X.env x=pure x:=by intro _;rfl):PS X (.Assign [.Name x b] (.ListComp elt [⟨tg,iter,ifs,0⟩] scope pos) c) (tAsg (tLc own fv wi g tc te) (qa0 i)):=by
 intro Ab s σ H D I h;rw[exec_Assign_Name_used _ _ _ _ d];refine B60 (C03 (B60 ?_));show wpAny _ X.A (do let _ <- comprehension (.ListComp elt [⟨tg,iter,ifs,0⟩] scope pos) scope X.env _ (newList []) false (eval iter X.env) (some (assign (.Name x b) X.env))) _ _ s
 refine B60 (B69 (qW4 (use:=some (assign (.Name x b) X.env)) (K:=fun p k=>D.nx (σ.set i (some (.ref p))) k) (Q:=fun _ j=>SP X Ab D .next j) (E:=X.xe) hc S hi w ht he I h (fun _ _ q=>q) (fun p L k j m I' q hn h1 h2 o t h5=>?_) u)
  (λ_ j hq=>B61 (B61 hq)) λ_ _ e=>e)
 show wpAny _ X.A (assign (.Name x b) X.env (.ref p)) _ _ _;refine wpAny_assign_Name (qNW (v:=.ref p) I' hN hx (.inl r) rfl (λs2 I2 ⟨a,hsb,ha⟩=>?_) (.inr r));have l:L≠a:=by
  rcases ha with z|z
  ·rw[z];exact o
  ·exactλy=>t x a z y.symm
 exact⟨m,hn.sameBut hsb l,λh' f=>⟨_,k,I2.other (n:=0) h1 h2 o t h5 f,q⟩⟩
end
abbrev LcG (I:It)(g:TG)(tc:TT)(te:TE)(Kf:Hp->Prop)(σ0:St)(H0:Hp)(p:Addr):Prop:=∃W:Nat->Nat->St->Hp->Prop,(∃m,W 0 m σ0 H0)/\∀i m σ H,W i m σ H->(I.stop i H/\Kf H)\/(I.go i H/\∃N:St->Hp->Prop,(∀σ' H',N σ' H'->∃m',m'<m/\W (i+1) m' σ' H')/\∀x H',I.yld i H x H'->g x σ H' λσ2 H2=>tc σ2 H2 λb H3=>if b=true then te σ2 H3 λy H4=>∃ys,H4 p=some (.lst ys)/\ys.length<B62/\N σ2 (Ag H4 p (.lst (ys++[y]))) else N σ2 H3)
theorem qE8 {lo:Int} {n:Nat} {g:TG} {d:TT} {c:TE} {Kf:Hp->Prop} {σ0:St} {H0:Hp} {p:Addr} (Pv:Nat->St->Hp->Prop)(l:Pv 0 σ0 H0)
  (f:∀i σ H,i<n->Pv i σ H->g (.int (lo+i)) σ H λσ2 H2=>d σ2 H2 λb H3=>if b=true then c σ2 H3 λy H4=>∃ys,H4 p=some (.lst ys)/\ys.length<B62/\Pv (i+1) σ2 (Ag H4 p (.lst (ys++[y]))) else Pv (i+1) σ2 H3)
  (h:∀σ H,Pv n σ H->Kf H):
  LcG (Itr lo n) g d c Kf σ0 H0 p:=by
 refine⟨λi m σ H=>m=n-i/\i<=n/\Pv i σ H,⟨n,by simp,E2 _,l⟩,?_⟩
 rintro i m σ H ⟨rfl,hi,q⟩;by_cases a:i<n
 ·refine .inr ⟨a,Pv (i+1),λσ' j k=>⟨n-(i+1),by omega,rfl,a,k⟩,λx j y=>?_⟩
  obtain⟨e,y⟩:=y;subst e y;exact f i σ _ a q
 ·have e:i=n:=by omega
  subst e;exact .inl ⟨A7 _,h σ H q⟩
theorem qHU {K:Ab1} {a:Addr} {xs:List V} {g:TG} {h:TT} {f:TE} {Kf:Hp->Prop} {σ0:St} {H0:Hp} {p:Addr} (Pv:Nat->St->Hp->Prop)(r:Pv 0 σ0 H0)(o:∀i σ H,i<=xs.length->Pv i σ H->SqL K H a xs)
  (j:∀i x σ H,xs[i]?=some x->Pv i σ H->g x σ H λσ2 H2=>h σ2 H2 λb H3=>if b=true then f σ2 H3 λy H4=>∃ys,H4 p=some (.lst ys)/\ys.length<B62/\Pv (i+1) σ2 (Ag H4 p (.lst (ys++[y]))) else Pv (i+1) σ2 H3)
  (k:∀σ H,Pv xs.length σ H->Kf H):
  LcG (Itl K a) g h f Kf σ0 H0 p:=by
 refine⟨λi m σ H=>m=xs.length-i/\i<=xs.length/\Pv i σ H,⟨xs.length,by simp,E2 _,r⟩,?_⟩
 rintro i m σ H ⟨rfl,hi,q⟩;have d:=o i σ H hi q;by_cases c:i<xs.length
 ·refine .inr ⟨⟨xs,xs[i],d,by simp[c]⟩,Pv (i+1),λσ' l n=>⟨xs.length-(i+1),by omega,rfl,c,n⟩,λx l y=>?_⟩
  obtain⟨e,y⟩:=y;subst e;exact j i x σ _ (y xs d) q
 ·have e:i=xs.length:=by omega
  subst e;exact .inl ⟨⟨xs,d,A7 _⟩,k σ H q⟩
theorem qFJ {K:Ab1} {a:Addr} {xs:List V} {g:TG} {h:TT} {f:TE} {Kf:Hp->Prop} {σ0:St} {H0:Hp} {p:Addr} (Pv:Nat->St->Hp->Prop)(r:Pv 0 σ0 H0)(o:∀i σ H,i<=xs.length->Pv i σ H->SqT K H a xs)
  (j:∀i x σ H,xs[i]?=some x->Pv i σ H->g x σ H λσ2 H2=>h σ2 H2 λb H3=>if b=true then f σ2 H3 λy H4=>∃ys,H4 p=some (.lst ys)/\ys.length<B62/\Pv (i+1) σ2 (Ag H4 p (.lst (ys++[y]))) else Pv (i+1) σ2 H3)
  (k:∀σ H,Pv xs.length σ H->Kf H):
  LcG (Itt K a) g h f Kf σ0 H0 p:=by
 refine⟨λi m σ H=>m=xs.length-i/\i<=xs.length/\Pv i σ H,⟨xs.length,by simp,E2 _,r⟩,?_⟩
 rintro i m σ H ⟨rfl,hi,q⟩;have d:=o i σ H hi q;by_cases c:i<xs.length
 ·refine .inr ⟨⟨xs,xs[i],d,by simp[c]⟩,Pv (i+1),λσ' l n=>⟨xs.length-(i+1),by omega,rfl,c,n⟩,λx l y=>?_⟩
  obtain⟨e,y⟩:=y;subst e;exact j i x σ _ (y xs d) q
 ·have e:i=xs.length:=by omega
  subst e;exact .inl ⟨⟨xs,d,A7 _⟩,k σ H q⟩
noncomputable def qW5 (scope:Scope)(own:List Str)(fv:List Nat)(osc:Scope)(N:List Str):Bool:=
 decide (scope.kind=.function)&&scope.names.all (λy=>decide (y.2≠.cell))&&scope.names.all (λy=>decide (y.2≠.local)||decide (scope.names.lookup y.1=some .local)) &&
 scope.names.all (λy=>decide (y.2≠.free)||(decide (osc.names.lookup y.1=some .cell)||decide (osc.names.lookup y.1=some .free)))&&decide ((own++fv.map λi=>N.getD i T6).Nodup) &&
 fv.all λi=>decide (i<N.length)&&decide (scope.names.lookup (N.getD i T6)=some .free)
theorem lcs {X:Cx} {a:Scope} {own:List Str} {fv:List Nat} (h:qW5 a own fv X.env.scope X.N=true):LcScope X a own fv:=by
 unfold qW5 at h;simp only[L4,decide_eq_true_eq,R3,b8] at h;obtain⟨⟨⟨⟨⟨g,i⟩,f⟩,c⟩,d⟩,j⟩:=h;exact⟨g,i,λy b e=>(f y b).resolve_left λz=>z e,λy b e=>(c y b).resolve_left λz=>z e,d,j⟩
theorem qfY {N:List Str} (h:decide N.Nodup=true):N.Nodup:=of_decide_eq_true h
theorem qMR {X:Cx} {K:Ab1} {es:List Expr} {k n:Nat} {t:TGs} {pos:Pos} (d:X.K=K)(b:X.calm=true)(h:PGs X es t)(c:(C16 es X.env).length=n)(a:(C16 es X.env).findIdx? (·.1)=none):PG X (.Tuple es k pos) (gTup K n t):=by
 subst d c;exact qOD b h rfl a
theorem qbW {X:Cx} {K:Ab1} {b l:Expr} {a:TE} (c:X.K=K)(d:PE X l a):PI X b l (iTup K a):=by subst c;exact qDC d
theorem qK1 {X:Cx} {K:Ab1} (a:X.K=K):IxR X (rIxT K):=by subst a;exact qCD
theorem qSB {X:Cx} {K:Ab1} (a:X.K=K):IxR X (rIxL K):=by subst a;exact qES
theorem qVM {X:Cx} {K:Ab1} (a:X.K=K):OpR X (B80 .In) (rIn K false):=by subst a;exact qJR
theorem qP6 {X:Cx} {K:Ab1} (a:X.K=K):qD9 X (.builtin "len") (λxs H Q=>∃p ys,xs=[.ref p]/\(SqL K H p ys\/SqT K H p ys)/\Q (.int ys.length) H):=by subst a;exact qAA
theorem qKK {X:Cx} {K:Ab1} (a:X.K=K):qD9 X (.type "tuple") (λxs H Q=>∃p ys,xs=[.ref p]/\((SqL K H p ys/\∀l,H l=none->Q (.ref l) (Ag H l (.tup ys)))\/(SqT K H p ys/\Q (.ref p) H))):=by subst a;exact qAE
theorem qNK {xs:Array Nat} {j:Nat} (up:∀a b,a<b->b<xs.size->xs.getD a j<xs.getD b j):∀(fuel lo hi:Nat),lo<=hi->hi<=xs.size->hi-lo<=fuel->(∀i,i<lo->xs.getD i j<j)->(∀i,hi<=i->i<xs.size->j<=xs.getD i j)->
  d9 xs j fuel lo hi<=xs.size/\(∀i,i<d9 xs j fuel lo hi->xs.getD i j<j)/\(∀i,d9 xs j fuel lo hi<=i->i<xs.size->j<=xs.getD i j)
 |0,lo,hi,h1,h2,h3,a,b=>by
  have e:lo=hi:=by lia
  subst e;exact⟨h2,a,b⟩
 |fuel+1,lo,hi,h1,h2,h3,a,b=>by
  unfold d9;by_cases hlt:lo<hi
  ·rw[if_pos hlt];dsimp only;have hm1:lo<=(lo+hi)/2:=by lia
   have hm2:(lo+hi)/2<hi:=by lia
   by_cases hc:xs.getD ((lo+hi)/2) j<j
   ·rw[if_pos hc];refine qNK up fuel _ _ (by lia) h2 (by lia) (λi hi'=>?_) b
    by_cases e:i=(lo+hi)/2
    ·rw[e];exact hc
    ·exact Z7 (up i ((lo+hi)/2) (by lia) (by lia)) hc
   ·rw[if_neg hc];refine qNK up fuel _ _ (by lia) (by lia) (by lia) a (λi hi' hs=>?_)
    by_cases e:i=(lo+hi)/2
    ·rw[e];lia
    ·have:=up ((lo+hi)/2) i (by lia) hs
     lia
  ·rw[if_neg hlt];have e:lo=hi:=by lia
   subst e;exact⟨h2,a,b⟩
theorem qbB {xs:Array Nat} (j:Nat)(h:xs.toList.Pairwise (·<·)):∀a b,a<b->b<xs.size->xs.getD a j<xs.getD b j:=λa b c d=>by
 have:=P5.mp h a b (by simpa using Z7 c d) (by simpa using d) c
 rw[F0,F0,D9 (Z7 c d),D9 d];simpa using this
theorem qHZ {xs:Array Nat} {j:Nat} (h:xs.toList.Pairwise (·<·)):E6 xs j<=xs.size/\(∀i,i<E6 xs j->xs.getD i j<j)/\(∀i,E6 xs j<=i->i<xs.size->j<=xs.getD i j):=by
 unfold E6;exact qNK (qbB j h) xs.size 0 xs.size (E2 _) (A7 _) (by lia) (λi a=>absurd a (by lia)) (λi a b=>absurd b (by lia))
theorem qDU {α:Type} (xs:Array α)(p:Nat)(x:α):(F8 xs p x).toList=xs.toList.take p++x::xs.toList.drop p:=by
 unfold F8;simp[Array.toList_extract,E3]
structure T7 (byText:Bool)(t:B94)(n:Nat):Prop where
 mask:t.mask=7
 dum:t.dummies=#[]
 plain:t.plain=true
 led:t.led=!byText
 size:t.place.size=n
 up:t.place.toList.Pairwise (·<·)
 le:∀j∈t.place.toList,j<=7
section
variable{byText:Bool}{t:B94}{n:Nat}
def pr (i pt:Nat):SetTable.Probe:={j:=i,more:=0,i:=i,perturb:=pt,dummy:=none}
end
theorem qM0 {α:Type} :∀(l:List α) (i:Nat) (h:i<l.length),(l[i]::l.eraseIdx i).Perm l
 |[],i,h=>absurd h (by simp)
 |a::r,0,h=>.refl _
 |a::r,i+1,h=>by
  have hi:i<r.length:=by simpa using h
  have ih:=qM0 r i hi;show(r[i]::a::r.eraseIdx i).Perm (a::r);exact(List.Perm.swap _ _ _).trans (ih.cons a)
theorem qVA {α:Type} (next:Nat->Nat):∀(fuel k:Nat) (left:List α) (out:Array α),fuel=left.length->(B02 next fuel k left out).toList.Perm (out.toList++left)
 |0,k,left,out,h=>by
  have:left=[]:=O1.mp h.symm;subst this;unfold B02;simp
 |fuel+1,k,left,out,h=>by
  have hl:0<left.length:=by lia
  have hm:next k%left.length<left.length:=f9 _ hl;unfold B02;rw[A4 hm];dsimp only;refine(qVA next fuel (k+1) _ _ (by rw[List.length_eraseIdx_of_lt hm];lia)).trans ?_
  rw[Array.toList_push,F7];exact A33 _ (qM0 left _ hm)
theorem qV9 {α:Type} (next:Nat->Nat)(xs:Array α):(pickOrder next xs).toList.Perm xs.toList:=by
 unfold pickOrder;have:=qVA next xs.size 0 xs.toList #[] (by simp)
 simpa using this
abbrev Ents:List Int->List (Int×Value)->Prop:=Paired λk e=>∃tk,e=(hashInt k,O9 k tk)
theorem Ents.perm:∀{es es':List (Int×Value)} {ks:List Int},Ents ks es->es'.Perm es->∃ks',Ents ks' es'/\ks'.Perm ks:=by
 intro es es' ks h p;have c:∀{a b:List (Int×Value)},a.Perm b->∀ks,Ents ks b->∃ks',Ents ks' a/\ks'.Perm ks:=by
  intro a b p
  induction p with
  |nil=>intro ks h;exact⟨ks,h,.refl _⟩
  |cons x p ih=>
   intro ks h;cases h with
   |cons r t=>
    obtain⟨ks',d,e⟩:=ih _ t;exact⟨_::ks',.cons r d,e.cons _⟩
  |swap x y l=>
   intro ks h;cases h with
   |cons r t=>
    cases t with
    |cons r' t'=>exact⟨_,.cons r' (.cons r t'),.swap _ _ _⟩
  |trans p q ih1 ih2=>
   intro ks h;obtain⟨i,d,e⟩:=ih2 ks h;obtain⟨g,j,f⟩:=ih1 i d;exact⟨g,j,f.trans e⟩
 exact c p ks h
theorem Ents.elems {es:List (Int×Value)} {ks:List Int} (h:Ents ks es):ElemsOf (C13 prog w) es:=by
 intro e a;have b:∀{ks:List Int} {es:List (Int×Value)},Ents ks es->∀e∈es,∃k tk,e=(hashInt k,O9 k tk):=by
  intro ks es h
  induction h with
  |nil=>intro e a;cases a
  |cons r t ih=>
   intro e a;rcases B1.mp a with z|z
   ·subst z;obtain⟨tk,e⟩:=r;exact⟨_,tk,e⟩
   ·exact ih e z
 obtain⟨k,tk,rfl⟩:=b h e a;exact⟨⟨k,by simp[C13,A07],rfl⟩,rfl⟩
theorem Ents.find {k:Int} :∀{es:List (Int×Value)} {ks:List Int},Ents ks es->((B45 (λe=>(C13 prog w).is k e.2) es).isSome=true↔k∈ks)
 |_,_,.nil=>by simp
 |_,_,.cons r t=>by
  obtain⟨tk,rfl⟩:=r
  rename_i k' ks' es'
  have ih:=Ents.find (prog:=prog) (w:=w) (k:=k) t;rw[List.findIdx?_cons,B1];have hi:(C13 prog w).is k (O9 k' tk)=decide (k=k'):=by
   by_cases e:k=k'
   ·simp[C13,A07,e]
   ·have e':¬k'=k:=λz=>e z.symm;simp[C13,A07,e,e']
  dsimp only;rw[hi];by_cases e:k=k'
  ·simp[e]
  ·simp only[e,decide_false,E8,if_false,false_or,d8];exact ih
noncomputable def byT (w:World):Bool:=w.params.followText "set-order"
def SetI (w:World)(a:Addr)(zs:List Int)(h:Heap):Prop:=
 ∃(es:Array (Int×Value)) (ep:Nat) (t:B94) (ks:List Int),h.get? a=some {cls:=.type "set",data:=.set es ep t}/\T7 (byT w) t es.size/\Ents ks es.toList/\ks.Perm zs/\zs.Nodup/\zs.length<=4
noncomputable def addI (zs:List Int)(k:Int):List Int:=if k∈zs then zs else zs++[k]
variable{prog:B63}{w:World}{A:Around}{E:Aa1}{s:Shared}
theorem SetI.size {a:Addr} {zs:List Int} {h:Heap} {es:Array (Int×Value)} {ks:List Int} (c:Ents ks es.toList)(b:ks.Perm zs):es.size=zs.length:=by
 rw[<- b.length_eq,C2 c,D2]
noncomputable def dedI:List Int->List Int:=λl=>l.foldl addI []
theorem qaB (zs:List Int)(k:Int):(addI zs k).length<=zs.length+1:=by
 unfold addI
 split<;>simp
theorem qEH:∀(l zs:List Int),(l.foldl addI zs).length<=zs.length+l.length
 |[],zs=>by simp
 |k::r,zs=>by
  have h1:=qEH r (addI zs k);have h2:=qaB zs k;rw[Q4,C6]
  lia
noncomputable abbrev freshSet (w:World):Obj:={cls:=.type "set",dict:=none,data:=.set #[] 0 (.fresh 0 0 (!byT w))}
theorem qO4 (a:Value){Q₁:Aa1}(h:Q₁ (.ref s.heap.objs.size) {s with heap:=s.heap.push (freshSet w)}):
  B86 (model prog w) A (.call (.builtin "set.__new__") ⟨[.type "set",a],[]⟩) (wants Q₁ E) s:=by
 refine C24 ?_;show wpAny _ A.in1 (do checkBuiltinCall "set.__new__" ⟨[.type "set",a],[]⟩;again (.builtin "set.__new__" ⟨[.type "set",a],[]⟩)) _ _ s
 refine B60 (C00 (F.newCall_set_1 a) (B61 ⟨B76 F.plain_set_new _,B71 F.entry_set_new ?_⟩));rw[E4 F.plain_set_new _];unfold Builtin.«set.__new__» B30;have b:=sub_set_self;obtain⟨e,g,d,c,f⟩:=s;dsimp only
 wp_walk
 refine C18 (B61 ?_);dsimp only;simp only[newObj];refine B60 (wpAny_alloc (B61 ?_));exact B61 h
set_option maxHeartbeats 3200000 in
theorem slot_si_next:Slot "set_iterator" "__next__" "set_iterator.__next__":=
 .of (owner:="set_iterator") (n:="__next__") (by rw[typeLookup_type,C44];kernel_rfl) (by decide +kernel) (by decide +kernel) (by decide +kernel)
  (by first|exact .inl (by decide +kernel)|exact .inr (by decide +kernel)) (by rw[isSubtype_type];kernel_rfl)
theorem qI0:Slot "set_iterator" "__iter__" "set_iterator.__iter__":=
 .of (owner:="set_iterator") (n:="__iter__") (by rw[typeLookup_type,C44];kernel_rfl) (by decide +kernel) (by decide +kernel) (by decide +kernel)
  (by first|exact .inl (by decide +kernel)|exact .inr (by decide +kernel)) (by rw[isSubtype_type];kernel_rfl)
theorem qH7:entryFor table "set_iterator.__next__" = some Builtin.«set_iterator.__next__»:=entryFor_of_tree (by kernel_rfl)
theorem qNE:entryFor table "set_iterator.__iter__" = some Builtin.«dict_keyiterator.__iter__»:=
 entryFor_alias (id':="dict_keyiterator.__iter__") (by kernel_rfl) rfl (by decide +kernel) (by kernel_rfl)
theorem qLB:entryFor table "set.__iter__" = some Builtin.«frozenset.__iter__»:=
 entryFor_alias (id':="frozenset.__iter__") (by kernel_rfl) rfl (by decide +kernel) (by kernel_rfl)
theorem qS1:Manifest.owners.lookup (String.ofList "set_iterator".toList.reverse.reverse)=some Manifest.sig_set_iterator:=by kernel_rfl
theorem qI7 (a:Value):argsOk "set_iterator.__next__" ⟨[a],[]⟩:=by
 unfold argsOk;rw[signature?_of (id:="set_iterator.__next__") (n:="__next__".toList.reverse) (o:="set_iterator".toList.reverse) (by kernel_rfl) qS1];kernel_rfl
theorem qPG (a:Value):argsOk "set_iterator.__iter__" ⟨[a],[]⟩:=by
 unfold argsOk;rw[signature?_of (id:="set_iterator.__iter__") (n:="__iter__".toList.reverse) (o:="set_iterator".toList.reverse) (by kernel_rfl) qS1];kernel_rfl
noncomputable def qF9 (w:World)(a:Addr)(ep:Nat)(es:Array (Int×Value)):List (Int×Value):=if byT w=true then(pickOrder (w.params.setOrder a ep) es).toList else es.toList
noncomputable def qFB (w:World)(t:B94)(i:Nat):Nat:=if byT w=true then 0 else if i=0 then 0 else t.place.getD (i-1) 0+1
theorem qF8 (w:World)(a:Addr)(ep:Nat)(es:Array (Int×Value)):(qF9 w a ep es).Perm es.toList:=by
 unfold qF9
 split
 ·exact qV9 _ _
 ·exact .refl _
def SetIt (w:World)(a I:Addr)(es:Array (Int×Value))(ep:Nat)(t:B94)(i:Nat)(h:Heap):Prop:=
 (∃o,h.get? I=some o/\o.cls=.type "set_iterator"/\o.data=.fields #[.int (qFB w t i) 0,.int i 0,.ref a,.int es.size 0,.int ep 0])/\h.get? a=some {cls:=.type "set",data:=.set es ep t}
section
variable{prog:B63}{w:World}{A:Around}{E:Aa1}{s:Shared}{a I:Addr}{es:Array (Int×Value)}{ep:Nat}{t:B94}{i:Nat}
theorem SetIt.typeIs (x:SetIt w a I es ep t i s.heap):s.TypeIs (.ref I) "set_iterator":=let⟨⟨o,h1,h2,_⟩,_⟩:=x;⟨o,h1,h2⟩
theorem qbI {Q:Aa1} (b:SetIt w a I es ep t i s.heap)(h:Q (.ref I) s):wpAny (model prog w) A (pyIter (.ref I)) Q E s:=by
 refine wpAny_pyIter_slot b.typeIs qI0 (B78 qI0 b.typeIs qNE ?_ (qPG _));show wpAny _ _ (ret (.ref I)) _ _ s;exact B61 ⟨_,rfl,"set_iterator",_,b.typeIs,slot_si_next.lookup,h⟩
theorem qbJ {Q:Bool->Shared->Prop} (d:s.TypeIs (.ref a) "set") (h:Q false s):wpAny (model prog w) A (o5 (.ref a)) Q E s:=by
 unfold o5;refine B60 (wpAny_specialOf d PySem.F.slot_set_len.lookup ?_);generalize hid:("set.__len__" : String)=e
 wp_delta
 rw[show splitId e=some ("set","__len__") from by subst hid;decide +kernel]
 subst hid;refine B60 (wpAny_isInstance (T:="set") (b:=true) d (by rw[isSubtype_type];kernel_rfl) ?_)
 refine wpAny_ite_split (λc=>absurd c (by decide)) (λ_=>?_)
 refine wpAny_ite_split (λ_=>?_) (λc=>absurd (by decide +kernel) c)
 refine B60 (C14 d ?_);exact B61 h
end
theorem qBN {ns:List Int} :∀{us:List Value},Vals (ns.map V.int) us->B68 us ns:=by
 induction ns with
 |nil=>intro us h;cases h;exact .nil
 |cons n r ih=>
  intro us h;cases h with
  |cons r1 r2=>
   obtain⟨t,rfl⟩:=r1;exact IntsAre.cons _ _ (ih r2)
theorem qFA:∀{us:List Value} {ns:List Int},B68 us ns->Vals (ns.map V.int) us:=qJ4
def SetO (w:World)(a:Addr)(zs:List Int):HO:=.ext (SetI w a zs)
theorem Inv.track {Ab:Aa2} {σ:St} {H:Hp} {T:Addr} {o:HO} (I:Inv X Ab σ H s)(m:H T=none)(h1:X.s₀.heap.objs.size<=T)(h2:T≠X.env.locals)(l:∀x c,X.env.cells.lookup x=some c->c≠T)(k:∀p∈X.pn++Ab,p.1≠T)
  (d:ObjOk X.prog X.w (Ag H T o) s.heap T o):Inv X Ab σ (Ag H T o) s:=by
 have f:∀b ob,X.s₀.heap.get? b=some ob->b≠T:=λb ob e=>C4 (D7 (B4 e) h1);have a:∀b u,H b=some u->(Ag H T o) b=some u:=λb u e=>by rw[qA7 (qA5 e m)];exact e
 refine⟨I.ok,I.os,I.bare,⟨I.base.keep,I.base.slot,λb ob e n z=>?_,I.base.there,λb j e=>a _ _ (I.base.tups b j e),λb ob u e=>a _ _ (I.base.frzs b ob u e),λb y e=>?_⟩,I.loc,I.cell,?_,λx c e=>?_,λp g=>?_,λb u e=>?_,I.len⟩
 ·rw[qA7 (f b ob e)];exact I.base.free b ob e n z
 ·exact a _ _ (I.base.tbls b y e)
 ·rw[qA7 (F6 h2)];exact I.free
 ·rw[qA7 (l x c e)];exact I.freeC x c e
 ·obtain⟨i,n,r⟩:=I.pin p g;exact⟨i,by rw[qA7 (k p g)];exact n,r⟩
 ·by_cases h:b=T
  ·subst h;rw[qA1] at e;cases e;exact d
  ·rw[qA7 h] at e;exact(I.hok b u e).stay (λc v _ q=>q) (λc q=>a _ _ q) (λc ys q=>a _ _ q) λc t q=>a _ _ q
theorem qHQ {Ab:Aa2} {σ:St} {H:Hp} {vs:List Value} {ns:List Int} (I:Inv X Ab σ H s)(a:B68 vs ns)(b:ns.length<=B62):
  Inv X Ab σ (Ag H s.heap.objs.size (.lst (ns.map V.int))) {s with heap:=s.heap.push {cls:=.type "list",data:=.seq vs.toArray}}:=
 I.lnew (t':=s.toks) (qFA a) (by rw[A0];exact b)
noncomputable def qI3 (lo hi:Int):List V:=(F5 (hi-lo).toNat).map λ(i:Nat)=>V.int (lo+i)
theorem qXN:qD9 X (.type "range") (λxs H Q=>∃i j,xs=[.int i,.int j]/\∀p,H p=none->Q (.ref p) (Ag H p (.rng i j))):=by
 intro d s σ H xs c Q I r h;obtain⟨i,j,rfl,q⟩:=h;obtain⟨u,v,rfl,⟨t,rfl⟩,⟨a,rfl⟩⟩:=qSX r;refine call_range_2 ⟨.ref s.heap.objs.size,_,I.laid (λb o e=>A3 _ e) (A7 _) ?_,rfl,q _ (I.hok.fresh (A7 _))⟩;exact⟨_,_,_,B3 _ rfl⟩
theorem qYF {lo hi:Int} {n:Nat} {acc:List Value} (f:n=(hi-lo).toNat)(a:acc.length=n)(h:∀(i:Nat) (v:Value),acc[i]?=some v->∃t,v=.int (lo+i*1) t):Vals (qI3 lo hi) acc:=by
 have b:∀(m:Nat) (acc:List Value),acc.length=m->∀lo:Int,(∀(i:Nat) (v:Value),acc[i]?=some v->∃t,v=.int (lo+i) t)->Vals ((F5 m).map λ(i:Nat)=>V.int (lo+i)) acc:=by
  intro m
  induction m with
  |zero=>
   intro acc a lo h;have:acc=[]:=O1.mp a;subst this;exact .nil
  |succ m ih=>
   intro acc a lo h;cases acc with
   |nil=>simp at a
   |cons v acc=>
    rw[A24,C9,Z8];have c:=h 0 v rfl;refine .cons c ?_;have d:=ih acc (by simpa using a) (lo+1) λi v hi=>by
     have:=h (i+1) v (by simpa using hi)
     obtain⟨t,e⟩:=this;refine⟨t,?_⟩;rw[e];congr 1
     push_cast
     lia
    have e:((λ(i:Nat)=>V.int (lo+i)) ∘ Nat.succ)=λ(i:Nat)=>V.int (lo+1+i):=by
     funext i
     simp only[Function.comp];congr 1
     push_cast
     lia
    rw[e];exact d
 unfold qI3;rw[<- f];refine b n acc a lo λi v hi=>?_;obtain⟨t,e⟩:=h i v hi;exact⟨t,by rw[e,Int.mul_one]⟩
theorem qT8 (lo hi:Int):(qI3 lo hi).length=(hi-lo).toNat:=by unfold qI3;simp
theorem qfL {lo hi:Int} :U0 lo hi 1=((hi-lo).toNat:Nat):=by rw[rangeSize_one];split<;>lia
theorem qNH {A:Around} {s:Shared} {R:List Value->Shared->Prop} {r:Addr} {a b:Int} {t u v:Tok} {n:Nat} (hh:A.handled=none)(hr:IsRange s.heap r a b 1 t u v)(g:A68 a b 1=true)
  (hn:U0 a b 1=n) (k:n<=2^24)
  (h:∀(h':Heap) (tk:Nat) (acc:Array Value),(∀b o,s.heap.get? b=some o->h'.get? b=some o)->ItemsOf (λi v=>∃t,v=.int (a+i*1) t) acc n->R acc.toList {s with heap:=h',toks:=tk}):
  wpAny (model prog w) A (collect (.ref r)) R E s:=by
 unfold collect;refine B60 (wpAny_runValue (B71 entry_proto_collect' ?_));rw[E4 PySem.F.plain_proto_collect _];show wpAny _ A.in1 (newList [] >>= λl=>again (.builtin "list.__iadd__" ⟨[l,.ref r],[]⟩)) _ _ s;refine B60 (B67 ?_);refine B61 ⟨B76 A11 _,B71 entry_list_iadd' ?_⟩;rw[E4 A11 _];have z:(s.heap.push {cls:=.type "list",data:=.seq ([]:List Value).toArray}).get? s.heap.objs.size=some {cls:=.type "list",data:=.seq #[]}:=B3 _ rfl;show wpAny _ A.in1 (Builtin.List.listExtendWith (.ref s.heap.objs.size) (.ref r) (.ref s.heap.objs.size)) _ _ _;have p:=wpAny_extend_range (prog:=prog) (w:=w) (A:=A) (s:={s with heap:=s.heap.push {cls:=.type "list",data:=.seq ([]:List Value).toArray}})
  (R:=fun (q:Result) (s':Shared)=>∃ (h':Heap) (tk:Nat) (acc':Array Value) (c':Nat),q=.ok (.ret (.ref s.heap.objs.size))/\s'={ s with heap:=h',toks:=tk }/\
   (∀b o,s.heap.get? b=some o->h'.get? b=some o)/\h'.get? s.heap.objs.size=some {cls:=.type "list",dict:=none,data:=.seq acc' c',slots:=#[]}/\ItemsOf (λi v=>∃t,v=.int (a+i*1) t) acc' n)
  hh (A3 _ hr) g hn k s.heap.objs.size (.ref s.heap.objs.size) 0 z
  (λh' tk acc' c' j d c=>⟨h',tk,acc',c',rfl,rfl,λb o e=>j b o (C4 (B4 e)) (A3 _ e),d,c⟩)
 refine B69 p (λm s' x=>?_) λe s' x=>?_
 ·cases m with
  |done f=>
   obtain⟨h',tk,acc',c',e,rfl,j,d,c⟩:=x;cases e;show wpAny _ A (load s.heap.objs.size >>= _) _ _ _;refine B60 (wpAny_load d ?_);exact B61 (h h' tk acc' j c)
  |again c₁=>
   refine⟨x.1,B81 x.2 λq s₂ y=>?_⟩;obtain⟨h',tk,acc',c',rfl,rfl,j,d,c⟩:=y;show wpAny _ A (load s.heap.objs.size >>= _) _ _ _;refine B60 (wpAny_load d ?_);exact B61 (h h' tk acc' j c)
 ·obtain⟨_,_,_,_,e',_⟩:=x;cases e'
theorem qPP {A:Around} {s:Shared} {Q:Aa1} {r:Addr} {a b:Int} {t u v:Tok} {n:Nat} (hh:A.handled=none)(q:IsRange s.heap r a b 1 t u v)(d:A68 a b 1=true)
  (hn:U0 a b 1=n) (k:n<=2^24)
  (h:∀(h':Heap) (tk:Nat) (acc:Array Value),(∀b o,s.heap.get? b=some o->h'.get? b=some o)->ItemsOf (λi v=>∃t,v=.int (a+i*1) t) acc n->Q (.ref h'.objs.size) {s with heap:=h'.push {cls:=.type "tuple",data:=.seq acc},toks:=tk}):
  wpAny (model prog w) A (call (.type "tuple") [.ref r]) Q E s:=by
 have g:B86 (model prog w) A.in1 (.call (.builtin "tuple.__new__") ⟨[.type "tuple",.ref r],[]⟩) (wants (λc j=>j.TypeIs c "tuple"/\Q c j) E) s:=by
  refine C24 ?_;show wpAny _ A.in1.in1 (do checkBuiltinCall "tuple.__new__" ⟨[.type "tuple",.ref r],[]⟩;again (.builtin "tuple.__new__" ⟨[.type "tuple",.ref r],[]⟩)) _ _ s
  refine B60 (C00 (F.newCall_tuple_1 _) (B61 ⟨B76 A94 _,B71 F.entry_tuple_new ?_⟩));rw[E4 A94 _];have x:=sub_tuple_self;have m:=init_tuple_lookup;have z:=madeHere_tuple;have l:s.TypeIs (.ref r) "range":=⟨_,q,rfl⟩
  wp_walk using C14 l,qNH (prog:=prog) (w:=w) (A:=A.in1.in1) hh q d hn k
  intro h' tk acc y f;show wpAny _ _ (Q0 acc.toList.toArray >>= λv=>ret v) _ _ _;unfold Q0;refine B60 (B67 ?_ (by show acc.toList.toArray.size<=B62;simp only[Array.toArray_toList];rw[f.1,B64];lia))
  refine B61 ?_;have e:acc.toList.toArray=acc:=by simp
  rw[e];exact⟨⟨_,B3 _ rfl,rfl⟩,h h' tk acc y f⟩
 refine callType_codes (Q₁:=λc j=>j.TypeIs c "tuple"/\Q c j) A58 (F.typeCall_tuple_1 _) F.entry_object_init g λc j p=>?_;exact⟨p.1,A51 c _,object_init_meets A58.init.lookup A58.made (by decide) prog w A.in1 _ j ⟨p.1,rfl,p.2⟩⟩
theorem qLE (x:X.calm=true):qD9 X (.type "tuple") (λxs H Q=>∃p lo hi,xs=[.ref p]/\H p=some (.rng lo hi)/\-1000000<=lo/\lo<=1000000/\-1000000<=hi/\hi<=1000000/\∀l,H l=none->Q (.ref l) (Ag H l (.tup (qI3 lo hi)))):=by
 intro m s σ H xs us Q I r h;obtain⟨p,lo,hi,rfl,k,l1,l2,l3,l4,q⟩:=h;obtain⟨u,rfl,y⟩:=qDR r;cases y;obtain⟨t,u,v,e⟩:=(show∃t u v,s.heap.get? p=some {cls:=.type "range",data:=.fields #[.int lo t,.int hi u,.int 1 v]} from I.hok p _ k);refine qPP (n:=(hi-lo).toNat) (I.ok.hd x) (show IsRange s.heap p lo hi 1 t u v from e) (small_one (by lia) (by lia) (by lia) (by lia)) qfL (by lia) λd g c j a=>?_
 obtain⟨z,a2⟩:=a;have f:Inv X m σ H {s with heap:=d,toks:=g}:=I.kept j;refine⟨.ref d.objs.size,_,f.laid (t':=g) (λb o e=>A3 _ e) (A7 _) (show ObjOk X.prog X.w _ _ _ (.tup (qI3 lo hi)) from⟨?_,c.toList,qYF rfl (by simpa using z) λi v hi=>a2 i v (by rw[<- M7];exact hi),?_⟩),rfl,q _ (f.hok.fresh (A7 _))⟩
 ·rw[qT8,B64]
  lia
 ·have:=IsTup.new d c;simpa using this
theorem qT7:∀(bs:List Bool),((F5 bs.length).all λi=>(bs[i]?).getD true)=bs.all id:=by
 intro bs;rw[U2,R3,R3]
 constructor
 ·intro h b d;obtain⟨i,c,e⟩:=Y6.mp d;have:=h i (E5.mpr c);rw[A4 c,e] at this;exact this
 ·intro h i c;have a:=E5.mp c;rw[A4 a];exact h _ (Z2 a)
theorem qSP (n:X.calm=true):qD9 X (.builtin "all") (λxs H Q=>∃(p:Addr) (bs:List Bool),xs=[.ref p]/\SqL X.K H p (bs.map V.bl)/\Q (.bl (bs.all id)) H):=by
 intro Ab s σ H xs us Q I r h;obtain⟨p,bs,rfl,hq,q⟩:=h;obtain⟨u,rfl,t⟩:=qDR r;cases t;obtain⟨c,l,y,hz⟩:=I.list hq;have j:=y.isList;have f:p<s.heap.objs.size:=by obtain⟨_,e,_⟩:=j;exact B4 e
 have a:=l.length;rw[A0] at a;refine call_all_walk (B84 j ?_);refine⟨s.heap.objs.size,[s.heap.objs.size,p],[s.heap.objs.size],c.toArray.size,_,_,λi=>(bs[i]?).getD true,rfl,A46 (A:=X.A.in1) (I.ok.hd n) _ p (C4 f) c.toArray,
  ⟨⟨_,B3 _ rfl,rfl,rfl⟩,j.push _⟩,λi v s' Q' E' hP g=>?_,λh' tk w=>?_⟩
 ·have d:c[i]?=some v:=by simpa using hP
  have m:i<bs.length:=by rw[a];exact(A5.mp d).1
  obtain⟨u,k,z⟩:=l.get (i:=i) (x:=.bl bs[i]) (by rw[C5,A4 m];rfl)
  rw[d] at k;cases k;cases z;dsimp only at g;rw[A4 m,l5] at g;exact B79 g
 ·have e:((F5 c.toArray.size).all λi=>(bs[i]?).getD true)=bs.all id:=by
   rw[B5,<- a];exact qT7 bs
  refine⟨.bl (bs.all id),H,I.kept λb x e=>w b x (λo=>by rw[A6.mp o] at e;exact T9 _ (B4 e)) (A3 _ e),?_,q⟩
  rw[e]
  rfl
theorem qVN (b:X.A.units<cLine):OpR X (B80 .Eq) (λx y H Q=>∃p l xs,x=.ref p/\y=.ref l/\SqL X.K H p xs/\SqL X.K H l []/\Q (.bl xs.isEmpty) H):=by
 intro z s σ H x y v u Q I o m h;obtain⟨p,l,xs,rfl,rfl,n,t,q⟩:=h;cases o;cases m;obtain⟨k,g,d,z1⟩:=I.list n;obtain⟨c,i,f,w⟩:=I.list t;cases i;cases xs with
 |nil=>
  cases g;exact SeqAt.eq_listAt (e:=λ_=>true) d.isList f.isList rfl b (λj h _=>absurd h (by simp)) ⟨.bl true,H,I,rfl,q⟩
 |cons a r=>
  cases g;exact SeqAt.eq_list_lengthsAt d.isList f.isList (by simp) b ⟨.bl false,H,I,rfl,q⟩
def Ite (K:Ab1)(l:Addr):It:=
 ⟨λi H=>∃xs x,SqL K H l xs/\xs[i]?=some x,λi H v H'=>∃T x,H T=none/\v=.ref T/\H'=Ag H T (.tup [.int (i:Int),x])/\∀xs,SqL K H l xs->xs[i]?=some x,λi H=>∃xs,SqL K H l xs/\xs.length<=i⟩
theorem Inv.turnedL {Ab:Aa2} {s:Shared} {σ:St} {H:Hp} {h':Heap} {t':Nat} {ch:List Addr} (I:Inv X Ab σ H s)(k:∀b o,b∉ch->s.heap.get? b=some o->h'.get? b=some o)(d:∀b∈ch,FpOk X Ab H b):Inv X Ab σ H {s with heap:=h',toks:=t'}:=by
 have f:∀b u,H b=some u->b∉ch:=λb u e z=>by rw[(d b z).1] at e;cases e
 refine I.step (g':=s.gens) (d':=s.drawn) (ch:=ch) (λb g=>⟨(d b g).2.2.2.1,(d b g).2.1,(d b g).2.2.2.2.1,(d b g).2.2.2.2.2⟩) (λb o _ _ a e _=>k b o a e) (λb o _ _ a e _=>⟨o.slots,k b o a e⟩) (λ_ _ _ _ n=>n)
  (λb o a e=>⟨o,k b o a e⟩) (λ_ _ e=>e) (λ_ _ _ e=>e) (λ_ _ e=>e) (λm j=>?_) (λb u e=>?_) I.bare
 ·obtain⟨o,l,i,h,r⟩:=j;exact⟨o,l,i,k _ o (λz=>(d _ z).2.1 rfl) h,r⟩
 ·refine(I.hok b u e).stay (λc v a q=>k c v ?_ q) (λ_ q=>q) λ_ _ q=>q;rcases a with z|z
  ·rw[z];exact f b u e
  ·exact f c _ z
theorem qUL {K:Ab1} {j:List Expr} {k:Nat} {pos:Pos} (l c e:Addr)(m:e≠c):Turn P w K (.Tuple j k pos) (Ite K l) [e,c] e (λi h=>(∃old,IsEnum h e c i old)/\h.IsListIter c l i) where
 mem:=by simp
 obj:=λi h g b f=>by
  obtain⟨⟨old,d⟩,o,a,_,h4⟩:=g;have e':b=e\/b=c:=by simpa using f
  rcases e' with rfl|rfl
  ·exact⟨_,d,λv z=>by
    have z':A66 _=B19 v:=z;cases z'⟩
  ·exact⟨o,a,λv z=>by rw[h4] at z;cases z⟩
 keep:=λi h h' g kk=>by
  obtain⟨⟨old,d⟩,a⟩:=g;exact⟨⟨old,kk e (by simp) _ d⟩,a.at λo q=>kk c (by simp) o q⟩
 item:=by
  intro X hP hw hK hc i Ab s σ H E I t g hg;subst hP hw hK;obtain⟨xs,x,y,hx⟩:=hg;obtain⟨a0,rv,p,hz⟩:=I.list y;obtain⟨u,hu,ru⟩:=rv.get hx;obtain⟨⟨old,d⟩,a⟩:=g;refine wpAny_pyNext_enum_item d a p.isList (x:=u) (by simpa using hu) m λh' a1 a2 a3 a4 a5=>?_
  refine ⟨_,rfl,wpAny_letOwnedTupleGo_enum a1 fun a b1 b2=>?_⟩;have n:e<s.heap.objs.size:=B4 d;have I1:Inv X Ab σ H { s with heap:=a,toks:=s.toks+1 }:=I.turnedL (ch:=[e,c]) (fun b o f q=>by
   have r:b≠e:=λz=>f (by simp[z])
   have a7:b≠c:=λz=>f (by simp[z])
   exact(b2.2 b r).trans (a5 b o r a7 q)) t
  have hT:H s.heap.objs.size=none:=I.hok.fresh (A7 _);have fT:=I.fpOk (H':=H) (b:=s.heap.objs.size) (A7 _) hT;have gT:a.get? s.heap.objs.size=some {cls:=.type "tuple",data:=.seq #[.int i s.toks,u]}:=(b2.2 _ (O3 n)).trans a3;refine⟨.ref s.heap.objs.size,Ag H s.heap.objs.size (.tup [.int (i:Int),x]),I1.track hT I.sz fT.2.1 fT.2.2.2.2.1 fT.2.2.2.2.2 ⟨by simp only[C6,J6];rw[B64];decide,[.int (i:Int) s.toks,u],.cons ⟨_,rfl⟩ (.cons ru .nil),⟨_,gT,rfl,_,rfl⟩⟩,rfl,
   ⟨_,x,hT,rfl,rfl,λys hy=>by rw[I.list_inj hy y];exact hx⟩,⟨⟨_,b1⟩,a2.at λo q=>(b2.2 c (F6 m)).trans q⟩,λb f=>?_⟩
  have a6:b<s.heap.objs.size:=by
   have e':b=e\/b=c:=by simpa using f
   rcases e' with rfl|rfl
   ·exact n
   ·obtain⟨o,q,_⟩:=a;exact B4 (by assumption)
  rw[qA7 (C4 a6)];exact(t b f).1
 done:=by
  intro X hP hw hK hc i Ab s σ H E I t g hg;subst hP hw hK;obtain⟨xs,y,hx⟩:=hg;obtain⟨a0,rv,p,hz⟩:=I.list y;have hl:=rv.length;obtain⟨⟨old,d⟩,a⟩:=g;exact wpAny_pyNext_enum_end (I.ok.hd hc) d a p.isList (by simp;lia) λh' eb=>⟨rfl,I.turnedL (t':=s.toks) (ch:=[e,c]) (λb o f q=>eb b o (λz=>f (by simp[z])) q) t⟩
 self:=λ_ _ _ _ _ g h=>by
  obtain⟨⟨old,d⟩,a⟩:=g;exact C34 d h
def qgB (K:Ab1)(ta:TA):TI:=λσ H R=>ta σ H λvs H1=>∃l,vs=[.ref l]/\(∃xs,SqL K H1 l xs)/\R (Ite K l) H1
theorem qMQ {c:List Expr} {k:Nat} {d:Pos} {a:Expr} {g:TA} {p pos:Pos} (m:Gl X "enumerate") (r:X.mg "enumerate" = none) (o:B72 "enumerate" = some (.type "enumerate")) (ha:PA X [a] g) (j:B66 [a] X.env=[(false,eval a X.env)]:=by rfl):
  PI X (.Tuple c k d) (.Call (.Name "enumerate" p) [a] [] pos) (qgB X.K g):=by
 intro f s σ H R I h;refine Call_ (qGZ I m r o (Q3 (thn (ha pos f s σ H _ I h) λus s1 ⟨vs,H1,I1,r1,q1⟩=>?_) j rfl));obtain⟨l,e,⟨xs,hq⟩,q⟩:=q1;subst e;obtain⟨u,rfl,t⟩:=qDR r1;cases t;obtain⟨n,rv,pl,hz⟩:=I1.list hq;refine call_enumerate_list pl.isList λv i hi x y=>?_;refine C34 i ?_;have z:Inv X f σ H1 {s1 with heap:=v}:=I1.kept (t':=s1.toks) y;refine⟨s1.heap.objs.size+1,[s1.heap.objs.size+1,s1.heap.objs.size],_,_,H1,rfl,z,qUL l s1.heap.objs.size (s1.heap.objs.size+1) (Z3 _),⟨⟨_,i⟩,hi⟩,λb w=>?_,q⟩;have e':b=s1.heap.objs.size+1\/b=s1.heap.objs.size:=by simpa using w
 rcases e' with rfl|rfl
 ·exact I1.fpOk (T5 _) (I1.hok.fresh (T5 _))
 ·exact I1.fpOk (A7 _) (I1.hok.fresh (A7 _))
theorem qQL {K:Ab1} {a:Addr} {xs:List V} {g:TG} {h:TT} {f:TE} {Kf:Hp->Prop} {σ0:St} {H0:Hp} {p:Addr} (Pv:Nat->St->Hp->Prop)(t:Pv 0 σ0 H0)(s:∀i σ H,i<=xs.length->Pv i σ H->SqL K H a xs)
  (l:∀i x σ H T,xs[i]?=some x->Pv i σ H->H T=none->g (.ref T) σ (Ag H T (.tup [.int (i:Int),x])) λσ2 H2=>h σ2 H2 λb H3=>if b=true then f σ2 H3 λy H4=>∃ys,H4 p=some (.lst ys)/\ys.length<B62/\Pv (i+1) σ2 (Ag H4 p (.lst (ys++[y]))) else Pv (i+1) σ2 H3)
  (n:∀σ H,Pv xs.length σ H->Kf H):
  LcG (Ite K a) g h f Kf σ0 H0 p:=by
 refine⟨λi m σ H=>m=xs.length-i/\i<=xs.length/\Pv i σ H,⟨xs.length,by simp,E2 _,t⟩,?_⟩
 rintro i m σ H ⟨rfl,hi,q⟩;have d:=s i σ H hi q;by_cases c:i<xs.length
 ·refine .inr ⟨⟨xs,xs[i],d,by simp[c]⟩,Pv (i+1),λσ' o r=>⟨xs.length-(i+1),by lia,rfl,c,r⟩,λv o y=>?_⟩
  obtain⟨T,x,u,j,k,y⟩:=y;subst j k;exact l i x σ H T (y xs d) q u
 ·have e:i=xs.length:=by lia
  subst e;exact .inl ⟨⟨xs,d,A7 _⟩,n σ H q⟩
theorem qHP {s:Shared} {c t:Addr} {i:Nat} {a:Array Value} {x:Value} {Q:Aa1} (b:s.heap.IsTupleIter c t i)(h:s.heap.IsTuple t a)(l:a[i]?=some x)
  (k:∀h':Heap,h'.IsTupleIter c t (i+1)->Heap.SameBut c s.heap h'->Q x {s with heap:=h'}):wpAny (model prog w) A (y7 (.ref c)) Q E s:=by
 obtain⟨o,e,j,d⟩:=id b;obtain⟨m,f,_,n,g⟩:=h;refine B60 (wpAny_callSpecial?_slot b.typeIs U7 (B78 U7 b.typeIs o6 ?_ (m4 _)));show wpAny _ _ (field (.ref c) 0 >>= _) _ _ _;refine B60 (B96 e d rfl ?_);refine C49 rfl ?_;show wpAny _ _ (field (.ref c) 1 >>= _) _ _ _;refine B60 (B96 e d rfl ?_);show wpAny _ _ (seqItems? (.ref t) >>= _) _ _ _;refine B60 (B82 f g ?_);show wpAny _ _ (match a[i]? with|some x=>_|none=>_) _ _ _
 rw[l];refine B60 (B89 e d (by simp) ?_)
 refine B61 ⟨x,rfl,B61 (k _ ⟨_,E7 _ e (V3 (O4 d _)),(g8 o _).trans j,?_⟩ (R7 _ _ _))⟩;rw[O4 d];simp
 rfl
theorem qIC {A:Around} {s:Shared} {d t:Addr} {i:Nat} {b:Array Value} {Q:Aa1} (p:A.handled=none)(c:s.heap.IsTupleIter d t i)(k:s.heap.IsTuple t b)(l:b[i]?=none)
  (n:∀(h':Heap) (e:Addr),Heap.ExtBut d s.heap h'->(∃o,h'.get? e=some o/\o.cls=.type "StopIteration")->E (.ref e) {s with heap:=h'}):wpAny (model prog w) A (y7 (.ref d)) Q E s:=by
 obtain⟨o,f,r,h⟩:=id c;obtain⟨q,j,_,u,g⟩:=k;refine B60 (wpAny_callSpecial?_slot c.typeIs U7 (B78 U7 c.typeIs o6 ?_ (m4 _)));show wpAny _ _ (field (.ref d) 0 >>= _) _ _ _;refine B60 (B96 f h rfl ?_);refine C49 rfl ?_;show wpAny _ _ (field (.ref d) 1 >>= _) _ _ _;refine B60 (B96 f h rfl ?_);show wpAny _ _ (seqItems? (.ref t) >>= _) _ _ _;refine B60 (B82 j g ?_);show wpAny _ _ (match b[i]? with|some x=>_|none=>_) _ _ _
 rw[l];refine B60 (C01 ?_);refine B60 (B89 f h (by simp) ?_)
 show wpAny _ _ (newExc (.type "StopIteration") [] >>= _) _ _ _;refine B60 ?_;simp only[newExc,newTuple];refine B60 (B67 ?_ (by size_fits))
 refine B60 (m:=C15 _ _) (C00 (a:=J5) (by first|rfl|(simp only[C15];rfl)) ?_)
 refine B67 ?_ (by size_fits)
 simp only[raiseNew];refine B60 (wpAny_handled ?_);rw[show A.in1.handled=none from p];refine B60 (B61 (wpAny_throw ?_));exact n _ _ (((R7 ..).extBut.push _).push _) ⟨_,B3 _ rfl,rfl⟩
def SIt (b:Bool)(h:Heap)(it l:Addr)(i:Nat):Prop:=match b with|true=>h.IsTupleIter it l i|false=>h.IsListIter it l i
def SSq (b:Bool)(h:Heap)(l:Addr)(xs:Array Value):Prop:=match b with|true=>h.IsTuple l xs|false=>h.IsList l xs
noncomputable abbrev itObj (b:Bool) (l:Addr):Obj:={cls:=.type (match b with|true=>"tuple_iterator" |false=>"list_iterator"),data:=.fields #[.ref l,.int 0 0]}
theorem qT9 {b:Bool} {s:Shared} {l:Addr} {xs:Array Value} {Q:Aa1} (h:SSq b s.heap l xs)(a:Q (.ref s.heap.objs.size) {s with heap:=s.heap.push (itObj b l)}):wpAny (model prog w) A (pyIter (.ref l)) Q E s:=by
 cases b
 ·exact B84 h a
 ·exact C26 h a
theorem qU2 {M:Model} {c:Value} {Q:Bool->Shared->Prop} (h:∀b,Q b s):wpAny M A (Y9 c) Q E s:=by
 unfold Y9;exact B60 (wpAny_stack_any λa=>B61 (h _))
theorem qX6 (l:Addr) (a:Array Value):Meets (Builtin.«enumerate.__new__» {pos:=[.type "enumerate",.ref l]}) λ_ R s=>
  s.heap.IsTuple l a/\R (.ok (.ret (.ref (s.heap.push (itObj true l)).objs.size))) {s with heap:=(s.heap.push (itObj true l)).push {cls:=.type "enumerate",data:=.fields #[.none,.bool false,.ref s.heap.objs.size,rawInt 0,.none,.none]}}:=by
 refine Meets.of_wp λc w A R s h=>?_;obtain⟨j,h⟩:=h;refine B60 ?_;refine B60 (B61 ?_);refine C49 rfl ?_;refine B60 (C00 sub_enumerate ?_);refine C49 rfl ?_;refine B61 ?_;refine wpAny_ite_true rfl ?_;refine B60 (qU2 λi=>?_);have g:wpAny (model c w) A.in1 (pyIter (.ref l) >>= λk=>m5 (.type "enumerate") (A69++[k,rawInt 0,.none,.none]) >>= λv=>ret v) (λd f=>∃v,d=.done (.ret v)/\R (.ok (.ret v)) f) (λe f=>R (.error e) f) s:=by
  refine B60 (qT9 (b:=true) j ?_);refine B60 ?_;unfold m5;dsimp only;refine B67 ?_ (by first|rfl|(show(6:Nat)<=B62+2;rw[B64];decide))
  exact B61 ⟨_,rfl,h⟩
 cases i
 ·exact g
 ·exact g
theorem qU7 {s:Shared} {l:Addr} {a:Array Value} {Q:Aa1} (f:s.heap.IsTuple l a)
  (h:∀h':Heap,IsEnum h' (s.heap.objs.size+1) s.heap.objs.size 0 .none->h'.IsTupleIter s.heap.objs.size l 0->h'.objs.size=s.heap.objs.size+2->(∀(b:Addr) (o:Obj),s.heap.get? b=some o->h'.get? b=some o)->Q (.ref (s.heap.objs.size+1)) {s with heap:=h'}):
  wpAny (model prog w) A (call (.type "enumerate") [.ref l]) Q E s:=by
 refine callType_new F.called_enumerate (by decide) (F.typeCall_enumerate_1 _) (F.newCall_enumerate_1 _) (λd=>A51 d _) F.entry_enumerate_new (qX6 l a) ⟨f,?_⟩
 have c:(s.heap.push (itObj true l)).objs.size=s.heap.objs.size+1:=G9 ..;rw[c];have g:((s.heap.push (itObj true l)).push {cls:=.type "enumerate",data:=.fields #[.none,.bool false,.ref s.heap.objs.size,rawInt 0,.none,.none]}).get? (s.heap.objs.size+1)=some {cls:=.type "enumerate",data:=.fields #[.none,.bool false,.ref s.heap.objs.size,rawInt 0,.none,.none]}:=by
  rw[<- c];exact B3 _ rfl
 exact⟨⟨_,g,rfl⟩,h _ g ⟨_,A3 _ (B3 _ rfl),rfl,rfl⟩ ((G9 ..).trans (by rw[c])) λb o e=>A3 _ (A3 _ e)⟩
theorem qb2 {A:Around} (g:A.handled=none)(d l:Addr)(f:l≠d)(c:Array Value):Draws prog w A d [d,l] c.size (λi v=>c[i]?=some v) λi h=>h.IsTupleIter d l i/\h.IsTuple l c where
 live:=λi h ⟨⟨o,e,_⟩,_⟩=>⟨o,e⟩
 frame:=λi h h' ⟨⟨o,e,r⟩,⟨o2,e2,r2⟩⟩ k=>⟨⟨o,k d (by simp) _ e,r⟩,⟨o2,k l (by simp) _ e2,r2⟩⟩
 item:=λi s Q E hi ⟨h1,h2⟩ hQ=>qHP h1 h2 (D9 hi) λh' a b=>hQ _ h' s.toks (D9 hi) ⟨a,by obtain⟨o,e,r⟩:=h2;exact⟨o,(b.2 l f).trans e,r⟩⟩ b
 done:=λs Q E ⟨h1,h2⟩ hE=>qIC g h1 h2 (by simp) hE
def IteT (K:Ab1)(l:Addr):It:=
 ⟨λi H=>∃xs x,SqT K H l xs/\xs[i]?=some x,λi H v H'=>∃T x,H T=none/\v=.ref T/\H'=Ag H T (.tup [.int (i:Int),x])/\∀xs,SqT K H l xs->xs[i]?=some x,λi H=>∃xs,SqT K H l xs/\xs.length=i⟩
theorem qSZ {K:Ab1} {r:List Expr} {k:Nat} {pos:Pos} (l a e:Addr)(n:e≠a)(hl:l≠a)(a8:l≠e):Turn P w K (.Tuple r k pos) (IteT K l) [e,a] e (λi h=>(∃old,IsEnum h e a i old)/\h.IsTupleIter a l i) where
 mem:=by simp
 obj:=λi h g b f=>by
  obtain⟨⟨old,d⟩,o,j,_,h4⟩:=g;have e':b=e\/b=a:=by simpa using f
  rcases e' with rfl|rfl
  ·exact⟨_,d,λv z=>by
    have z':A66 _=B19 v:=z;cases z'⟩
  ·exact⟨o,j,λv z=>by rw[h4] at z;cases z⟩
 keep:=λi h h' g kk=>by
  obtain⟨⟨old,d⟩,j⟩:=g;exact⟨⟨old,kk e (by simp) _ d⟩,j.at λo q=>kk a (by simp) o q⟩
 item:=by
  intro X hP hw hK hc i Ab s σ H E I hf g hg;subst hP hw hK;obtain⟨xs,x,hq,hx⟩:=hg;obtain⟨c,rv,p,hz⟩:=I.tuple hq;obtain⟨u,hu,ru⟩:=rv.get hx;obtain⟨⟨old,d⟩,j⟩:=g;have m:i<c.toArray.size:=by have:=(A5.mp hu).1;simpa using this
  refine wpAny_pyNext_enum_itemD (qb2 (A:=X.A.in1) (I.ok.hd hc) a l hl c.toArray) d ⟨j,p⟩ m n (by simp[n,F6 a8]) λu' h' tk a0 a1 a2 a3 a4 a5=>?_
  have eu:u'=u:=by
   have:c[i]?=some u':=by simpa using a0
   rw[hu] at this;exact(D1 this).symm
  subst eu;refine ⟨_,rfl,wpAny_letOwnedTupleGo_enum a1 fun a6 b1 b2=>?_⟩;have t:e<s.heap.objs.size:=B4 d;have I1:Inv X Ab σ H { s with heap:=a6,toks:=tk+1 }:=I.turnedL (ch:=[e,a]) (fun b o f q=>by
   have y:b≠e:=λz=>f (by simp[z])
   have a9:b≠a:=λz=>f (by simp[z])
   exact(b2.2 b y).trans (a5 b o y a9 q)) hf
  have hT:H s.heap.objs.size=none:=I.hok.fresh (A7 _);have fT:=I.fpOk (H':=H) (b:=s.heap.objs.size) (A7 _) hT;have gT:a6.get? s.heap.objs.size=some {cls:=.type "tuple",data:=.seq #[.int i tk,u']}:=(b2.2 _ (O3 t)).trans a3;refine⟨.ref s.heap.objs.size,Ag H s.heap.objs.size (.tup [.int (i:Int),x]),I1.track hT I.sz fT.2.1 fT.2.2.2.2.1 fT.2.2.2.2.2 ⟨by simp only[C6,J6];rw[B64];decide,[.int (i:Int) tk,u'],.cons ⟨_,rfl⟩ (.cons ru .nil),⟨_,gT,rfl,_,rfl⟩⟩,rfl,
   ⟨_,x,hT,rfl,rfl,λys hy=>by rw[I.tuple_inj hy hq];exact hx⟩,⟨⟨_,b1⟩,a2.1.at λo q=>(b2.2 a (F6 n)).trans q⟩,λb f=>?_⟩
  have a7:b<s.heap.objs.size:=by
   have e':b=e\/b=a:=by simpa using f
   rcases e' with rfl|rfl
   ·exact t
   ·obtain⟨o,q,_⟩:=j;exact B4 q
  rw[qA7 (C4 a7)];exact(hf b f).1
 done:=by
  intro X hP hw hK hc i Ab s σ H E I hf g hg;subst hP hw hK;obtain⟨xs,hq,hx⟩:=hg;obtain⟨c,rv,p,hz⟩:=I.tuple hq;have aa:=rv.length;obtain⟨⟨old,d⟩,j⟩:=g;have m:i=c.toArray.size:=by simp;lia
  subst m;exact wpAny_pyNext_enum_endD (qb2 (A:=X.A.in1) (I.ok.hd hc) a l hl c.toArray) d ⟨j,p⟩ λh' eb=>⟨rfl,I.turnedL (t':=s.toks) (ch:=[e,a]) (λb o f q=>eb b o (λz=>f (by simp[z])) q) hf⟩
 self:=λ_ _ _ _ _ g h=>by
  obtain⟨⟨old,d⟩,j⟩:=g;exact C34 d h
def qeK (K:Ab1)(ta:TA):TI:=λσ H R=>ta σ H λvs H1=>∃l,vs=[.ref l]/\(∃xs,SqT K H1 l xs)/\R (IteT K l) H1
theorem qYP {c:List Expr} {k:Nat} {f:Pos} {a:Expr} {i:TA} {p pos:Pos} (r:Gl X "enumerate") (w:X.mg "enumerate" = none) (v:B72 "enumerate" = some (.type "enumerate")) (ha:PA X [a] i) (n:B66 [a] X.env=[(false,eval a X.env)]:=by rfl):
  PI X (.Tuple c k f) (.Call (.Name "enumerate" p) [a] [] pos) (qeK X.K i):=by
 intro g s σ H R I h;refine Call_ (qGZ I r w v (Q3 (thn (ha pos g s σ H _ I h) λus s1 ⟨vs,H1,I1,r1,q1⟩=>?_) n rfl));obtain⟨l,e,⟨xs,hq⟩,q⟩:=q1;subst e;obtain⟨u,rfl,x⟩:=qDR r1;cases x;obtain⟨t,rv,j,hz⟩:=I1.tuple hq;have d:l<s1.heap.objs.size:=by obtain⟨o,e,_⟩:=j;exact B4 e
 refine qU7 j λy m hi a0 hk=>?_;refine C34 m ?_;have I2:Inv X g σ H1 {s1 with heap:=y}:=I1.kept (t':=s1.toks) hk;refine⟨s1.heap.objs.size+1,[s1.heap.objs.size+1,s1.heap.objs.size],_,_,H1,rfl,I2,qSZ l s1.heap.objs.size (s1.heap.objs.size+1) (Z3 _) (C4 d) (C4 (G0 d)),⟨⟨_,m⟩,hi⟩,λb z=>?_,q⟩;have e':b=s1.heap.objs.size+1\/b=s1.heap.objs.size:=by simpa using z
 rcases e' with rfl|rfl
 ·exact I1.fpOk (T5 _) (I1.hok.fresh (T5 _))
 ·exact I1.fpOk (A7 _) (I1.hok.fresh (A7 _))
theorem qZY:PGet X (rIxL X.K):=by
 intro m s σ H o i ov iv Q I ro v h;obtain⟨p,xs,i,z,rfl,rfl,y,he,q⟩:=h;cases ro;obtain⟨t,rfl⟩:=v;obtain⟨c,r,g,hz⟩:=I.list y;obtain⟨j,b,n,h3,x,l⟩:=qR5 he;obtain⟨w,f,e⟩:=r.get n;have u:=r.length;have hn:=qLT;have a:EP X m σ Q w s:=⟨z,H,I,e,q⟩;by_cases k:0<=i
 ·have d:i.toNat=j:=by
   rw[seqIndex_of k l] at b;exact D1 b
  exact wpAny_getItem_list g.isList k (by lia) (by rw[d];simpa using f) a
 ·have d:(i+(c.toArray.size:Int)).toNat=j:=by
   rw[seqIndex_neg (by lia) x] at b
   rw[B5,<- u];exact D1 b
  exact wpAny_getItem_list_neg g.isList (by lia) (by rw[B5]<;>lia) (by lia) (by rw[d];simpa using f) a
theorem qWU {K:Ab1} {a:Addr} {xs:List V} {g:TG} {d:TS} {D:Ends} {σ0:St} {H0:Hp} (Pv:Nat->St->Hp->Prop)(n:Pv 0 σ0 H0)(o:∀i σ H,i<=xs.length->Pv i σ H->SqT K H a xs)
  (j:∀i x σ H T,xs[i]?=some x->Pv i σ H->H T=none->g (.ref T) σ (Ag H T (.tup [.int (i:Int),x])) λσ2 H2=>d {D with nx:=Pv (i+1),ct:=Pv (i+1),bk:=D.nx} σ2 H2)
  (k:∀σ H,Pv xs.length σ H->D.nx σ H):
  ∃W:Nat->Nat->St->Hp->Prop,(∃m,W 0 m σ0 H0)/\∀i m σ H,W i m σ H->
   ((IteT K a).stop i H/\D.nx σ H)\/((IteT K a).go i H/\∃N:St->Hp->Prop,(∀σ' H',N σ' H'->∃m',m'<m/\W (i+1) m' σ' H')/\∀x H',(IteT K a).yld i H x H'->g x σ H' λσ2 H2=>d {D with nx:=N,ct:=N,bk:=D.nx} σ2 H2):=by
 refine⟨λi m σ H=>m=xs.length-i/\i<=xs.length/\Pv i σ H,⟨xs.length,by simp,E2 _,n⟩,?_⟩
 rintro i m σ H ⟨rfl,hi,q⟩;have c:=o i σ H hi q;by_cases b:i<xs.length
 ·refine .inr ⟨⟨xs,xs[i],c,by simp[b]⟩,Pv (i+1),λσ' H' l=>⟨xs.length-(i+1),by lia,rfl,b,l⟩,λv H' y=>?_⟩
  obtain⟨T,x,p,f,h,y⟩:=y;subst f h;exact j i x σ H T (y xs c) q p
 ·have e:i=xs.length:=by lia
  subst e;exact .inl ⟨⟨xs,c,rfl⟩,k σ H q⟩
open PySem
@[irreducible] def cst (i:Int)(p:Pos):Expr:=.Constant (.int i) 0 p
theorem qc6 {P:(St->Hp->Prop)->Prop} {B:St->Hp->Prop} (h:∀N:St->Hp->Prop,(∀σ H,B σ H->N σ H)->P N):∃N:St->Hp->Prop,(∀σ' H',N σ' H'->B σ' H')/\P N:=⟨B,λ_ _ z=>z,h B λ_ _ z=>z⟩
theorem qOT {K:Ab1} {a:Addr} {xs:List V} {g:TG} {b:TS} {D:Ends} {σ:St} {H:Hp} (Pv:Nat->St->Hp->Prop)(f:Pv 0 σ H)(h:∀i σ H,i<=xs.length->Pv i σ H->SqL K H a xs)
  (c:∀i x σ H,xs[i]?=some x->Pv i σ H->∀N:St->Hp->Prop,(∀σ H,Pv (i+1) σ H->N σ H)->g x σ H λσ2 H2=>b {D with nx:=N,ct:=N,bk:=D.nx} σ2 H2) (d:∀σ H,Pv xs.length σ H->D.nx σ H):
  ForG (Itl K a) g b D σ H:=
 qH5 Pv f h (λi x σ H j e=>c i x σ H j e _ λ_ _ z=>z) d
@[elab_as_elim] theorem us0 {α:Type}{P:List α->Prop}(a:List α)(b:a.length=0)(h:P []):P a:=by
 match a,b with
 |[],_=>exact h
@[elab_as_elim] theorem us1 {α:Type}{P:List α->Prop}(b:List α)(c:b.length=1)(h:∀a,P [a]):P b:=by
 match b,c with
 |[a],_=>exact h a
@[elab_as_elim] theorem us2 {α:Type}{P:List α->Prop}(c:List α)(d:c.length=2)(h:∀a b,P [a,b]):P c:=by
 match c,d with
 |[a,b],_=>exact h a b
@[elab_as_elim] theorem us3 {α:Type}{P:List α->Prop}(d:List α)(e:d.length=3)(h:∀a b c,P [a,b,c]):P d:=by
 match d,e with
 |[a,b,c],_=>exact h a b c
@[elab_as_elim] theorem us4 {α:Type}{P:List α->Prop}(e:List α)(f:e.length=4)(h:∀a b c d,P [a,b,c,d]):P e:=by
 match e,f with
 |[a,b,c,d],_=>exact h a b c d
end L2
namespace L2.G
open PySem PyProof.Rows
abbrev gSM:=StateT SortSt Sem
class NM where
 nm:Value->Int
 good:Value->Prop
variable[NM]
def gkv (p:Keyed):Int:=NM.nm p.1
def gIK (p:Keyed):Prop:=NM.good p.1
class LtOk (prog:B63)(w:World)(A:Around)(s:Shared)(κ0:C19):Prop where
 lt:∀{x y:Value} {Q:Bool->Shared->Prop} {E:Aa1},NM.good x->NM.good y->Q (decide (NM.nm x<NM.nm y)) s->wpAny (model prog w) A (keyLt' κ0 x y) Q E s
noncomputable def gK (xs:Array Keyed)(i:Nat):Int:=match xs[i]? with
 |some p=>NM.nm p.1
 |none=>0
def gSortedTo (xs:Array Keyed)(k:Nat):Prop:=∀i j,i<=j->j<k->gK xs i<=gK xs j
def qCU (xs:Array Keyed):Prop:=∀p,p∈xs.toList->NM.good p.1
theorem qeN {xs:Array Keyed} {i:Nat} (hi:i<xs.size):gK xs i=NM.nm xs[i].1:=by unfold gK;rw[getElem?_pos xs i hi]
theorem qH4 {xs a:Array Keyed} {i j:Nat} (h:xs[i]?=a[j]?):gK xs i=gK a j:=by unfold gK;rw[h]
theorem qK7 {xs:Array Keyed} {a d:Nat} (f:a<xs.size)(g:d<=a)(k:Nat):
  gK (bubble xs a d) k=if k=a-d then gK xs a else if a-d<k/\k<=a then gK xs (k-1) else gK xs k:=by
 have e:=getElem?_bubble f d g k;by_cases b:k=a-d
 ·rw[if_pos b] at e ⊢;exact qH4 e
 ·rw[if_neg b] at e ⊢;by_cases c:a-d<k/\k<=a
  ·rw[if_pos c] at e ⊢;exact qH4 e
  ·rw[if_neg c] at e ⊢;exact qH4 e
theorem qH3 {xs:Array Keyed} {i j:Nat} (b:j<=xs.size)(k:Nat):
  gK (mirror xs i j ((j-i)/2)) k=if i<=k/\k<j then gK xs (i+j-1-k) else gK xs k:=by
 have e:=getElem?_mirror_all (i:=i) b k;by_cases a:i<=k/\k<j
 ·rw[if_pos a] at e ⊢;exact qH4 e
 ·rw[if_neg a] at e ⊢;exact qH4 e
theorem qAX {xs:Array Keyed} {i j:Nat} (b:j<=xs.size)(a:∀k,i<=k->k<j->gK xs k=gK xs (j-1))(k:Nat):
  gK (mirror xs i j ((j-i)/2)) k=gK xs k:=by
 rw[qH3 b]
 split
 ·rw[a _ (by omega) (by omega),a k (by omega) (by omega)]
 ·rfl
section
variable{prog:B63}{w:World}{A:Around}{E:Aa1}{s:Shared}{κ0:C19}[LtOk prog w A s κ0]
theorem qZT {st:SortSt} {x y:Keyed} {Q:Option Bool->SortSt->Prop} (b:kindOf st=κ0)(c:gIK x)(a:gIK y)(h:Q (some (decide (gkv x<gkv y))) st):wpS (model prog w) A E s (lt' x y) Q st:=by
 rw[lt'_eq];refine B73 (wpS_get ?_);rw[b];refine B73 (wpS_lift (C21 (LtOk.lt c a ⟨rfl,?_⟩)));exact B83 h
theorem qWO {st:SortSt} {a:Array Keyed} {i:Nat} {x:Keyed} {Q:Keyed->SortSt->Prop} (h:a[i]?=some x)(b:Q x st):wpS (model prog w) A E s (elem' a i) Q st:=by
 rw[elem'_eq,h];exact B83 b
end
end L2.G
namespace L2.G
open PySem PyProof.Rows
variable[NM]
structure gMR (R:Keyed->Keyed->Prop)(all out ra rb:List Keyed):Prop where
 perm:(out++(ra++rb)).Perm all
 up:out.Pairwise R
 ua:ra.Pairwise R
 ub:rb.Pairwise R
 la:∀x∈out,∀y∈ra,R x y
 lb:∀x∈out,∀y∈rb,R x y
theorem qWR {a:Array Keyed} {i:Nat} (h:i<a.size):∃x,a[i]?=some x/\a.toList[i]?=some x/\x∈a.toList:=⟨a[i],D9 h,by simp[h],by simp⟩
end L2.G
namespace L2.G
open PySem PyProof.Rows
variable[NM]
theorem gifT {α:Type} {c:Prop} [Decidable c]{x y:gSM α}{Q:α->SortSt->Prop}{st:SortSt}(h:c)(k:wpS (model prog w) A E s x Q st):wpS (model prog w) A E s (if c then x else y) Q st:=by rw[if_pos h];exact k
theorem gifF {α:Type} {c:Prop} [Decidable c]{x y:gSM α}{Q:α->SortSt->Prop}{st:SortSt}(h:¬c)(k:wpS (model prog w) A E s y Q st):wpS (model prog w) A E s (if c then x else y) Q st:=by rw[if_neg h];exact k
end L2.G
namespace L2.G
open PySem PyProof.Rows
variable[NM]
def gSeg (xs:Array Keyed)(lo hi:Nat):Prop:=∀i j,lo<=i->i<=j->j<hi->gK xs i<=gK xs j
theorem qWS {xs:Array Keyed} {i:Nat} {x:Keyed} (h:xs[i]?=some x):gK xs i=gkv x:=by
 unfold gK;rw[h]
 rfl
section
variable{prog:B63}{w:World}{A:Around}{E:Aa1}{s:Shared}{κ0:C19}[LtOk prog w A s κ0]
structure gSG (κ0:C19)(a₀:Array Keyed)(st:SortSt):Prop where
 perm:(arrOf st).Perm a₀
 kind:kindOf st=κ0
 failed:failedOf st=none
theorem gSG.size {a₀:Array Keyed} {st:SortSt} (h:gSG κ0 a₀ st):(arrOf st).size=a₀.size:=h.perm.size_eq
theorem gSG.ik {a₀:Array Keyed} {st:SortSt} (h:gSG κ0 a₀ st)(a:qCU a₀):∀x∈(arrOf st).toList,gIK x:=λx b=>a x ((Y5.mp h.perm).mem_iff.mp b)
end
end L2.G
namespace L2.G
open PySem PyProof.Rows
variable[NM]
def gOut (xs ys:Array Keyed)(lo hi:Nat):Prop:=∀k,k<lo\/hi<=k->gK ys k=gK xs k
theorem gOut.refl (xs:Array Keyed)(lo hi:Nat):gOut xs xs lo hi:=λ_ _=>rfl
theorem gOut.trans {xs b zs:Array Keyed} {lo hi:Nat} (c:gOut xs b lo hi)(d:gOut b zs lo hi):gOut xs zs lo hi:=λk a=>(d k a).trans (c k a)
theorem gOut.wide {xs e:Array Keyed} {lo hi d c:Nat} (h:gOut xs e lo hi)(a:d<=lo)(b:hi<=c):gOut xs e d c:=λk f=>h k (by lia)
theorem gSG.lay {κ0:C19} {a₀:Array Keyed} {st:SortSt} (g:gSG κ0 a₀ st){a:Array Keyed}(p:a.Perm (arrOf st)):gSG κ0 a₀ (setArr st a):=⟨p.trans g.perm,g.kind,g.failed⟩
theorem qQR {xs:Array Keyed} {i j:Nat} (a:j<=xs.size):gOut xs (mirror xs i j ((j-i)/2)) i j:=λk b=>by rw[qH3 a,if_neg (by lia)]
section
variable{prog:B63}{w:World}{A:Around}{E:Aa1}{s:Shared}{κ0:C19}[LtOk prog w A s κ0]{a₀:Array Keyed}
theorem qH1 {st:SortSt} {i j:Nat} {Q:Option Bool->SortSt->Prop} (e:qCU a₀)(g:gSG κ0 a₀ st)(hi:i<a₀.size)(l:j<a₀.size)(h:Q (some (decide (gK (arrOf st) i<gK (arrOf st) j))) st):wpS (model prog w) A E s (ltAt' i j) Q st:=by
 have a:i<(arrOf st).size:=by rw[g.size];exact hi
 have b:j<(arrOf st).size:=by rw[g.size];exact l
 obtain⟨x,d,_,f⟩:=qWR a;obtain⟨y,c,_,k⟩:=qWR b;rw[qWS d,qWS c] at h;rw[ltAt'_eq];refine B73 (wpS_get ?_);exact B73 (qWO d (B73 (qWO c (qZT g.kind (g.ik e x f) (g.ik e y k) h))))
theorem qZW {st:SortSt} {lo n f:Nat} {Q:Bool->SortSt->Prop} (h0:qCU a₀)(g:gSG κ0 a₀ st)(hn:lo+n<=a₀.size)(a0:f<=n)(u:gSeg (arrOf st) lo (lo+f))
  (h:∀st2,gSG κ0 a₀ st2->B70 st2=B70 st->gSeg (arrOf st2) lo (lo+n)->gOut (arrOf st) (arrOf st2) lo (lo+n)->Q true st2):wpS (model prog w) A E s (binarySort' lo n f) Q st:=by
 rw [binarySort'_eq];refine B73 (wpS_mono (C28 (I:=fun k c st2=>c=(none,())/\gSG κ0 a₀ st2/\B70 st2=B70 st/\gSeg (arrOf st2) lo (lo+min k n)/\gOut (arrOf st) (arrOf st2) lo (lo+n))
  (Q:=λc st2=>c=(none,())/\gSG κ0 a₀ st2/\B70 st2=B70 st/\gSeg (arrOf st2) lo (lo+n)/\gOut (arrOf st) (arrOf st2) lo (lo+n)) ?step ?fin ?init) ?post)
 case post=>
  rintro c st2 ⟨rfl,g2,pe,u2,o2⟩;exact B83 (h st2 g2 pe u2 o2)
 case init=>
  refine⟨rfl,g,rfl,λi j t m hj=>?_,.refl _ _ _⟩;by_cases p:f=0
  ·rw[show i=j by lia]
   exact L7 _
  ·exact u i j t m (by lia)
 case fin=>
  rintro c st2 ⟨hc,g2,pe,u2,o2⟩;rw[show min (max (max f 1) n) n=n by lia] at u2
  exact⟨hc,g2,pe,u2,o2⟩
 case step=>
  rintro k c st2 hak hkn ⟨rfl,g2,pe,u2,o2⟩;rw[show min k n=k by lia] at u2
  have q:lo+k<a₀.size:=by lia
  refine B73 (wpS_mono (C28 (I:=fun x c a=>a=st2/\∃ l r,c=(none,l,r)/\l<=r/\r<=k/\r - l<=k - x/\
    (∀i,lo<=i->i<lo+l->gK (arrOf st2) i<=gK (arrOf st2) (lo+k))/\(∀i,lo+r<=i->i<lo+k->gK (arrOf st2) (lo+k)<gK (arrOf st2) i))
   (Q:=fun c a=>a=st2/\∃ l r,c=(none,l,r)/\l<=k/\
    (∀i,lo<=i->i<lo+l->gK (arrOf st2) i<=gK (arrOf st2) (lo+k))/\(∀i,lo+l<=i->i<lo+k->gK (arrOf st2) (lo+k)<gK (arrOf st2) i)) ?istep ?ifin ?iinit) ?ipost)
  case iinit=>exact⟨rfl,0,k,rfl,by lia,by lia,by lia,λi _ y=>by lia,λi p v=>by lia⟩
  case ifin=>
   rintro c a ⟨rfl,l,r,rfl,hlr,hrk,hm,ha,hb⟩;have e:l=r:=by lia
   rw[<- e] at hb hrk;exact⟨rfl,l,r,rfl,hrk,ha,hb⟩
  case istep=>
   rintro x c a _ hxk ⟨rfl,l,r,rfl,hlr,hrk,hm,ha,hb⟩;dsimp only;by_cases o:l>=r
   ·refine gifT o ?_;have e:l=r:=by lia
    rw[<- e] at hb hrk;exact B83 ⟨rfl,l,r,rfl,hrk,ha,hb⟩
   ·refine gifF o ?_;refine B73 (qH1 h0 g2 q (by lia) ?_)
    by_cases b:gK (arrOf a) (lo+k)<gK (arrOf a) (lo+(l+r)/2)
    ·rw[decide_eq_true b];dsimp only;refine gifT rfl ?_;refine B83 ⟨rfl,l,(l+r)/2,rfl,by lia,by lia,by lia,ha,λi p v=>?_⟩
     have:=u2 (lo+(l+r)/2) i (by lia) p v
     lia
    ·rw[decide_eq_false b];dsimp only;rw[if_neg C3];refine B83 ⟨rfl,(l+r)/2+1,r,rfl,by lia,by lia,by lia,λi z p=>?_,hb⟩
     have:=u2 i (lo+(l+r)/2) z (by lia) (by lia)
     lia
  case ipost=>
   rintro c a ⟨rfl,l,r,rfl,hlk,ha,hb⟩;have d:lo+k<(arrOf a).size:=by rw[g2.size];exact q
   show wpS _ _ _ _ (moveDown' (lo+k) (lo+l) >>= λ_=>pure (P3 (none,()))) _ _;rw[moveDown'_eq];refine B73 (C32 (B83 ⟨rfl,g2.lay (bubble_perm _ _ _),pe,?_,o2.trans ?_⟩))
   ·rw[show min (k+1) n=k+1 by lia]
    intro i j t m hj;show gK (bubble (arrOf a) (lo+k) (lo+k-(lo+l))) i<=gK (bubble (arrOf a) (lo+k) (lo+k-(lo+l))) j;rw[qK7 d (by lia),qK7 d (by lia),show lo+k-(lo+k-(lo+l))=lo+l by lia]
    repeat' split
    all_goals first
     |(exfalso;lia)
     |exact L7 _
     |exact ha _ (by lia) (by lia)
     |exact A34 (hb _ (by lia) (by lia))
     |exact u2 _ _ (by lia) (by lia) (by lia)
   ·intro i y;show gK (bubble (arrOf a) (lo+k) (lo+k-(lo+l))) i=gK (arrOf a) i;rw[qK7 d (by lia),if_neg (by lia),if_neg (by lia)]
abbrev gCUp:=Option (Option Nat)×Nat
abbrev gCDn:=Option (Option Nat)×Nat×Nat
noncomputable def gupL (lo a m:Nat):gSM gCUp:=
 forIn [a:m] ((none,a):gCUp) λ_ c=>do
  let t <- ltAt' (lo+c.snd) (lo+c.snd-1)
  match t with
  |some less=>if less=true then pure (j4 (none,c.snd)) else pure (P3 (none,c.snd+1))
  |_=>pure (j4 (some none,c.snd))
noncomputable def qWP (lo n m:Nat):gSM (Option Nat):=do
 reverseSlice' lo (lo+n)
 let c <- gupL lo n m
 match c.fst with
 |some r=>pure r
 |none=>pure (some c.snd)
noncomputable def gdnL (lo n m:Nat):gSM gCDn:=
 forIn [n:m] ((none,n,0):gCDn) λ_ c=>do
  let t <- ltAt' (lo+c.snd.fst) (lo+c.snd.fst-1)
  match t with
  |some less=>
   if less=true then
    if c.snd.snd>0 then do
     reverseSlice' (lo+c.snd.fst-(c.snd.snd+1)) (lo+c.snd.fst)
     pure (P3 (none,c.snd.fst+1,0))
    else pure (P3 (none,c.snd.fst+1,0))
   else do
    let t <- ltAt' (lo+c.snd.fst-1) (lo+c.snd.fst)
    match t with
    |some more=>
     if more=true then pure (j4 (none,c.snd.fst,c.snd.snd))
     else pure (P3 (none,c.snd.fst+1,c.snd.snd+1))
    |_=>pure (j4 (some none,c.snd.fst,c.snd.snd))
  |_=>pure (j4 (some none,c.snd.fst,c.snd.snd))
noncomputable def gdnP (lo n m:Nat):gSM (Option Nat):=do
 liftM (rule "list.sort.descending-run")
 let c <- gdnL lo (n+1) m
 match c.fst with
 |some r=>pure r
 |none=>
  if c.snd.snd>0 then do
   reverseSlice' (lo+c.snd.fst-(c.snd.snd+1)) (lo+c.snd.fst)
   qWP lo c.snd.fst m
  else qWP lo c.snd.fst m
theorem qB9 {α β:Type} {x y:gSM α} {f g:α->gSM β} (h:x=y)(k:∀a,f a=g a):(x >>= f)=(y >>= g):=by rw[h,show f=g from funext k]
theorem qWQ (lo m:Nat):countRun' lo m=(do
  let c <- gupL lo 1 m
  match c.fst with
  |some r=>pure r
  |none=>
   if(c.snd==m)=true then pure (some c.snd)
   else if c.snd>1 then do
    let t <- ltAt' lo (lo+c.snd-1)
    match t with
    |some rose=>if rose=true then pure (some c.snd) else do
      reverseSlice' lo (lo+c.snd)
      gdnP lo c.snd m
    |_=>pure none
   else gdnP lo c.snd m):=by
 rw[countRun'_eq];unfold gdnP qWP gdnL gupL;refine qB9 rfl λc=>?_;obtain⟨r,n⟩:=c;cases r with
 |some r=>rfl
 |none=>
  have f:∀c3:gCUp,(match c3.fst with|some r=>pure r|none=>pure (some c3.snd):gSM (Option Nat))=(match c3.fst with|some r=>pure r|none=>pure (some c3.snd)):=λ_=>rfl
  dsimp only
  split
  ·rfl
  ·split
   ·refine qB9 rfl λx=>?_;cases x with
    |none=>rfl
    |some rose=>
     dsimp only
     split
     ·rfl
     ·refine qB9 rfl λ_=>qB9 rfl λ_=>qB9 rfl λd=>?_;obtain⟨b,g,h⟩:=d;cases b with
      |some b=>rfl
      |none=>
       dsimp only
       split
       ·refine qB9 rfl λ_=>qB9 rfl λ_=>qB9 rfl λc3=>?_;obtain⟨a,e⟩:=c3;cases a<;>rfl
       ·refine qB9 rfl λ_=>qB9 rfl λc3=>?_;obtain⟨a,e⟩:=c3;cases a<;>rfl
   ·refine qB9 rfl λ_=>qB9 rfl λd=>?_;obtain⟨b,g,h⟩:=d;cases b with
    |some b=>rfl
    |none=>
     dsimp only
     split
     ·refine qB9 rfl λ_=>qB9 rfl λ_=>qB9 rfl λc3=>?_;obtain⟨a,e⟩:=c3;cases a<;>rfl
     ·refine qB9 rfl λ_=>qB9 rfl λc3=>?_;obtain⟨a,e⟩:=c3;cases a<;>rfl
def gFal (xs:Array Keyed)(lo hi:Nat):Prop:=∀i j,lo<=i->i<=j->j<hi->gK xs j<=gK xs i
theorem qSF {st:SortSt} {lo a m:Nat} {Q:gCUp->SortSt->Prop} (q:qCU a₀)(g:gSG κ0 a₀ st)(r:lo+m<=a₀.size)(t:1<=a)(e:a<=m)(u:gSeg (arrOf st) lo (lo+a))
  (h:∀n,a<=n->n<=m->gSeg (arrOf st) lo (lo+n)->(n=m\/gK (arrOf st) (lo+n)<gK (arrOf st) (lo+n-1))->Q (none,n) st):wpS (model prog w) A E s (gupL lo a m) Q st:=by
 unfold gupL;refine C28 (I:=λx c d=>d=st/\c=(none,x)/\gSeg (arrOf st) lo (lo+x)) ?step ?fin ⟨rfl,rfl,u⟩
 case fin=>
  rintro c d ⟨rfl,rfl,u2⟩;rw[show max a m=m by lia] at u2 ⊢
  exact h m e (A7 _) u2 (.inl rfl)
 case step=>
  rintro x c d hax hxn ⟨rfl,rfl,u2⟩;dsimp only;refine B73 (qH1 q g (by lia) (by lia) ?_)
  by_cases b:gK (arrOf d) (lo+x)<gK (arrOf d) (lo+x-1)
  ·rw[decide_eq_true b];dsimp only;refine gifT rfl ?_;exact B83 (h x hax (by lia) u2 (.inr b))
  ·rw[decide_eq_false b];dsimp only;rw[if_neg C3];refine B83 ⟨rfl,rfl,λi j l k v=>?_⟩;by_cases f:j<lo+x
   ·exact u2 i j l k f
   ·have o:j=lo+x:=by lia
    rw[o];by_cases p:i=lo+x
    ·rw[p];exact L7 _
    ·have:=u2 i (lo+x-1) l (by lia) (by lia)
     lia
theorem qOR {st:SortSt} {lo n m:Nat} {Q:Option Nat->SortSt->Prop} (o:qCU a₀)(g:gSG κ0 a₀ st)(p:lo+m<=a₀.size)(q:1<=n)(b:n<=m)(u:gFal (arrOf st) lo (lo+n))
  (h:∀k st2,gSG κ0 a₀ st2->B70 st2=B70 st->1<=k->k<=m->gSeg (arrOf st2) lo (lo+k)->gOut (arrOf st) (arrOf st2) lo (lo+m)->Q (some k) st2):wpS (model prog w) A E s (qWP lo n m) Q st:=by
 unfold qWP;have a:lo+n<=(arrOf st).size:=by rw[g.size];lia
 rw[C40];refine B73 (C32 ?_);have d:gSG κ0 a₀ (setArr st (mirror (arrOf st) lo (lo+n) ((lo+n-lo)/2))):=g.lay (mirror_perm _ _ _ _);refine B73 (qSF o d p q b ?_ λk e c l _=>B83 (h k _ d rfl (by lia) c l ((qQR a).wide (A7 _) (by lia))))
 intro i j r f t;show gK (mirror (arrOf st) lo (lo+n) ((lo+n-lo)/2)) i<=gK (mirror (arrOf st) lo (lo+n) ((lo+n-lo)/2)) j;rw[qH3 a,qH3 a,if_pos (by lia),if_pos (by lia)]
 exact u _ _ (by lia) (by lia) (by lia)
theorem qZU {st:SortSt} {lo n m:Nat} {Q:gCDn->SortSt->Prop} (h0:qCU a₀)(g:gSG κ0 a₀ st)(hm:lo+m<=a₀.size)(t:1<=n)(y:n<=m)(u:gFal (arrOf st) lo (lo+n))
  (h:∀k e st2,gSG κ0 a₀ st2->B70 st2=B70 st->n<=k->k<=m->gFal (arrOf st2) lo (lo+k)->e+1<=k->(∀i,lo+k-(e+1)<=i->i<lo+k->gK (arrOf st2) i=gK (arrOf st2) (lo+k-1))->gOut (arrOf st) (arrOf st2) lo (lo+m)->Q (none,k,e) st2):
  wpS (model prog w) A E s (gdnL lo n m) Q st:=by
 unfold gdnL;refine C28 (I:=fun x c st2=>∃ e,c=(none,x,e)/\gSG κ0 a₀ st2/\B70 st2=B70 st/\gFal (arrOf st2) lo (lo+x)/\e+1<=x/\
   (∀i,lo+x-(e+1)<=i->i<lo+x->gK (arrOf st2) i=gK (arrOf st2) (lo+x-1))/\gOut (arrOf st) (arrOf st2) lo (lo+m)) ?step ?fin ⟨0,rfl,g,rfl,u,by lia,λi t z=>by congr 1;lia,.refl _ _ _⟩
 case fin=>
  rintro c st2 ⟨e,rfl,g2,pe,u2,hq,he,o2⟩;rw[show max n m=m by lia] at u2 hq he ⊢
  exact h m e st2 g2 pe y (A7 _) u2 hq he o2
 case step=>
  rintro x c st2 hax hxn ⟨e,rfl,g2,pe,u2,hq,he,o2⟩;dsimp only;have o:lo+x<=(arrOf st2).size:=by rw[g2.size];lia
  refine B73 (qH1 h0 g2 (by lia) (by lia) ?_)
  by_cases b:gK (arrOf st2) (lo+x)<gK (arrOf st2) (lo+x-1)
  ·rw[decide_eq_true b];dsimp only;refine gifT rfl ?_;have a:∀ys:Array Keyed,(∀k,gK ys k=gK (arrOf st2) k)->gFal ys lo (lo+(x+1)):=by
    intro ys hk i j r l hj;rw[hk,hk];by_cases f:j<lo+x
    ·exact u2 i j r l f
    ·have v:j=lo+x:=by lia
     rw[v];by_cases q:i=lo+x
     ·rw[q];exact L7 _
     ·have:=u2 i (lo+x-1) r (by lia) (by lia)
      lia
   by_cases d:e>0
   ·rw[if_pos d,C40];refine B73 (C32 (B83 ⟨0,rfl,g2.lay (mirror_perm _ _ _ _),pe,a _ (qAX o he),by lia,λi t z=>by congr 1;lia,o2.trans ?_⟩))
    exactλk _=>qAX o he k
   ·refine gifF d ?_;exact B83 ⟨0,rfl,g2,pe,a _ (λ_=>rfl),by lia,λi t z=>by congr 1;lia,o2⟩
  ·rw[decide_eq_false b];dsimp only;rw[if_neg C3];refine B73 (qH1 h0 g2 (by lia) (by lia) ?_)
   by_cases p:gK (arrOf st2) (lo+x-1)<gK (arrOf st2) (lo+x)
   ·rw[decide_eq_true p];dsimp only;refine gifT rfl ?_;exact B83 (h x e st2 g2 pe hax (by lia) u2 hq he o2)
   ·rw[decide_eq_false p];dsimp only;rw[if_neg C3];have ex:gK (arrOf st2) (lo+x)=gK (arrOf st2) (lo+x-1):=by lia
    refine B83 ⟨e+1,rfl,g2,pe,λi j r l hj=>?_,by lia,λi t z=>?_,o2⟩
    ·by_cases f:j<lo+x
     ·exact u2 i j r l f
     ·have v:j=lo+x:=by lia
      rw[v];by_cases q:i=lo+x
      ·rw[q];exact L7 _
      ·rw[ex];exact u2 i (lo+x-1) r (by lia) (by lia)
    ·rw[show lo+(x+1)-1=lo+x by lia]
     by_cases q:i=lo+x
     ·rw[q]
     ·rw[ex];exact he i (by lia) (by lia)
theorem qSG {st:SortSt} {lo n m:Nat} {Q:Option Nat->SortSt->Prop} (r:qCU a₀)(g:gSG κ0 a₀ st)(p:lo+m<=a₀.size)(x:n+1<=m)(u:gFal (arrOf st) lo (lo+(n+1)))
  (h:∀k st2,gSG κ0 a₀ st2->B70 st2=B70 st->1<=k->k<=m->gSeg (arrOf st2) lo (lo+k)->gOut (arrOf st) (arrOf st2) lo (lo+m)->Q (some k) st2):wpS (model prog w) A E s (gdnP lo n m) Q st:=by
 unfold gdnP;refine B73 (wpS_lift (C01 ⟨rfl,?_⟩));refine B73 (qZU r g p (by lia) x u λk e st2 t pe a0 f u2 hq he o2=>?_)
 dsimp only;have c:lo+k<=(arrOf st2).size:=by rw[t.size];lia
 by_cases a:e>0
 ·rw[if_pos a,C40];refine B73 (C32 (qOR r (t.lay (mirror_perm _ _ _ _)) p (by lia) f ?_ λz b o d y v q o3=>h z b o (d.trans pe) y v q ?_))
  ·intro i j hl l hj;show gK (mirror (arrOf st2) _ _ _) j<=gK (mirror (arrOf st2) _ _ _) i;rw[qAX c he,qAX c he];exact u2 i j hl l hj
  ·exact o2.trans (gOut.trans (λk _=>qAX c he k) o3)
 ·refine gifF a ?_;exact qOR r t p (by lia) f u2 λz b o d y v q o3=>h z b o (d.trans pe) y v q (o2.trans o3)
theorem qZV {st:SortSt} {lo m:Nat} {Q:Option Nat->SortSt->Prop} (u:qCU a₀)(g:gSG κ0 a₀ st)(y:lo+m<=a₀.size)(h1:1<=m)
  (h:∀k st2,gSG κ0 a₀ st2->B70 st2=B70 st->1<=k->k<=m->gSeg (arrOf st2) lo (lo+k)->gOut (arrOf st) (arrOf st2) lo (lo+m)->Q (some k) st2):wpS (model prog w) A E s (countRun' lo m) Q st:=by
 rw[qWQ];refine B73 (qSF u g y (A7 1) h1 (λi j f l hj=>by rw[show i=j by lia];exact L7 _) λn q p t or=>?_)
 dsimp only;by_cases e:n=m
 ·refine gifT (by simpa using e) ?_
  exact B83 (h n st g rfl q p t (.refl _ _ _))
 ·refine gifF (by simpa using e) ?_
  have d:gK (arrOf st) (lo+n)<gK (arrOf st) (lo+n-1):=or.resolve_left e;by_cases r:n>1
  ·refine gifT r ?_;refine B73 (qH1 u g (by lia) (by lia) ?_)
   by_cases b:gK (arrOf st) lo<gK (arrOf st) (lo+n-1)
   ·rw[decide_eq_true b];dsimp only;refine gifT rfl ?_;exact B83 (h n st g rfl q p t (.refl _ _ _))
   ·rw[decide_eq_false b];dsimp only;rw[if_neg C3,C40];have c:lo+n<=(arrOf st).size:=by rw[g.size];lia
    have a:∀k,lo<=k->k<lo+n->gK (arrOf st) k=gK (arrOf st) (lo+n-1):=by
     intro k f hk;have a1:=t lo k (by lia) f hk
     have a2:=t k (lo+n-1) f (by lia) (by lia)
     lia
    refine B73 (C32 (qSG u (g.lay (mirror_perm _ _ _ _)) y (by lia) ?_ λk st2 g2 pe a1 a2 u2 o2=>h k st2 g2 pe a1 a2 u2 (gOut.trans (λk _=>qAX c a k) o2)))
    intro i j f l hj;show gK (mirror (arrOf st) _ _ _) j<=gK (mirror (arrOf st) _ _ _) i;rw[qAX c a,qAX c a];by_cases v:j<lo+n
    ·rw[a i f (by lia),a j (by lia) v]
     exact L7 _
    ·have x:j=lo+n:=by lia
     rw[x];by_cases o:i=lo+n
     ·rw[o];exact L7 _
     ·rw[a i f (by lia)]
      exact A34 d
  ·refine gifF r ?_;have z:n=1:=by lia
   rw[z] at d;rw[z];refine qSG u g y (by lia) ?_ h
   intro i j f l hj;by_cases o:i=j
   ·rw[o];exact L7 _
   ·have o:i=lo:=by lia
    have x:j=lo+1:=by lia
    rw[o,x];exact A34 d
end
end L2.G
namespace L2.G
open PySem PyProof.Rows
variable[NM]
def qZZ (xs:Array Keyed):List (Nat×Nat×Nat)->Nat->Nat->Prop
 |[],a,b=>a=b
 |r::rs,a,b=>r.1=a/\0<r.2.1/\gSeg xs a (a+r.2.1)/\qZZ xs rs (a+r.2.1) b
section
variable{prog:B63}{w:World}{A:Around}{E:Aa1}{s:Shared}{κ0:C19}[LtOk prog w A s κ0]{a₀:Array Keyed}
theorem qZX:∀n:Nat,n<64->minRun' n n 0=n
 |0,_=>rfl
 |n+1,h=>if_pos h
theorem gwpS_runs (hs:a₀.size<64){st:SortSt}{Q:Unit->SortSt->Prop}(h0:qCU a₀)(g:gSG κ0 a₀ st)(hp:B70 st=#[])(h:∀st2,gSG κ0 a₀ st2->gSortedTo (arrOf st2) a₀.size->Q () st2):wpS (model prog w) A E s sortRuns' Q st:=by
 rw [sortRuns'_eq];refine B73 (wpS_get ?_);dsimp only;rw [g.size,qZX _ hs];refine B73 (wpS_mono (C28
  (I:=λx c st2=>∃lo,c=(none,lo)/\x<=lo/\lo<=a₀.size/\gSG κ0 a₀ st2/\qZZ (arrOf st2) (B70 st2).toList 0 lo/\(lo=0/\B70 st2=#[]\/lo=a₀.size/\(B70 st2).size<=1))
  (Q:=λc st2=>c.1=none/\gSG κ0 a₀ st2/\qZZ (arrOf st2) (B70 st2).toList 0 a₀.size/\(B70 st2).size<=1) ?step ?fin ⟨0,rfl,A7 _,E2 _,g,by rw[hp];rfl,.inl ⟨rfl,hp⟩⟩) ?post)
 case fin=>
  rintro c st2 ⟨lo,rfl,h1,h2,g2,r2,d2⟩;have e:lo=a₀.size:=by lia
  rw[e] at r2;refine⟨rfl,g2,r2,?_⟩;rcases d2 with⟨_,d2⟩|⟨_,d2⟩
  ·rw[d2];exact E2 _
  ·exact d2
 case post=>
  rintro ⟨c,lo⟩ st2 ⟨e,g2,r2,m⟩;cases (show c=none from e);dsimp only;refine B73 (wpS_mono (C28 (I:=fun x c a=>c=(none,())/\a=st2)
   (Q:=λc a=>c=(none,())/\a=st2) ?_ ?_ ⟨rfl,rfl⟩) ?_)
  ·rintro x c a _ _ ⟨rfl,rfl⟩;refine B73 (wpS_get ?_);rw[if_pos m];exact B83 ⟨rfl,rfl⟩
  ·rintro c a ⟨e,g3⟩;exact⟨e,g3⟩
  ·rintro c a ⟨rfl,rfl⟩;refine B83 (h a g2 ?_);have q:(B70 a).toList.length<=1:=by simpa using m
   generalize (B70 a).toList=l at r2 q
   match l,r2,q with
   |[],r3,_=>
    have e:0=a₀.size:=r3;intro i j _ hj
    lia
   |[r],r3,_=>
    have e:0+r.2.1=a₀.size:=r3.2.2.2;intro i j u hj;exact r3.2.2.1 i j (E2 _) u (by lia)
   |_::_::_,_,q=>simp at q
 case step=>
  rintro x c st2 _ hx ⟨lo,rfl,hxl,hlo,g2,r2,d2⟩;dsimp only;by_cases y:lo>=a₀.size
  ·rw[if_pos y];have e:lo=a₀.size:=by lia
   rw[e] at r2;refine B83 ⟨rfl,g2,r2,?_⟩;rcases d2 with⟨_,d2⟩|⟨_,d2⟩
   ·rw[d2];exact E2 _
   ·exact d2
  rw[if_neg y];obtain⟨e0,v⟩:lo=0/\B70 st2=#[]:=by
   rcases d2 with d2|⟨d2,_⟩
   ·exact d2
   ·lia
  subst e0;refine B73 (qZV h0 g2 (by lia) (by lia) λk a g3 b k1 k2 u3 o3=>?_)
  rw[v] at b;dsimp only;have d:∀(st5:SortSt) (n:Nat),gSG κ0 a₀ st5->n=a₀.size->1<=n->gSeg (arrOf st5) 0 (0+n)->B70 st5=#[]->
    ∃lo,((none,0+n):Option Unit×Nat)=(none,lo)/\x+1<=lo/\lo<=a₀.size/\gSG κ0 a₀ (setPending st5 ((B70 st5).push (0,n,0)))/\qZZ (arrOf st5) ((B70 st5).push (0,n,0)).toList 0 lo/\(lo=0/\(B70 st5).push (0,n,0)=#[]\/lo=a₀.size/\((B70 st5).push (0,n,0)).size<=1):=by
   intro st5 n t en h1 u5 o;refine⟨0+n,rfl,by lia,by lia,⟨t.perm,t.kind,t.failed⟩,?_,.inr ⟨by lia,?_⟩⟩
   ·rw[o];exact⟨rfl,h1,u5,rfl⟩
   ·rw[o];exact A7 _
  by_cases z:k<a₀.size
  ·rw[if_pos z];refine B73 (wpS_lift (C01 ⟨rfl,?_⟩));refine B73 (qZW h0 g3 (by lia) (by lia) u3 λp g4 f u4 o4=>?_)
   rw[b] at f;rw[if_neg (by simp)]
   refine B73 (wpS_get ?_);rw[show(B70 p).back?=none by rw[f];rfl]
   dsimp only;refine B73 (C32 (B83 ?_));exact d p _ g4 (by lia) (by lia) u4 f
  ·rw[if_neg z];refine B73 (wpS_get ?_);rw[show(B70 a).back?=none by rw[b];rfl]
   dsimp only;refine B73 (C32 (B83 ?_));exact d a _ g3 (by lia) (by lia) u3 b
end
end L2.G
namespace L2
open PySem PySem.Spec PyProof.Rows
variable{prog:B63}{w:World}{A:Around}{E:Aa1}{s:Shared}
theorem qUZ {a:Addr} {vs:List Value} {ns:List Int} {n:Nat} {P:Fin->Shared->Prop} (o:s.heap.get? a=some (seqObj "list" vs.toArray n)) (e:B68 vs ns) (hs:vs.length<64) (q:vs.length<=B62)
  (h:∀(out:Array Value) (zs:List Int),B68 out.toList zs->zs.Perm ns->zs.Pairwise (·<=·)->P (.done (.ret .none)) {s with heap:=sortedHeap s.heap a vs out}):wpAny (model prog w) A (Builtin.«list.sort» ⟨[.ref a],[]⟩) P E s:=by
 have z:=B4 o;have z0:vs.toArray.size<=B62:=by simpa using q
 rw[list_sort_plain];refine B60 (listItems_at o rfl (B60 (B93 o rfl ?_ z0 (E2 _))));have f:∃k,(s.heap.update a (G5 λ_=>#[])).get? a=some (seqObj "list" #[] k):=⟨_,get?_update_seq o λ_=>#[]⟩;obtain⟨k,f⟩:=f;refine B60 (C11 f rfl (B60 (wpAny_newTuple ?_ (by simpa using q))))
 refine B60 (C09 (B65 ?_));have l:(((s.heap.update a (G5 λ_=>#[])).push (seqObj "tuple" vs.toArray 0)).push (seqObj "list" #[] 0)).get? a=some (seqObj "list" #[] k):=by
  rw[g9,g9]
  ·exact f
  ·rw[l6];exact C4 z
  ·rw[size_push',l6];exact C4 (G0 z)
 have d:∀xs:Array Keyed,xs.Perm (B90 vs)->SortedTo xs (B90 vs).size->P (.done (.ret .none)) {s with heap:=sortedHeap s.heap a vs (xs.map (·.2))}:=by
  intro xs p sx;obtain⟨zs,q1,q2,q3⟩:=sorted_out e p sx;exact h _ zs q1 q2 q3
 have r:∀xs:Array Keyed,xs.Perm (B90 vs)->(xs.map (·.2)).size<=B62+1:=by
  intro xs p;rw[j6,p.size_eq,pairsOf_size]
  lia
 show wpAny _ A _ P E {s with heap:=((s.heap.update a (G5 λ_=>#[])).push (seqObj "tuple" vs.toArray 0)).push (seqObj "list" #[] 0)};dsimp only;by_cases b:vs.toArray.size<2
 ·simp only[if_pos b];refine B60 (B61 ?_);rw[A35];refine B60 (B61 (B60 (C11 l rfl (B60 (B93 l rfl ?_ (E2 _) (r (B90 vs) (.refl _)))))));simp only[bne_self_eq_false,E8,if_false];refine B61 (d (B90 vs) (.refl _) λi j a0 hj=>?_);rw[pairsOf_size] at hj;rw[B5] at b;rw[show i=j by lia]
  exact L7 _
 ·simp only[if_neg b];have kk:keyKind' vs.toArray=pure C41:=by
   match vs,b,e with
   |[],b,_=>exact absurd (by simp) b
   |[_],b,_=>exact absurd (by simp) b
   |_::_::_,_,e=>exact keyKind_ints e
  rw[kk]
  letI:G.NM:=⟨numOf,λv=>∃n t,v=.int n t⟩
  haveI:G.LtOk prog w A {s with heap:=((s.heap.update a (G5 λ_=>#[])).push (seqObj "tuple" vs.toArray 0)).push (seqObj "list" #[] 0)} C41:=⟨λ{x y Q E} hx hy h=>by
   obtain⟨n,t,rfl⟩:=hx;obtain⟨m,u,rfl⟩:=hy;rw[keyLt'_oneType];exact oneLt_int h⟩
  refine B60 (B61 (B60 (B69 (G.gwpS_runs (κ0:=C41) (a₀:=B90 vs) (Q:=λ_ c=>G.gSG C41 (B90 vs) c/\G.gSortedTo (arrOf c) (B90 vs).size) (by simpa[B90] using hs) e.intKeys ⟨.refl _,rfl,rfl⟩ rfl λc g u=>⟨g,u⟩) ?_ λ_ _ x=>x)))
  rintro⟨_,c⟩ s2 ⟨es,g,u⟩;cases(show s2=_ from es);refine B60 (C11 l rfl (B60 (B93 l rfl ?_ (E2 _) (r _ g.perm))));dsimp only;rw[g.failed];simp only[bne_self_eq_false,E8,if_false];exact B61 (d _ g.perm u)
variable{X:Cx}
theorem qO0 {Ab:Aa2} {σ:St} {H:Hp} {Q:VK} {ns:List Int} {D:Addr} (I:Inv X Ab σ (Ag H D (.lst (ns.map V.int))) s)(k:ns.length<64)
  (q:∀zs:List Int,zs.Perm ns->zs.Pairwise (·<=·)->Q (.ref D) (Ag H D (.lst (zs.map V.int)))):
  wpAny (model X.prog X.w) A (call (.builtin "list.sort") [.ref D]) (λ_ s'=>EP X Ab σ Q (.ref D) s') E s:=by
 obtain⟨z,g,n,h,t,e⟩:=I.lstM qA1;have o:=qBN h;have a:=h.length;refine B78 slot_list_sort ⟨_,e,rfl⟩ entry_list_sort (qUZ (ns:=ns) (n:=n) e o (by rw[<- a,A0];exact k) (by rw[<- a];exact z) λout zs p i l=>⟨_,rfl,?_⟩) (args_list_sort _)
 obtain⟨j,d⟩:=sortedHeap_at (vs:=g) (out:=out) e;refine⟨.ref D,Ag H D (.lst (zs.map V.int)),?_,rfl,q zs i l⟩;have m:Ag (Ag H D (.lst (ns.map V.int))) D (.lst (zs.map V.int))=Ag H D (.lst (zs.map V.int)):=qM7;rw[<- m];refine I.write (x:=D) (e:=D) (t':=s.toks) (by rw[qA1];exact trivial) (.inl rfl) (λb u r c=>?_) ⟨_,d⟩ ?_
 ·rw[sortedHeap_old r (B4 c)];exact c
 ·refine⟨?_,out.toList,j,qFA p,by simpa using d⟩
  rw[A0,i.length_eq,<- A0 (f:=V.int)];exact z
theorem qWJ:∀{vs:List Value} {ns:List Int},vs.length=ns.length->(∀(i:Nat) (v:Value),vs[i]?=some v->∃n t,ns[i]?=some n/\v=.int n t)->B68 vs ns
 |[],[],_,_=>.nil
 |[],_::_,h,_=>by simp at h
 |_::_,[],h,_=>by simp at h
 |v::vs,n::ns,h,f=>by
  obtain⟨m,t,e1,e2⟩:=f 0 v rfl;cases(show n=m from D1 e1);rw[e2];exact .cons _ _ (qWJ (by simpa using h) λi u hu=>by simpa using f (i+1) u (by simpa using hu))
theorem qcG {κ:Type} :∀{Af:List (κ×V)} {vs:List (κ×Value)},KV Af vs->Af.map (·.1)=vs.map (·.1):=by
 intro Af vs r;unfold KV at r
 induction r with
 |nil=>rfl
 |cons h t ih=>rw[C9,C9,ih,h.1]
theorem qI6 (hc:X.calm=true):qD9 X (.builtin "sorted") (fun xs H Q=>∃ p ns,xs=[.ref p]/\(SqL X.K H p (ns.map V.int)\/SqT X.K H p (ns.map V.int)\/∃ Af,H p=some (.dK Af)/\Af.map (·.1)=ns.map F4)/\ns.length<64/\
  ∀(a:Addr) (zs:List Int),H a=none->zs.Perm ns->zs.Pairwise (·<=·)->Q (.ref a) (Ag H a (.lst (zs.map V.int)))):=by
 intro Ab s σ H xs us Q I r h;obtain ⟨p,ns,rfl,hq,a0,q⟩:=h;obtain ⟨u,rfl,rx⟩:=qDR r;cases rx;refine y8 kind_sorted plain_sorted entry_sorted (args_sorted1 _) ?_;unfold Builtin.«sorted»;refine B60 (m:=checkCount "sorted" 1 1 _) (B61 ?_);have f:∀ (s1:Shared) (vs:List Value) (zs:List Int),Inv X Ab σ H s1->B68 vs zs->zs.length<=B62->zs.Perm ns->wpAny (model X.prog X.w) X.A.in1 (do
   let l <- newList vs
   let _ <- B97 [l] (call (.builtin "list.sort") [l] [])
   ret l) (λf s'=>∃r,f=.done (.ret r)/\EP X Ab σ Q r s') X.xe s1:=by
  intro s1 vs zs I1 hv d hp;have c:=IntsAre.length hv;refine B60 (C09 ?_ (by rw[c];exact d))
  have hf:=I1.hok.fresh (A7 s1.heap.objs.size);refine B60 (B65 (B69 (qO0 (E:=X.xe) (qHQ I1 hv d) (by rw[hp.length_eq];exact a0) λzs a b=>q _ zs hf (a.trans hp) b) (λ_ s' x=>?_) λ_ _ e=>e))
  exact B61 ⟨_,rfl,x⟩
 rcases hq with hq|hq|⟨Af,hq,hk⟩
 ·obtain⟨a1,z,pl,d⟩:=I.list hq;obtain⟨o,ho,g,n,hd⟩:=pl.isList;have c:=z.length;refine B60 (C12 p (.inl rfl) ho g hd (λh' hk=>?_) (by rw[B5,<- c];exact d))
  exact f _ _ ns (I.kept (t':=s.toks) hk) (by simpa using qBN z) (by rw[A0] at d;exact d) (.refl _)
 ·obtain⟨a1,z,pl,d⟩:=I.tuple hq;obtain⟨o,ho,g,n,hd⟩:=pl;have c:=z.length;refine B60 (C12 p (.inr rfl) ho g hd (λh' hk=>?_) (by rw[B5,<- c];exact d))
  exact f _ _ ns (I.kept (t':=s.toks) hk) (by simpa using qBN z) (by rw[A0] at d;exact d) (.refl _)
 ·obtain⟨d,hd,vs,y,dd⟩:=qQV I.hok hq;obtain⟨ep,da⟩:=dd.dictAt;have lv:vs.length=Af.length:=y.length.symm;have ln:ns.length=Af.length:=by
   have:=congrArg n8 hk;simpa using this.symm
  refine B60 (A70 (A:=X.A.in1) (PySem.W.kdl_dict (ep:=ep) hd) (I.ok.hd hc) da (by rw[lv];exact d) λh' tk a2 kept j=>?_)
  refine f _ _ ns (I.kept (t':=tk) kept) ?_ (by rw[ln];exact d) (.refl _)
  obtain⟨l1,l2⟩:=j;refine qWJ (by rw[D2,l1,lv,ln]) λi v hv=>?_
  obtain⟨k,x,e1,e2⟩:=l2 i v (by rw[<- M7];exact hv)
  have ek:(Af.map (·.1))[i]?=some k:=by rw[qcG y,C5,e1];rfl
  rw[hk,C5] at ek;cases en:ns[i]? with
  |none=>rw[en] at ek;cases ek
  |some n=>
   rw[en] at ek;cases ek;obtain⟨t,e3⟩:=z8 (k:=n) (v:=v) e2;exact⟨n,t,rfl,e3⟩
noncomputable def Itd (lo:Int)(n:Nat):It:=⟨λi _=>i<n,λi H x H'=>H'=H/\x=.int (lo-i),λi _=>n<=i⟩
theorem qUM {K:Ab1} {tg:Expr} (d:Addr)(lo:Int)(n:Nat):Turn P w K tg (Itd lo n) [d] d (λi h=>IsRangeIter h d (lo+(i:Nat)*(-1)) ((n:Int)-(i:Nat)) (-1)) where
 mem:=A6.mpr rfl
 obj:=λi h a b c=>by
  cases A6.mp c;exact⟨_,a,λv z=>nomatch(show A66 _=B19 v from z)⟩
 keep:=λi h g a k=>k d (A6.mpr rfl) _ a
 item:=by
  intro X hP y x q i Ab s σ H E I j a p;subst hP y x;obtain⟨m,u,f2,l,r,f5⟩:=j d (A6.mpr rfl);refine(Walks.range (prog:=X.prog) (w:=X.w) (I.ok.hd q) d lo (-1) n).item i s _ _ p a λv g tk hv f kk=>?_;obtain⟨t,rfl⟩:=hv;have I1:Inv X Ab σ H {s with heap:=g,toks:=tk}:=I.turned (λb o c e=>kk b o (by simpa using c) e) m u l r f5
  refine⟨_,rfl,qTT (s:={s with heap:=g,toks:=tk}) (n:="range_iterator") f rfl rfl (by decide) ⟨.int (lo-i),H,I1,⟨t,?_⟩,⟨rfl,rfl⟩,f,λb c=>(j b c).1⟩⟩
  rw[show lo+(i:Int)*(-1)=lo-i by lia]
 done:=by
  intro X hP y x q i Ab s σ H E I j a p;subst hP y x;obtain⟨m,u,f2,l,r,f5⟩:=j d (A6.mpr rfl);have a0:n<=i:=p;exact wpAny_pyNext_range_end (I.ok.hd q) a (by lia) λg eb=>⟨rfl,I.turned (t':=s.toks) (λb o c e=>eb b o c e) m u l r f5⟩
 self:=λ_ _ _ _ _ a h=>wpAny_pyIter_rangeiter a h
def qg8 (ta:TA):TI:=λσ H R=>ta σ H λvs H1=>∃i j:Int,vs=[.int i,.int j,.int (-1)]/\(-(2^62)<=i/\i<2^62/\-(2^62)<=j/\j<2^62)/\R (Itd i (i-j).toNat) H1
theorem qVB {tg a b c:Expr} {t:TA} {p pos:Pos} (y:Gl X "range") (hm:X.mg "range" = none) (ha:PA X [a,b,c] t) (x:B66 [a,b,c] X.env=[(false,eval a X.env),(false,eval b X.env),(false,eval c X.env)]:=by rfl)
  (d:B66 [b,c] X.env=[(false,eval b X.env),(false,eval c X.env)]:=by rfl):PI X tg (.Call (.Name "range" p) [a,b,c] [] pos) (qg8 t):=by
 intro n s σ H R I h;refine Call_ (qGZ I y hm boot_range (Q3 (thn (ha pos n s σ H _ I h) λus s1 ⟨vs,H1,I1,r1,q1⟩=>?_) (by rw[x,d]) (by rw[d];rfl)))
 obtain⟨i,j,e,⟨q1,q2,z,q4⟩,q⟩:=q1;subst e;obtain⟨u1,f,rfl,⟨k,rfl⟩,r2⟩:∃u f,us=u::f/\RelV (.int i) u/\Vals [.int j,.int (-1)] f:=by cases r1 with|cons r f=>exact⟨_,_,rfl,r,f⟩
 obtain⟨u2,u3,rfl,⟨m,rfl⟩,⟨g,rfl⟩⟩:=qSX r2;refine call_range_3 (by decide) ?_ (E9 (d4 (by lia)))
 refine wpAny_pyIter_range (B55 ..) (PySem.W.small_down q1 q2 z q4) ?_;have l:Inv X n σ H1 {s1 with heap:=s1.heap.push {cls:=.type "range",data:=.fields #[.int i k,.int j m,.int (-1) g]},toks:=s1.toks}:=I1.kept λb o e=>A3 _ e;refine⟨(s1.heap.push {cls:=.type "range",data:=.fields #[.int i k,.int j m,.int (-1) g]}).objs.size,[(s1.heap.push {cls:=.type "range",data:=.fields #[.int i k,.int j m,.int (-1) g]}).objs.size],_,_,H1,rfl,
  l.kept (t':=s1.toks) λb o e=>A3 _ e,qUM _ i (i-j).toNat,?_,λb hb=>?_,q⟩
 ·have v:i+((0:Nat):Int)*(-1)=i:=by simp
  have w:(((i-j).toNat:Nat):Int)-((0:Nat):Int)=U0 i j (-1):=by rw[PySem.W.rangeSize_downNat];simp
  show IsRangeIter _ _ (i+((0:Nat):Int)*(-1)) ((((i-j).toNat:Nat):Int)-((0:Nat):Int)) (-1);rw[v,w];exact B3 _ rfl
 ·cases A6.mp hb;exact l.fpOk (A7 _) (l.hok.fresh (A7 _))
theorem qSH {lo:Int} {n:Nat} {g:TG} {a:TS} {D:Ends} {σ:St} {H:Hp} (Pv:Nat->St->Hp->Prop)(j:Pv 0 σ H)
  (c:∀i σ H,i<n->Pv i σ H->g (.int (lo-i)) σ H λσ2 H2=>a {D with nx:=Pv (i+1),ct:=Pv (i+1),bk:=D.nx} σ2 H2) (d:∀σ H,Pv n σ H->D.nx σ H):
  ForG (Itd lo n) g a D σ H:=by
 refine⟨λi m σ H=>m=n-i/\i<=n/\Pv i σ H,⟨n,by simp,E2 _,j⟩,λi m σ H ⟨e,hi,p⟩=>?_⟩
 rcases Nat.lt_or_ge i n with hlt|hge
 ·refine .inr ⟨hlt,Pv (i+1),λσ' f h=>⟨n-(i+1),by lia,rfl,hlt,h⟩,λx f y=>?_⟩
  rw[y.1,y.2];exact c i σ H hlt p
 ·have b:i=n:=by lia
  rw[b] at p;exact .inl ⟨hge,d σ H p⟩
open PySem.AutoSeq1 in
noncomputable def topI (b:Int)(l:List Int):Int:=l.foldl (λb x=>if x>b then x else b) b
theorem qEQ:∀(l:List Int) (b:Int),b<=topI b l/\(∀x∈l,x<=topI b l)/\(topI b l=b\/topI b l∈l)
 |[],b=>⟨L7 _,(λ_ z=>nomatch z),.inl rfl⟩
 |y::l,b=>by
  obtain⟨h1,h2,h3⟩:=qEQ l (if y>b then y else b)
  have e:topI b (y::l)=topI (if y>b then y else b) l:=rfl
  rw[e];have hb:b<=(if y>b then y else b)/\y<=(if y>b then y else b):=by split<;>omega
  refine⟨by omega,λx hx=>?_,?_⟩
  ·rcases B1.mp hx with hx|hx
   ·omega
   ·exact h2 x hx
  ·rcases h3 with h3|h3
   ·split at h3
    ·rw[if_pos (by assumption)]
     exact .inr (by rw[h3];exact B7)
    ·rw[if_neg (by assumption)]
     exact .inl h3
   ·exact .inr (A8 _ h3)
section
variable{prog:B63}{w:World}{A:Around}{R:Result->Shared->Prop}{I:Addr}{fp wr:List Addr}{n:Nat}{P:Nat->Value->Prop}{St:Nat->Heap->Prop}
theorem qcA (W:Walks prog w A.in1 I fp wr n P St)(kw:List (Str×Value))(ns:List Int)(hn:ns.length=n)(a3:∀i v,P i v->∃t,v=.int (ns.getD i 0) t)(S:Addr)(a1:S∉fp):
  ∀(k j:Nat) (s:Shared) (b:Int) (t:Tok) (c:Nat),n-j=k->j<=n->St j s.heap->s.heap.get? S=some {cls:=.type "list",dict:=none,data:=.seq #[.int b t,.int b t] c,slots:=#[]}->
  (∀t' h' tk,(∀x o,x∉wr->x≠S->s.heap.get? x=some o->h'.get? x=some o)->R (.ok (.ret (.int (topI b (ns.drop j)) t'))) {s with heap:=h',toks:=tk})->
  B86 (model prog w) A (.builtin "max.loop" ⟨[.ref I,.none,.ref S],kw⟩) R s:=by
 have a5:S∉wr:=λh=>a1 (W.sub _ h);have f:(toString "max" ++ toString ".loop" : String) = "max.loop":=by decide
 intro k
 induction k with
 |zero=>
  intro j s b t c hk hj st hS l;have e:j=n:=by omega
  refine B71 A16 ?_;rw[E4 V0 _];show wpAny _ A.in1 (seqItems? (.ref S) >>= _) _ _ s;refine B60 (B82 hS rfl ?_);show wpAny _ A.in1 (tryCatch (pyNext (.ref I)) _ >>= _) _ _ s;refine B60 (B75 (W.done s _ _ (e▸st) λh' tk d=>?_));show wpAny _ A.in1 (updateSeq S (λ_=>#[]) >>= _) _ _ _;refine B60 (B92 (d S _ a5 hS) rfl (B60 (B88 (B61 ?_))));rw[R5 (by omega)] at l
  exact l t _ tk λx o g a r=>(C0 _ _ (F6 a)).trans (d x o g r)
 |succ k ih=>
  intro j s b t c hk hj st hS l;have p:j<n:=by omega
  refine B71 A16 ?_;rw[E4 V0 _];show wpAny _ A.in1 (seqItems? (.ref S) >>= _) _ _ s;refine B60 (B82 hS rfl ?_);show wpAny _ A.in1 (tryCatch (pyNext (.ref I)) _ >>= _) _ _ s;refine B60 (B75 (W.item j s _ _ p st λv h' tk hP a2 d=>?_));have a0:=d S _ a5 hS;obtain⟨u,rfl⟩:=a3 j v hP;have ed:ns.drop j=ns.getD j 0::ns.drop (j+1):=by
   have a4:j<ns.length:=by omega
   rw[P6 a4,R4,A4 a4]
   rfl
  rw[ed] at l;generalize ns.getD j 0=y at l hP ⊢;show wpAny _ A.in1 (tryCatch (B97 [O9 y u,O9 y u] (C37 .Gt (.int y u) (.int b t) >>= _)) _ >>= _) _ _ _;refine B60 (B75 (B65 (B60 (richCompare_gives (op:=.Gt) (C31 _ _ u) (C31 _ _ t) F.slot_int_gt F.entry_int_gt (F.args_int_gt_2 _ _) (gives_int_gt _ _ u t) (λx=>nomatch x) ?_))));refine B60 (B65 (B79 (B60 (B88 (B61 ?_)))));by_cases hb:y>b
  ·rw[decide_eq_true hb,if_pos rfl];have et:topI b (y::ns.drop (j+1))=topI y (ns.drop (j+1)):=by show topI (if y>b then y else b) _=_;rw[if_pos hb]
   rw[et] at l;refine B60 (B92 a0 rfl (B60 (B88 ?_)));rw[f];refine B61 ⟨B76 V0 _,ih (j+1) _ y u _ (by omega) p (W.frame _ _ _ a2 λx g o r=>?_) (E7 _ a0 rfl) λt' h2 q m=>?_⟩
   ·exact(C0 _ _ (λz:S=x=>a1 (by rw[z];exact g))).trans r
   ·exact l t' h2 q λx o g a r=>m x o g a ((C0 _ _ (F6 a)).trans (d x o g r))
  ·rw[decide_eq_false hb,if_neg C3];have et:topI b (y::ns.drop (j+1))=topI b (ns.drop (j+1)):=by show topI (if y>b then y else b) _=_;rw[if_neg hb]
   rw[et] at l;refine B60 (B88 ?_);rw[f];exact B61 ⟨B76 V0 _,ih (j+1) _ b t c (by omega) p a2 a0 λt' h2 q m=>l t' h2 q λx o g a r=>m x o g a (d x o g r)⟩
theorem qW0 (W:Walks prog w A.in1 I fp wr n P St)(q:List (Str×Value))(ns:List Int)(l:ns.length=n)(b:∀i v,P i v->∃t,v=.int (ns.getD i 0) t)(S:Addr)(d:S∉fp){s:Shared}{c:Nat}(st:St 0 s.heap)
  (hS:s.heap.get? S=some {cls:=.type "list",dict:=none,data:=.seq #[] c,slots:=#[]})
  (h1:∀y r,ns=y::r->∀t' h' tk,(∀x o,x∉wr->x≠S->s.heap.get? x=some o->h'.get? x=some o)->R (.ok (.ret (.int (topI y r) t'))) {s with heap:=h',toks:=tk})
  (h2:ns=[]->∃nm dv,q=[(nm,dv)]/\∀h' tk,(∀x o,x∉wr->x≠S->s.heap.get? x=some o->h'.get? x=some o)->R (.ok (.ret dv)) {s with heap:=h',toks:=tk}):
  B86 (model prog w) A (.builtin "max.loop" ⟨[.ref I,.none,.ref S],q⟩) R s:=by
 have a1:S∉wr:=λh=>d (W.sub _ h);have e:(toString "max" ++ toString ".loop" : String) = "max.loop":=by decide
 refine B71 A16 ?_;rw[E4 V0 _];show wpAny _ A.in1 (seqItems? (.ref S) >>= _) _ _ s;refine B60 (B82 hS rfl ?_);show wpAny _ A.in1 (tryCatch (pyNext (.ref I)) _ >>= _) _ _ s;cases ns with
 |nil=>
  obtain⟨nm,dv,rfl,h3⟩:=h2 rfl;refine B60 (B75 (W.done s _ _ (l▸st) λh' tk a=>?_));show wpAny _ A.in1 (rule _ >>= λ_=>ret dv) _ _ _;exact B60 (C01 (B61 (h3 _ tk λx o f _ j=>a x o f j)))
 |cons y r=>
  refine B60 (B75 (W.item 0 s _ _ (by rw[<- l];simp) st λv h' tk hP p a=>?_))
  have k:=a S _ a1 hS;obtain⟨u,rfl⟩:=b 0 v hP;show wpAny _ A.in1 (updateSeq S (λ_=>#[O9 y u,O9 y u]) >>= _) _ _ _;refine B60 (B92 k rfl ?_);rw[e];refine B61 ⟨B76 V0 _,qcA W q (y::r) l b S d _ 1 _ y u _ rfl (by rw[<- l];simp) (W.frame _ _ _ p λx f o j=>?_) (E7 _ k rfl) λt' h2 a0 m=>?_⟩
  ·exact(C0 _ _ (λz:S=x=>d (by rw[z];exact f))).trans j
  ·exact h1 y r rfl t' h2 a0 λx o f g j=>m x o f g ((C0 _ _ (F6 g)).trans (a x o f j))
end
theorem qFW {id:String} {b:Builtin} {a:List Value} {c:List (Str×Value)} {Q:Aa1} (m:builtinKind id=none)(h:plainId id=true)(l:entryFor table id=some b)(k:argsOk id ⟨a,c⟩)
  (i:wpAny (model prog w) A.in1 (b ⟨a,c⟩) (λfin s'=>∃c',fin=.again c'/\c'.quiet=true/\B86 (model prog w) A c' (λr s'=>∃v,r=.ok (.ret v)/\Q v s') s') E s):wpAny (model prog w) A (call (.builtin id) a c) Q E s:=by
 refine C06 (C20 h l ?_);have d:=B69 i (Q':=fun fin s'=>match fin with
   |.done f=>(match(Except.ok f:Result) with|.ok (.ret v)=>Q v s'|.ok _=>False|.error e=>E e s')
   |.again c'=>c'.quiet=true/\B86 (model prog w) A c' (λr s'=>match r with|.ok (.ret v)=>Q v s'|.ok _=>False|.error e=>E e s') s')
  (λfin s' ⟨c',e,h1,d⟩=>by subst e;exact⟨h1,B81 d λr s' ⟨v,e,q⟩=>by subst e;exact q⟩) λ_ _ j=>j
 simp only[checkBuiltinCall,m];cases sg:Manifest.signature? id with
 |none=>exact B61 d
 |some sig=>
  have g:Bind.checkArgs id sig ⟨a,c⟩=pure ():=by simpa only[argsOk,sg] using k
  simp only[g];exact B61 d
noncomputable def topD (dv:Option Int):List Int->Option Int
 |[]=>dv
 |y::r=>some (topI y r)
theorem qcB {Ab:Aa2} {σ:St} {H:Hp} {Q:VK} {p:Addr} {ns:List Int} {j:List (Str×Value)} {n:Option Int} (hc:X.calm=true)(I:Inv X Ab σ H s)(hq:SqL X.K H p (ns.map V.int))
  (ok:argsOk "max" ⟨[.ref p],j⟩) (u:Option Value) (hb:M8 "max" ["key","default"] 0 ⟨[],j⟩=pure [none,u]) (z:u=none/\n=none\/∃d t,u=some (.int d t)/\n=some d)
  (m:Int) (k:topD n ns=some m) (q:Q (.int m) H):wpAny (model X.prog X.w) X.A (call (.builtin "max") [.ref p] j) (EP X Ab σ Q) X.xe s:=by
 obtain⟨l,rv,pl,hz⟩:=I.list hq;have hl:=pl.isList;have h:p<s.heap.objs.size:=by obtain⟨_,e,_⟩:=hl;exact B4 e
 have a:=rv.length;rw[A0] at a;have ia:=qBN rv;have f:(toString "max" ++ toString ".loop" : String) = "max.loop":=by decide
 refine qFW F.kind_max F.plain_max F.entry_max ok ?_;show wpAny _ _ (M8 "max" ["key","default"] 0 ⟨[],j⟩ >>= _) _ _ s;refine B60 (C00 hb ?_);refine B60 (B61 ?_);refine B60 (B84 hl ?_);refine B60 (B67 ?_);rw[f];have w0:X.A.in1.handled=none:=I.ok.hd hc;refine B61 ⟨_,rfl,B76 V0 _,?_⟩;refine qW0 (A46 w0 _ p (C4 h) l.toArray) _ ns (by simpa using a) (λi v hv=>?_) _ ?_ (c:=0) ?_ (B3 _ rfl) ?_ ?_
 ·exact U4 ia i v (by simpa using hv)
 ·simp only[G9,B1,G2,or_false,not_or];exact⟨Z3 _,O3 (G0 h)⟩
 ·exact⟨⟨_,A3 _ (B3 _ rfl),rfl,rfl⟩,(hl.push _).push _⟩
 ·intro y r e t' h' x hk;subst e;cases k;refine⟨_,rfl,.int _,H,I.kept (t':=x) λb o g=>hk b o ?_ ?_ (A3 _ (A3 _ g)),⟨t',rfl⟩,q⟩
  ·simp only[B1,G2,or_false];exact C4 (B4 g)
  ·rw[G9];exact C4 (G0 (B4 g))
 ·intro e;subst e;rcases z with⟨_,e2⟩|⟨d,t,rfl,rfl⟩
  ·rw[e2] at k;cases k
  ·cases k;refine⟨_,_,rfl,λh' x hk=>⟨_,rfl,.int _,H,I.kept (t':=x) λb o g=>hk b o ?_ ?_ (A3 _ (A3 _ g)),⟨t,rfl⟩,q⟩⟩
   ·simp only[B1,G2,or_false];exact C4 (B4 g)
   ·rw[G9];exact C4 (G0 (B4 g))
theorem qHA (c:X.calm=true):qD9 X (.builtin "max") (λxs H Q=>∃p ns m,xs=[.ref p]/\SqL X.K H p (ns.map V.int)/\topD none ns=some m/\Q (.int m) H):=by
 intro f s σ H xs e Q I r h;obtain⟨p,ns,m,rfl,b,a,q⟩:=h;obtain⟨u,rfl,d⟩:=qDR r;cases d;exact qcB c I b (F.args_max1 _) none rfl (.inl ⟨rfl,rfl⟩) m a q
theorem qOX:entryFor table "dict.update.loop" = some Builtin.«dict.update.loop»:=entryFor_of_tree (by kernel_rfl)
theorem qGU:plainId "dict.update.loop" = true:=by decide +kernel
theorem qQJ:typeLookup (.type "list") "keys" = pure none:=by rw[typeLookup_type,C44];kernel_rfl
theorem qVY {a:Addr} {o:Obj} {xs:Array Value} {k:Nat} {Q:Option Value->Shared->Prop} (j:s.heap.get? a=some o) (i:o.cls=.type "list") (d:o.data=.seq xs k) (m:o.dict=none) (n:A.handled=none)
  (h:∀h' tk,(∀b u,s.heap.get? b=some u->h'.get? b=some u)->Q none {s with heap:=h',toks:=tk}):wpAny (model prog w) A (getAttr? (.ref a) "keys") Q E s:=by
 obtain⟨c,v,t,r⟩:=o;simp only at i d m;subst i d m;obtain⟨q,g,p,tk,x⟩:=s;have l:∀tk',(⟨q,g,p,tk',x⟩:Shared).TypeIs (.ref a) "list":=λ_=>⟨_,j,rfl⟩;have f1:=sub_AttributeError;have y:=Z9.lookup;have z:=Z9.bind (.ref a);have f5:=am_list_getattr_none;unfold getAttr? getAttrBy? getAttrBy
 repeat (any_goals (first|assumption|exact l _|((with_reducible show wpAny _ _ (call (Value.builtin "list.__getattribute__") _ _) _ _ _);refine C48 Z9 (l _) am_entry_list_getattribute (F.args_list_getattribute_2 _ _) (meets_getattribute_miss_list a xs k r "keys" _ qQJ (by decide +kernel) (by decide +kernel)) ⟨j,n,λh' tk' e f=>?_⟩)|wp_step))
 obtain⟨t',u',he⟩:=f.there;show wpAny _ _ (getattributeRaised _ _ _ _ _ _ _) _ _ _;unfold getattributeRaised
 repeat (any_goals (first|assumption|wp_step))
 exact h _ _ f.of.keeps
section
variable{prog:B63}{w:World}{A:Around}{R:Result->Shared->Prop}{I:Addr}{fp wr:List Addr}{n:Nat}{P:Nat->Value->Prop}{St:Nat->Heap->Prop}
theorem qa6 (W:Walks prog w A.in1 I fp wr n P St)(h0:Heap)(d:Addr)(l:d∉fp)(ps:List (Int×Value))(hn:ps.length=n)(hz:n<=B62)
  (aa:∀i v,P i v->∃r k t x,v=.ref r/\r∉wr/\r≠d/\h0.IsTuple r #[.int k t,x]/\ps[i]?=some (k,x)):
  ∀(m i:Nat) (j:Int) (tj:Tok) (s:Shared) (Af:List (Key×Value)),n-i=m->i<=n->St i s.heap->s.heap.DictOf (qAT prog w) d Af->Af.length<=i->(∀b o,b∉wr->b≠d->h0.get? b=some o->s.heap.get? b=some o)->
  (∀h' tk,h'.DictOf (qAT prog w) d ((ps.drop i).foldl (λm q=>stored m (F4 q.1) q.2) Af)->(∀b o,b∉wr->b≠d->h0.get? b=some o->h'.get? b=some o)->R (.ok (.ret .none)) {s with heap:=h',toks:=tk})->
  B86 (model prog w) A (.builtin "dict.update.loop" ⟨[.ref d,.ref I,.int j tj,.none],[]⟩) R s:=by
 have u:d∉wr:=λh=>l (W.sub _ h);intro m
 induction m with
 |zero=>
  intro i j tj s Af hm hi st hd hl hk y;have e:i=n:=by lia
  refine B71 qOX ?_;rw[E4 qGU _];show wpAny _ A.in1 (pyNext (.ref I) >>= _) _ _ s;refine B60 (W.done s _ _ (e▸st) λh' tk a=>?_);show wpAny _ A.in1 (Builtin.Dict.addKeywords d [] >>= λ_=>ret J5) _ _ _;rw[R5 (by lia)] at y
  exact B60 (B61 (B61 (y h' tk (hd.at λo eo=>a d o u eo) λb o f c eb=>a b o f (hk b o f c eb))))
 |succ m ih=>
  intro i j tj s Af hm hi st hd hl hk y;have g:i<n:=by lia
  refine B71 qOX ?_;rw[E4 qGU _];show wpAny _ A.in1 (pyNext (.ref I) >>= _) _ _ s;refine B60 (W.item i s _ _ g st λv h' tk hP a2 a=>?_);obtain⟨r,k,t,x,rfl,p,a7,ht,ep⟩:=aa i v hP;have ed:ps.drop i=(k,x)::ps.drop (i+1):=by
   obtain⟨a1,e⟩:=A5.mp ep;rw[P6 a1,e]
  rw[ed] at y;have a9:h'.IsTuple r #[.int k t,x]:=by
   obtain⟨o,e1,e2,e3⟩:=ht;exact⟨o,a r o p (hk r o p a7 e1),e2,e3⟩
  obtain⟨o,ho,a4,no,a8⟩:=a9;have a6:h'.DictOf (qAT prog w) d Af:=hd.at λo eo=>a d o u eo;refine B60 (B65 (B60 ?_));show wpAny _ A.in1 (tryCatch (A25 (.ref r)) _) _ _ _;refine B75 ?_;unfold A25;refine B60 (C14 (T:="tuple") ⟨o,ho,a4⟩ ?_);rw[if_pos (by decide)]
  refine B60 (B82 ho a8 (B61 ?_));show wpAny _ A.in1 (B97 [O9 k t,x] (dictSet d (.int k t) x)) _ _ _;refine B65 (wpAny_dictSet_pairs (hsz:=by lia) (k:=F4 k) (by rw[qTH];exact qOM k t) a6 λh2 ac sb=>?_)
  have a0:(stored Af (F4 k) x).length<=i+1:=by
   unfold stored
   split
   ·rw[A0];lia
   ·rw[A9,B9];lia
  refine B61 ⟨B76 qGU _,ih (i+1) _ _ _ (stored Af (F4 k) x) (by lia) g (W.frame _ _ _ a2 λb f o eb=>?_) ac a0 (λb o f c eb=>?_) λh3 a3 ab a5=>y h3 a3 ab a5⟩
  ·rw[sb.2 b (λz:b=d=>l (z▸f))];exact eb
  ·rw[sb.2 b c];exact a b o f (hk b o f c eb)
end
theorem qP7 {l:Addr} {o:Obj} {a:Array Value} {nl:Nat} {ps:List (Int×Value)} {Q:Aa1} (hA:A.handled=none) (hl:s.heap.get? l=some o) (hc:o.cls=.type "list") (d:o.data=.seq a nl) (a7:o.dict=none) (hn:ps.length=a.size) (hz:a.size<=B62)
  (a4:∀(i:Nat) v,a[i]?=some v->∃r k t x,v=.ref r/\s.heap.IsTuple r #[.int k t,x]/\ps[i]?=some (k,x))
  (h:∀h' tk,h'.DictOf (qAT prog w) s.heap.objs.size (ps.foldl (λm q=>stored m (F4 q.1) q.2) [])->(∀b u,s.heap.get? b=some u->h'.get? b=some u)->Q (.ref s.heap.objs.size) {s with heap:=h',toks:=tk}):
  wpAny (model prog w) A (call (.type "dict") [.ref l]) Q E s:=by
 refine callType_codes (Q₁:=λp s₁=>p=.ref s.heap.objs.size/\s₁={s with heap:=s.heap.push {cls:=.type "dict",data:=.dict #[]}}) F.kt_called_dict (F.kt_typeCall_dict_1 _) F.entry_dict_init (kt_code_dict_new _ ⟨rfl,rfl⟩) ?_;rintro p s₁ ⟨rfl,rfl⟩;have nw:(s.heap.push {cls:=.type "dict",data:=.dict #[]}).DictOf (qAT prog w) s.heap.objs.size []:=B21 s.heap;have c:(s.heap.push {cls:=.type "dict",data:=.dict #[]}).get? l=some o:=A3 _ hl;have a2:l<s.heap.objs.size:=B4 hl;refine⟨nw.typeIs,F.args_dict_init_2 _ _,?_⟩;unfold Builtin.«dict.__init__»;refine B60 ?_;unfold Builtin.Dict.selfAndRest;refine B60 (wpAny_notOrdered_dict nw.typeIs ?_);show wpAny _ _ (pure (s.heap.objs.size,[D4 l])) _ _ _;refine B61 ?_;show wpAny _ _ (A12 "dict.__init__" s.heap.objs.size (.ref l) [] .none) _ _ _;unfold A12;refine B60 (C14 (T:="list") ⟨o,c,hc⟩ ?_);rw[if_pos (by decide)]
 refine B60 (qVY c hc d a7 hA λh1 a9 g=>?_);rw[if_pos (show(none:Option Value).isNone=true from rfl)];have y:h1.IsList l a:=⟨o,g _ _ c,hc,nl,d⟩;have z:l<h1.objs.size:=B4 (g _ _ c);have f:s.heap.objs.size<h1.objs.size:=by
  obtain⟨_,_,_,e,_⟩:=nw;exact B4 (g _ _ e)
 refine B60 (C01 (B60 (B84 y ?_)));refine B61 ⟨B76 qGU _,?_⟩;refine qa6 (n:=a.size) (A46 (A:=A.in1.in1) hA _ l (C4 z) a) h1 s.heap.objs.size ?_ ps hn hz (λi v hv=>?_) a.size 0 _ _ _ [] rfl (E2 _) ⟨⟨_,B3 _ rfl,rfl,rfl⟩,y.push _⟩ ((nw.keep g).push _) (A7 _) (λb u hb a8 eb=>A3 _ eb) λh' tk a6 a5=>?_
 ·simp only[B1,G2,or_false,not_or];exact⟨C4 f,O3 a2⟩
 ·obtain⟨r,k,t,x,e1,e2,e3⟩:=a4 i v hv;obtain⟨or,hr,a3,a1⟩:=e2;have a0:=B4 hr;refine⟨r,k,t,x,e1,?_,C4 a0,⟨or,g _ _ (A3 _ hr),a3,a1⟩,e3⟩;simp only[B1,G2,or_false];exact C4 (Z7 a0 f)
 ·refine⟨rfl,h h' tk a6 λb u eb=>?_⟩;have j:=B4 eb;refine a5 b u ?_ (C4 j) (g _ _ (A3 _ eb));simp only[B1,G2,or_false];exact C4 (Z7 j f)
theorem qIP {α β:Type} {F:α->β->Prop} :∀{l₁:List α} {l₂:List β} {i:Nat} {a:α},Paired F l₁ l₂->l₁[i]?=some a->∃b,l₂[i]?=some b/\F a b
 |_,_,_,_,.nil,e=>by simp at e
 |_,_,0,_,.cons r _,e=>by simp at e;subst e;exact⟨_,rfl,r⟩
 |_,_,i+1,a,.cons _ t,e=>by
  obtain⟨b,h1,h2⟩:=qIP (i:=i) (a:=a) t (by simpa using e)
  exact⟨b,by simpa using h1,h2⟩
theorem qQ3 {h:Heap} {p:Addr} {a:Array Value} (x:PlainL h p a):∃o,h.get? p=some o/\o.cls=.type "list"/\o.dict=none/\∃n,o.data=.seq a n:=by
 obtain⟨o,n,e,d,b,c⟩:=x;exact⟨o,e,d,b,n,c⟩
def qVI (H:Hp)(K:Ab1)(rs:List Addr)(ps:List (Int×V)):Prop:=Paired (λr (q:Int×V)=>SqT K H r [.int q.1,q.2]) rs ps
noncomputable def qDS (Af:List (Key×V))(ps:List (Int×V)):List (Key×V):=ps.foldl (λm q=>putK m (F4 q.1) q.2) Af
theorem qLN:∀(ps:List (Int×V)) (Af:List (Key×V)),(qDS Af ps).length<=Af.length+ps.length
 |[],Af=>by simp[qDS]
 |q::ps,Af=>by
  have:=qLN ps (putK Af (F4 q.1) q.2);have:=qCM Af (F4 q.1) q.2;show(qDS (putK Af (F4 q.1) q.2) ps).length<=Af.length+(q::ps).length;rw[C6]
  lia
theorem qV2 {Ab:Aa2} {σ:St} {H:Hp} (I:Inv X Ab σ H s):∀{rs:List Addr} {ps:List (Int×V)},qVI H X.K rs ps->
  ∃qs:List (Int×Value),Paired (λr (q:Int×Value)=>∃t,s.heap.IsTuple r #[.int q.1 t,q.2]) rs qs/\Paired (λ(p:Int×V) (q:Int×Value)=>p.1=q.1/\RelV p.2 q.2) ps qs:=by
 intro rs ps h;unfold qVI at h
 induction h with
 |nil=>exact⟨[],.nil,.nil⟩
 |@cons r q rs ps h t ih=>
  obtain⟨qs,f,i⟩:=ih;obtain⟨d,g,b,k⟩:=I.tuple h;obtain⟨j,c,rfl,⟨a,rfl⟩,e⟩:=qSX g;exact⟨(q.1,c)::qs,.cons ⟨a,b⟩ f,.cons ⟨rfl,e⟩ i⟩
theorem qbP:∀{ps:List (Int×V)} {qs:List (Int×Value)} {Af:List (Key×V)} {vs:List (Key×Value)},Paired (λ(p:Int×V) (q:Int×Value)=>p.1=q.1/\RelV p.2 q.2) ps qs->KV Af vs->KV (qDS Af ps) (qs.foldl (λm q=>stored m (F4 q.1) q.2) vs):=by
 intro ps qs Af vs h
 induction h generalizing Af vs with
 |nil=>exactλr=>r
 |cons h t ih=>
  intro r;refine ih ?_;dsimp only;rw[<- h.1];exact r.put _ h.2
theorem qM3 (hc:X.calm=true):qD9 X (.type "dict") (λxs H Q=>∃(p:Addr) (rs:List Addr) (ps:List (Int×V)),xs=[.ref p]/\SqL X.K H p (rs.map V.ref)/\qVI H X.K rs ps/\∀d,H d=none->Q (.ref d) (Ag H d (.dK (qDS [] ps)))):=by
 intro Ab s σ H xs us Q I r h;obtain⟨p,rs,ps,rfl,hq,hp,q⟩:=h;obtain⟨u,rfl,rx⟩:=qDR r;cases rx;obtain⟨f,rv,pl,hz⟩:=I.list hq;obtain⟨k,w,y⟩:=qV2 I hp;have m:=rv.length;rw[A0] at m;have l1:rs.length=k.length:=C2 w;have l2:ps.length=k.length:=C2 y;obtain⟨o,ho,g,j,n,e⟩:=qQ3 pl;rw[A0] at hz;refine qP7 (ps:=k) (I.ok.hd hc) ho g e j (by simp;lia) (by simp;lia) (λi v hv=>?_) λh' tk l hk=>?_
 ·have c:f[i]?=some v:=by simpa using hv
  have hi:i<rs.length:=by rw[m];exact(A5.mp c).1
  obtain⟨u,hu,ru⟩:=rv.get (i:=i) (x:=.ref rs[i]) (by rw[C5,A4 hi];rfl)
  rw[c] at hu;cases hu;cases ru;obtain⟨b,hb,t,ht⟩:=qIP w (A4 hi);exact⟨rs[i],b.1,t,b.2,rfl,ht,hb⟩
 ·have z:(qDS [] ps).length<=B62:=by
   have:=qLN ps [];simp at this
   lia
  refine⟨.ref s.heap.objs.size,_,I.laid (a:=s.heap.objs.size) (o:=.dK (qDS [] ps)) (t':=tk) hk (A7 _) (qOZ z (beq_eq_false_iff_ne.mpr (F6 (C4 I.big))) (qbP y .nil) l),rfl,q _ (I.hok.fresh (A7 _))⟩
theorem qcJ {zs:List Int} {a vs:List Value} (c:Vals (zs.map V.int) a)(o:Vals (zs.map V.int) vs):∀j (j1:j<a.toArray.size) (j2:j<vs.toArray.size),SeqAt.EqAt A s a.toArray[j] vs.toArray[j] true:=by
 intro j j1 j2;have m:=c.length;rw[A0] at m;have f:j<zs.length:=by simp at j1;lia
 have b:(zs.map V.int)[j]?=some (.int zs[j]):=by rw[C5,A4 f];rfl
 obtain⟨u,i,t,e⟩:=c.get b;obtain⟨v,d,l,n⟩:=o.get b;have g:a.toArray[j]=u:=by
  rw[A52];exact(A5.mp i).2
 have k:vs.toArray[j]=v:=by
  rw[A52];exact(A5.mp d).2
 rw[g,k,e,n];have h:=t9 (A:=A) (s:=s) zs[j] t zs[j] l;rw[beq_self_eq_true] at h;exact h
def qfR (K:Ab1):R2:=λx y H Q=>∃a b xs ys,x=.ref a/\y=.ref b/\SqT K H a xs/\SqT K H b ys/\ys≠[]/\xs.length+ys.length<=B62/\(xs=[]->Q (.ref b) H)/\(xs≠[]->∀p,H p=none->Q (.ref p) (Ag H p (.tup (xs++ys))))
theorem qVQ:OpR X (B99 .Add) (qfR X.K):=by
 intro Ab s σ H x y v u Q I p m h;obtain⟨a,b,t,ys,rfl,rfl,ha,q,hy,hz,q1,q2⟩:=h;by_cases j:t=[]
 ·subst j;cases p;cases m;obtain⟨a1,r1,p1,_⟩:=I.tuple ha;obtain⟨f,r2,p2,_⟩:=I.tuple q;cases r1;obtain⟨⟨a2,dd,a0,sl⟩,r,o,n,w⟩:=id p1;obtain⟨⟨l,g,k,i⟩,c,e,n2,d⟩:=id p2;simp only at o w e d;subst o w e d;exact concat_meets ⟨_,r,rfl⟩ ⟨_,c,rfl⟩ C39 seq_tuple_add X6 W7 (W0 _ _) (tuple_addW0 a b #[] f.toArray n n2 dd g sl i rfl) ⟨r,c,.ref b,H,I,rfl,q1 rfl⟩
 ·exact qVP Ab s σ H (.ref a) (.ref b) v u Q I p m ⟨a,b,t,ys,rfl,rfl,ha,q,j,hz,λz=>absurd z hy,λ_=>q2 j⟩
theorem qa1 {K:Ab1} {a:Addr} {xs:List V} {g:TG} {d:TS} {D:Ends} {σ0:St} {H0:Hp} (Pv:Nat->St->Hp->Prop)(n:Pv 0 σ0 H0)(o:∀i σ H,i<=xs.length->Pv i σ H->SqL K H a xs)
  (j:∀i x σ H T,xs[i]?=some x->Pv i σ H->H T=none->g (.ref T) σ (Ag H T (.tup [.int (i:Int),x])) λσ2 H2=>d {D with nx:=Pv (i+1),ct:=Pv (i+1),bk:=D.nx} σ2 H2)
  (k:∀σ H,Pv xs.length σ H->D.nx σ H):
  ∃W:Nat->Nat->St->Hp->Prop,(∃m,W 0 m σ0 H0)/\∀i m σ H,W i m σ H->
   ((Ite K a).stop i H/\D.nx σ H)\/((Ite K a).go i H/\∃N:St->Hp->Prop,(∀σ' H',N σ' H'->∃m',m'<m/\W (i+1) m' σ' H')/\∀x H',(Ite K a).yld i H x H'->g x σ H' λσ2 H2=>d {D with nx:=N,ct:=N,bk:=D.nx} σ2 H2):=by
 refine⟨λi m σ H=>m=xs.length-i/\i<=xs.length/\Pv i σ H,⟨xs.length,by simp,E2 _,n⟩,?_⟩
 rintro i m σ H ⟨rfl,hi,q⟩;have c:=o i σ H hi q;by_cases b:i<xs.length
 ·refine .inr ⟨⟨xs,xs[i],c,by simp[b]⟩,Pv (i+1),λσ' H' l=>⟨xs.length-(i+1),by lia,rfl,b,l⟩,λv H' y=>?_⟩
  obtain⟨T,x,p,f,h,y⟩:=y;subst f h;exact j i x σ H T (y xs c) q p
 ·have e:i=xs.length:=by lia
  subst e;exact .inl ⟨⟨xs,c,A7 _⟩,k σ H q⟩
open PySem
noncomputable def g5:Nat->Nat
 |0=>0
 |n+1=>5*g5 n+1
theorem qRZ:∀n:Nat,5^n=4*g5 n+1
 |0=>rfl
 |n+1=>by
  rw[V4,qRZ n,g5]
  lia
theorem qWT (m:Nat):∀n:Nat,g5 (m+n)=5^n*g5 m+g5 n
 |0=>by simp[g5]
 |n+1=>by
  rw[<- Nat.add_assoc,g5,qWT m n,g5,V4,i0,<- W8,W4 5 (5^n)]
  lia
theorem qb0 (n:Nat):g5 (n+n)=2*(g5 n*(2*g5 n+1)):=by
 rw[qWT,qRZ,B22,i0 (g5 n),i0 2];have a:4*g5 n*g5 n=2*(g5 n*(2*g5 n)):=by
  rw[A01 (g5 n) 2,<- W8 2 2,W8 4]
 rw[a]
 lia
theorem qQ9 (k m:Nat)(h:m%2=1):Nat.Coprime (2^k) m:=by
 refine Nat.Coprime.pow_left k ?_;have:Nat.gcd 2 m=1:=by
  rw[Nat.gcd_rec,h]
  rfl
 exact this
theorem qaZ:∀(k n:Nat),2^k ∣ g5 n->2^k ∣ n
 |0,n,_=>by simp
 |k+1,n,h=>by
  rcases Nat.mod_two_eq_zero_or_one n with e|e
  ·obtain⟨m,rfl⟩:∃m,n=m+m:=⟨n/2,by lia⟩
   rw[qb0,V4,W4 (2^k)] at h;have h2:2^k ∣ g5 m*(2*g5 m+1):=Nat.dvd_of_mul_dvd_mul_left (by decide) h
   have h3:2^k ∣ g5 m:=(qQ9 k (2*g5 m+1) (by lia)).dvd_of_dvd_mul_right h2
   obtain⟨c,hc⟩:=qaZ k m h3;exact⟨c,by rw[V4,W4 (2^k) 2,W8,<- hc];lia⟩
  ·obtain⟨m,rfl⟩:∃m,n=m+m+1:=⟨n/2,by lia⟩
   exfalso
   rw[g5,qb0] at h;have h2:2 ∣ 5*(2*(g5 m*(2*g5 m+1)))+1:=Nat.dvd_trans ⟨2^k,by rw[V4,W4]⟩ h
   lia
def it5 (i n:Nat):Nat:=5^n*i+g5 n
theorem qSC (i n:Nat):it5 i (n+1)=5*it5 i n+1:=by
 unfold it5;rw[V4,g5,i0,<- W8,W4 5 (5^n)]
 lia
theorem qcI {k i n d:Nat} (c:0<d)(b:d<2^k)(h:it5 i n%2^k=it5 i (n+d)%2^k):False:=by
 have e:it5 i (n+d)=it5 i n+5^n*(g5 d*(4*i+1)):=by
  unfold it5;rw[u7 n d,qWT d n,Nat.pow_add,qRZ d,i0 (g5 d),Nat.mul_one,i0 (5^n)];have:(4*g5 d+1)*5^n*i=5^n*i+5^n*(g5 d*(4*i)):=by
   rw[B22,B23,B22,u7];congr 1;rw[W4 4,W8,W8,A01 (5^n),A01 4 (5^n)]
  rw[this]
  lia
 have g:2^k ∣ 5^n*(g5 d*(4*i+1)):=by
  rw[e] at h;have:=(Nat.dvd_iff_mod_eq_zero ..).mpr (Nat.sub_mod_eq_zero_of_mod_eq h.symm)
  rwa[A13] at this
 have f:2^k ∣ g5 d*(4*i+1):=(qQ9 k (5^n) (by rw[qRZ];lia)).dvd_of_dvd_mul_left g
 have a:2^k ∣ g5 d:=(qQ9 k (4*i+1) (by lia)).dvd_of_dvd_mul_right f
 have j:=Nat.le_of_dvd c (qaZ k d a)
 lia
theorem qWH {k i j:Nat} (h:j<2^k):∃n,n<2^k/\it5 i n%2^k=j:=by
 apply L6;intro l;have o:((F5 (2^k)).map λn=>it5 i n%2^k).Nodup:=by
  rw[r8,G6];refine U5.imp_of_mem λ{a b} t q f e=>?_;have g:=E5.mp q;refine qcI (k:=k) (i:=i) (n:=a) (d:=b-a) (by lia) (by lia) ?_
  rw[show a+(b-a)=b by lia]
  exact e
 have c:((F5 (2^k)).map λn=>it5 i n%2^k) ⊆ (F5 (2^k)).filter λx=>decide (x≠j):=λx p=>by
  obtain⟨n,r,e⟩:=E1.mp p;refine C7.mpr ⟨E5.mpr (by rw[<- e];exact f9 _ (B24 k)),decide_eq_true λz=>l ⟨n,E5.mp r,e.trans z⟩⟩
 have m:=O5 o c;have s:((F5 (2^k)).filter λx=>decide (x≠j)).length<(F5 (2^k)).length:=by
  refine List.length_filter_lt_length_iff_exists.mpr ⟨j,E5.mpr h,by simp⟩
 rw[A0] at m
 lia
structure TabG (byText:Bool×Bool)(t:B94)(n:Nat):Prop where
 pow:∃k,3<=k/\t.mask+1=2^k
 dum:t.dummies=#[]
 plain:t.plain=byText.2
 led:t.led=!byText.1
 size:t.place.size=n
 up:t.place.toList.Pairwise (·<·)
 le:∀j∈t.place.toList,j<=t.mask
def qJP (mask i pt:Nat):SetTable.Probe:={j:=i,more:=P8 mask i-i,i:=i,perturb:=pt,dummy:=none}
theorem qO6 {mask i:Nat} (h:i<=mask):P8 mask i<=mask/\i<=P8 mask i/\P8 mask i<=i+9:=by
 unfold P8
 split<;>lia
section
variable{byText:Bool×Bool}{t:B94}{n:Nat}
theorem TabG.slot (T:TabG byText t n)(j:Nat):(t.slot j=.empty/\j∉t.place.toList)\/(∃i,t.slot j=.live i/\j∈t.place.toList):=by
 have e:B52 t.dummies j=false:=by rw[T.dum];rfl
 obtain⟨o,d,l⟩:=qHZ (j:=j) T.up;unfold SetTable.slot;dsimp only;by_cases b:t.place[E6 t.place j]?=some j
 ·rw[if_pos (by rw[b];simp)]
  exact .inr ⟨_,rfl,by rw[<- Array.mem_def];exact Array.mem_of_getElem? b⟩
 ·rw[if_neg (by simpa using b),e,if_neg (by simp)]
  refine .inl ⟨rfl,λg=>b ?_⟩;obtain⟨i,f,c⟩:=Y6.mp g;have a:i<t.place.size:=by simpa using f
  have h:t.place.getD i j=j:=by
   rw[F0,D9 a];simpa using c
  have k:¬i<E6 t.place j:=λz=>by have:=d i z;lia
  have m:E6 t.place j=i:=by
   apply Nat.le_antisymm (Z1 k);apply Z1;intro z;have:=l (E6 t.place j) (A7 _) (by lia)
   have:=qbB j T.up _ _ z a
   lia
  rw[m,D9 a];simpa using c
theorem TabG.run (T:TabG byText t n)(h:Int)(i a:Nat):∀(more j f:Nat),(∃j',G7 t (λ_=>h+1) h (more+1+f) {j:=j,more:=more,i:=i,perturb:=a,dummy:=none}=some (.empty j' none)/\j'∉t.place.toList/\j'<=j+more)\/
  (G7 t (λ_=>h+1) h (more+1+f) {j:=j,more:=more,i:=i,perturb:=a,dummy:=none}=G7 t (λ_=>h+1) h f (qJP t.mask ((i*5+1+a/32)%(t.mask+1)) (a/32))/\j∈t.place.toList):=by
 intro more
 induction more with
 |zero=>
  intro j f;rw[u8,u7 1 f];rcases T.slot j with⟨e,m⟩|⟨k,e,m⟩
  ·left
   refine⟨j,?_,m,A7 _⟩;unfold G7;dsimp only;rw[e]
  ·right
   refine⟨?_,m⟩;rw[G7];dsimp only;rw[e];dsimp only;rw[if_neg (by simp;lia)]
   rfl
 |succ more ih=>
  intro j f;rw[show more+1+1+f=more+1+f+1 by lia]
  rcases T.slot j with⟨e,m⟩|⟨k,e,m⟩
  ·left
   refine⟨j,?_,m,B08 _ _⟩;unfold G7;dsimp only;rw[e]
  ·have d:G7 t (λ_=>h+1) h (more+1+f+1) {j:=j,more:=more+1,i:=i,perturb:=a,dummy:=none}=G7 t (λ_=>h+1) h (more+1+f) {j:=j+1,more:=more,i:=i,perturb:=a,dummy:=none}:=by
    rw[G7];dsimp only;rw[e];dsimp only;rw[if_neg (by simp;lia)]
    unfold SetTable.advance;dsimp only;rw[if_pos (by lia)]
    rfl
   rw[d];rcases ih (j+1) f with⟨j',b,c,g⟩|⟨b,_⟩
   ·exact .inl ⟨j',b,c,by lia⟩
   ·exact .inr ⟨b,m⟩
theorem TabG.leap (T:TabG byText t n)(h:Int)(i a F:Nat)(hi:i<=t.mask)(d:10<=F):(∃j',G7 t (λ_=>h+1) h F (qJP t.mask i a)=some (.empty j' none)/\j'∉t.place.toList/\j'<=t.mask)\/
  (∃F',F<=F'+10/\G7 t (λ_=>h+1) h F (qJP t.mask i a)=G7 t (λ_=>h+1) h F' (qJP t.mask ((i*5+1+a/32)%(t.mask+1)) (a/32))/\i∈t.place.toList):=by
 obtain⟨j,f,k⟩:=qO6 hi;have e:F=(P8 t.mask i-i)+1+(F-1-(P8 t.mask i-i)):=by lia
 rcases T.run h i a (P8 t.mask i-i) i (F-1-(P8 t.mask i-i)) with⟨j',b,c,g⟩|⟨b,c⟩
 ·refine .inl ⟨j',?_,c,by lia⟩
  rw[e];exact b
 ·refine .inr ⟨F-1-(P8 t.mask i-i),by lia,?_,c⟩
  conv=>lhs;rw[e]
  exact b
theorem TabG.go0 (T:TabG byText t n)(h:Int):∀(m q i F:Nat),i<=t.mask->10*m<=F->(∃j',G7 t (λ_=>h+1) h F (qJP t.mask (it5 i q%(t.mask+1)) 0)=some (.empty j' none)/\j'∉t.place.toList/\j'<=t.mask)\/(∀c,c<m->it5 i (q+c)%(t.mask+1)∈t.place.toList)
 |0,q,i,F,hi,hF=>.inr λc hc=>absurd hc (by lia)
 |m+1,q,i,F,hi,hF=>by
  have lt:it5 i q%(t.mask+1)<t.mask+1:=f9 _ (by lia)
  rcases T.leap h (it5 i q%(t.mask+1)) 0 F (by lia) (by lia) with ok|⟨F',hF',e,z⟩
  ·exact .inl ok
  ·have e2:((it5 i q%(t.mask+1))*5+1+0/32)%(t.mask+1)=it5 i (q+1)%(t.mask+1):=by
    rw[qSC,A36,A37,W4,A71,A72,Nat.mod_mod,<- A72,<- A71]
   rw[e2,A36] at e;rw[e];rcases T.go0 h m (q+1) i F' hi (by lia) with ok|all
   ·exact .inl ok
   ·refine .inr λc hc=>?_;cases c with
    |zero=>exact z
    |succ c=>
     have:=all c (by lia)
     rw[show q+(c+1)=q+1+c by lia]
     exact this
theorem TabG.goK (T:TabG byText t n)(hn:n<=t.mask)(h:Int):∀(k i pt F:Nat),i<=t.mask->pt<32^k->10*(k+(t.mask+1))<=F->∃j',G7 t (λ_=>h+1) h F (qJP t.mask i pt)=some (.empty j' none)/\j'∉t.place.toList/\j'<=t.mask
 |0,i,pt,F,hi,hp,hF=>by
  have e:pt=0:=by lia
  subst e;have e0:it5 i 0%(t.mask+1)=i:=by
   unfold it5 g5;rw[Nat.pow_zero,B23,A37,B09 (by lia)]
  have q:=T.go0 h (t.mask+1) 0 i F hi (by lia)
  rw[e0] at q;rcases q with ok|all
  ·exact ok
  ·exfalso
   obtain⟨k,_,hk⟩:=T.pow;have sub:F5 (t.mask+1) ⊆ t.place.toList:=λj hj=>by
    have hj':=E5.mp hj;rw[hk] at hj';obtain⟨m,hm,e⟩:=qWH (i:=i) hj';rw[<- hk] at hm e;have:=all m hm;rw[u8,e] at this;exact this
   have:=O5 l7 sub;have hs:=T.size;simp at this
   lia
 |k+1,i,pt,F,hi,hp,hF=>by
  rcases T.leap h i pt F hi (by lia) with ok|⟨F',hF',e,z⟩
  ·exact ok
  ·rw[e];have lt:(i*5+1+pt/32)%(t.mask+1)<t.mask+1:=f9 _ (by lia)
   refine T.goK hn h k _ _ F' (by lia) ?_ (by lia)
   rw[V4] at hp
   lia
theorem qXU (h:Int):J1 h<32^13:=by
 unfold J1;have a:0<=h%(2^64:Int):=Y0 _ (by decide)
 have b:h%(2^64:Int)<2^64:=V5 _ (by decide)
 have:((2:Int)^64)=18446744073709551616:=by decide
 rw[this] at a b ⊢;have c:(32:Nat)^13=36893488147419103232:=by decide
 lia
theorem TabG.free (T:TabG byText t n)(b:n<=t.mask)(h:Int):∃j,t.freeSlot h=some (j,false)/\j∉t.place.toList/\j<=t.mask:=by
 have c:J1 h%(t.mask+1)<t.mask+1:=f9 _ (by lia)
 obtain⟨j,e,z,l⟩:=T.goK b h 13 (J1 h%(t.mask+1)) (J1 h) (10*V8 t.mask) (by lia) (qXU h) (by unfold V8;lia)
 refine⟨j,?_,z,l⟩;unfold SetTable.freeSlot SetTable.probe;have a:t.probeStart h=qJP t.mask (J1 h%(t.mask+1)) (J1 h):=rfl;rw[a,e]
 rfl
theorem TabG.lay (T:TabG byText t n)(hn:n<t.mask){es:Array (Int×Value)}(v:es.size=n)(h:Int)(x:Value):
  ∃p t',layNew t es h x=(F8 es p (h,x),t',false,false)/\TabG byText t' (n+1)/\t'.mask=t.mask/\p<=es.size:=by
 obtain⟨j,e,z,l⟩:=T.free (by lia) h
 obtain⟨o,s,b3⟩:=qHZ (j:=j) T.up;have u:B52 t.dummies j=false:=by rw[T.dum];rfl
 have m:(F8 t.place (E6 t.place j) j).toList=t.place.toList.take (E6 t.place j)++j::t.place.toList.drop (E6 t.place j):=qDU _ _ _;have r:(F8 t.place (E6 t.place j) j).size=n+1:=by
  rw[<- D2,m,A9,C6,C8,R1,D2,T.size];rw[T.size] at o
  lia
 have T':TabG byText {t with place:=F8 t.place (E6 t.place j) j,dummies:=t.dummies} (n+1):=by
  refine⟨T.pow,T.dum,T.plain,T.led,r,?_,?_⟩
  ·show(F8 t.place (E6 t.place j) j).toList.Pairwise (·<·);rw[m];have q:∀a∈t.place.toList.take (E6 t.place j),a<j:=λa f=>by
    obtain⟨i,hi,c⟩:=Y6.mp f;rw[C8,D2] at hi;have d:i<t.place.size:=by lia
    have:=s i (by lia)
    rw[F0,D9 d] at this;rw[List.getElem_take] at c;rw[<- c];simpa using this
   have hi:∀a∈t.place.toList.drop (E6 t.place j),j<a:=λa f=>by
    have y:a∈t.place.toList:=T8 f;obtain⟨i,hi,c⟩:=Y6.mp f;rw[R1,D2] at hi;have d:E6 t.place j+i<t.place.size:=by lia
    have:=b3 _ (B08 _ i) d;rw[F0,D9 d] at this;rw[List.getElem_drop] at c;have w:j<=a:=by
     rw[<- c];simpa using this
    rcases Nat.lt_or_eq_of_le w with h4|h4
    ·exact h4
    ·exact absurd (h4▸y) z
   refine Y7.mpr ⟨T.up.sublist (Y2 _ _),O6.mpr ⟨hi,T.up.sublist (A02 _ _)⟩,λa f b hb=>?_⟩;rcases B1.mp hb with e|hb
   ·rw[e];exact q a f
   ·exact Z7 (q a f) (hi b hb)
  ·show∀i∈(F8 t.place (E6 t.place j) j).toList,i<=t.mask;rw[m];intro i hi;rcases B8.mp hi with hi|hi
   ·exact T.le i (Q7 hi)
   ·rcases B1.mp hi with e|hi
    ·lia
    ·exact T.le i (T8 hi)
 have g:m6 {t with place:=F8 t.place (E6 t.place j) j,dummies:=t.dummies} (n+1)=true:=by
  unfold m6 A14;dsimp only;rw[r,T.dum];have:((#[]:Array Nat)).size=0:=rfl;simp only[this,beq_self_eq_true,m7,decide_eq_true_eq]
  lia
 have k:(F8 es (E6 t.place j) (h,x)).size=n+1:=by
  rw[<- D2,qDU,A9,C6,C8,R1,D2];rw[T.size] at o
  lia
 refine⟨E6 t.place j,{t with place:=F8 t.place (E6 t.place j) j,dummies:=t.dummies},?_,T',rfl,by rw[v,<- T.size];exact o⟩
 unfold layNew;rw[e];dsimp only;unfold SetTable.put;rw[u];dsimp only;rw[k];unfold SetTable.orStandIn;simp only[E8,if_false];rw[g];simp
end
theorem qVD {α:Type} :∀{l m:List α},l.Nodup->m.Nodup->(∀x,x∈l↔x∈m)->l.Perm m
 |[],[],_,_,_=>.refl _
 |[],y::m,_,_,h=>absurd ((h y).mpr B7) (by simp)
 |x::l,m,hl,hm,h=>by
  obtain⟨s,t,rfl⟩:=List.append_of_mem ((h x).mp B7);have l1:=J7.mp hl;have m1:(x::(s++t)).Nodup:=(A17.nodup_iff).mp hm;have m2:=J7.mp m1;refine((qVD l1.2 m2.2 λy=>?_).cons x).trans A17.symm;have key:=h y;rw[B1,A17.mem_iff,B1] at key
  constructor
  ·intro hy;rcases key.mp (.inr hy) with e|e
   ·exact absurd (e▸hy) l1.1
   ·exact e
  ·intro hy;rcases key.mpr (.inr hy) with e|e
   ·exact absurd (e▸hy) m2.1
   ·exact e
theorem qI1:∀(fuel k n:Nat),3<=k->n<2^k*2^fuel->∃k',3<=k'/\A38 n fuel (2^k)=2^k'/\n<2^k'
 |0,k,n,hk,h=>⟨k,hk,rfl,by simpa using h⟩
 |fuel+1,k,n,hk,h=>by
  rw[A38];by_cases c:2^k<=n
  ·rw[if_pos c,<- V4];exact qI1 fuel (k+1) n (by lia) (by rw[V4,W8,<- Nat.pow_succ'];exact h)
  ·rw[if_neg c];exact⟨k,hk,rfl,by lia⟩
theorem qO3 {n:Nat} (h:n<=1000000):∃k,3<=k/\b9 n=2^k/\n<2^k:=by
 unfold b9;exact qI1 64 3 n (A7 _) (T4 h (by decide))
section
variable{mask:Nat}{owner:Array (Option Nat)}
theorem qeP (i a F:Nat)(hi:i<=mask):(∃j,G1 mask owner (F+1) i a=some j/\owner.getD j (some 0)=none/\j<=mask)\/
  (G1 mask owner (F+1) i a=G1 mask owner F ((i*5+1+a/32)%(mask+1)) (a/32)/\owner.getD i (some 0)≠none):=by
 obtain⟨d,c,g⟩:=qO6 hi;cases e:(F5 (P8 mask i+1-i)).find? λk=>(owner.getD (i+k) (some 0)).isNone with
 |some k=>
  left
  have b:=A39 e;have f:=E5.mp (Z0 e);refine⟨i+k,?_,by simpa using b,by lia⟩
  rw[G1,e]
 |none=>
  right
  refine⟨?_,?_⟩
  ·rw[G1,e]
   rfl
  ·have:=A82.mp e 0 (E5.mpr (by lia))
   simpa using this
theorem qeQ:∀(m q i F:Nat),i<=mask->m<=F->(∃j,G1 mask owner F (it5 i q%(mask+1)) 0=some j/\owner.getD j (some 0)=none/\j<=mask)\/(∀c,c<m->owner.getD (it5 i (q+c)%(mask+1)) (some 0)≠none)
 |0,q,i,F,hi,hF=>.inr λc hc=>absurd hc (by lia)
 |m+1,q,i,F,hi,hF=>by
  have lt:it5 i q%(mask+1)<mask+1:=f9 _ (by lia)
  obtain⟨F',rfl⟩:∃F',F=F'+1:=⟨F-1,by lia⟩
  rcases qeP (mask:=mask) (owner:=owner) (it5 i q%(mask+1)) 0 F' (by lia) with ok|⟨e,z⟩
  ·exact .inl ok
  ·have e2:((it5 i q%(mask+1))*5+1+0/32)%(mask+1)=it5 i (q+1)%(mask+1):=by
    rw[qSC,A36,A37,W4,A71,A72,Nat.mod_mod,<- A72,<- A71]
   rw[e2,A36] at e;rw[e];rcases qeQ m (q+1) i F' hi (by lia) with ok|all
   ·exact .inl ok
   ·refine .inr λc hc=>?_;cases c with
    |zero=>exact z
    |succ c=>
     have:=all c (by lia)
     rw[show q+(c+1)=q+1+c by lia]
     exact this
theorem qeO {p:Nat} (hp:mask+1=2^p){j0:Nat}(h0:j0<=mask)(hj0:owner.getD j0 (some 0)=none):∀(k i pt F:Nat),i<=mask->pt<32^k->k+(mask+1)<=F->∃j,G1 mask owner F i pt=some j/\owner.getD j (some 0)=none/\j<=mask
 |0,i,pt,F,hi,hpt,hF=>by
  have e:pt=0:=by lia
  subst e;have e0:it5 i 0%(mask+1)=i:=by
   unfold it5 g5;rw[Nat.pow_zero,B23,A37,B09 (by lia)]
  have q:=qeQ (mask:=mask) (owner:=owner) (mask+1) 0 i F hi (by lia)
  rw[e0] at q;rcases q with ok|all
  ·exact ok
  ·exfalso
   obtain⟨m,hm,e⟩:=qWH (k:=p) (i:=i) (j:=j0) (by lia)
   rw[<- hp] at hm e;have:=all m hm;rw[u8,e] at this;exact this hj0
 |k+1,i,pt,F,hi,hpt,hF=>by
  obtain⟨F',rfl⟩:∃F',F=F'+1:=⟨F-1,by lia⟩
  rcases qeP (mask:=mask) (owner:=owner) i pt F' hi with ok|⟨e,z⟩
  ·exact ok
  ·rw[e];have lt:(i*5+1+pt/32)%(mask+1)<mask+1:=f9 _ (by lia)
   refine qeO hp h0 hj0 k _ _ F' (by lia) ?_ (by lia)
   rw[V4] at hpt
   lia
end
structure Own (N:Nat)(L:List Nat)(owner:Array (Option Nat)):Prop where
 size:owner.size=N
 nd:L.Nodup
 lt:∀j∈L,j<N
 at_:∀(m j:Nat),L[m]?=some j->owner[j]?=some (some m)
 no:∀j,j<N->j∉L->owner[j]?=some none
theorem Own.put {N:Nat} {L:List Nat} {owner:Array (Option Nat)} (o:Own N L owner){j:Nat}(d:j<N)(e:j∉L):Own N (L++[j]) (owner.setIfInBounds j (some L.length)):=by
 refine⟨by simp[o.size],qHS o.nd e,λi hi=>?_,λm i h=>?_,λi hi a=>?_⟩
 ·rcases B8.mp hi with hi|hi
  ·exact o.lt i hi
  ·rw[A6.mp hi];exact d
 ·by_cases c:m<L.length
  ·rw[G4 c] at h;have b:j≠i:=λz=>e (z▸B0 h);rw[i8 b];exact o.at_ m i h
  ·rw[O2 (by lia)] at h
   have f:m=L.length:=by
    have:=(A5.mp h).1;simp at this
    lia
   subst f;rw[B03] at h;cases h;rw[Array.getElem?_setIfInBounds_self_of_lt (by rw[o.size];exact d)]
 ·have b:j≠i:=λz=>a (B8.mpr (.inr (by rw[z];exact A6.mpr rfl)))
  rw[i8 b];exact o.no i hi λz=>a (B8.mpr (.inl z))
theorem qS2 {mask p:Nat} (hp:mask+1=2^p):∀(hs:List Int) (L:List Nat) (owner:Array (Option Nat)),Own (mask+1) L owner->L.length+hs.length<=mask->
  ∃L' owner',hs.foldl (λ(acc:Option (Array (Option Nat)×Nat)) (h:Int)=>acc >>= λx=>G1 mask x.1 (V8 mask) (J1 h%(mask+1)) (J1 h) >>= λj=>some (x.1.setIfInBounds j (some x.2),x.2+1)) (some (owner,L.length))=some (owner',L'.length)/\Own (mask+1) L' owner'/\L'.length=L.length+hs.length
 |[],L,owner,o,_=>⟨L,owner,rfl,o,by simp⟩
 |h::hs,L,owner,o,hl=>by
  rw[C6] at hl;obtain⟨j0,hj0,hjn⟩:∃j0,j0<mask+1/\j0∉L:=by
   apply L6;intro no;have sub:F5 (mask+1) ⊆ L:=λj hj=>L6 λz=>no ⟨j,E5.mp hj,z⟩;have:=O5 l7 sub;simp at this
   lia
  have g0:owner.getD j0 (some 0)=none:=by
   rw[F0,o.no j0 hj0 hjn]
   rfl
  have lt:J1 h%(mask+1)<mask+1:=f9 _ (by lia)
  obtain⟨j,e,z,l⟩:=qeO hp (by lia) g0 13 (J1 h%(mask+1)) (J1 h) (V8 mask) (by lia) (qXU h) (by unfold V8;lia)
  have jn:j∉L:=λhm=>by
   obtain⟨m,hm⟩:=D6 hm;rw[F0,o.at_ m j hm] at z;cases z
  have st:=o.put (show j<mask+1 by lia) jn
  obtain⟨L',owner',e1,o',e2⟩:=qS2 hp hs (L++[j]) _ st (by rw[A9,B9];lia)
  refine⟨L',owner',?_,o',by rw[e2,A9,B9,C6];lia⟩
  rw[Q4];have e3:((some (owner,L.length):Option (Array (Option Nat)×Nat)) >>= λx=>G1 mask x.1 (V8 mask) (J1 h%(mask+1)) (J1 h) >>= λj=>some (x.1.setIfInBounds j (some x.2),x.2+1))=some (owner.setIfInBounds j (some L.length),(L++[j]).length):=by
   show(G1 mask owner (V8 mask) (J1 h%(mask+1)) (J1 h) >>= _)=_;rw[e,A9,B9]
   rfl
  rw[e3];exact e1
theorem qc0 (N:Nat):Own N [] (B25 N none):=⟨by simp,.nil,λ_ h=>(nomatch h),λm j h=>by simp at h,λj a _=>by simp[a]⟩
theorem qQM {mask p:Nat} (c:mask+1=2^p)(a:Array Int)(d:a.size<=mask):∃L owner,A95 mask a=some owner/\Own (mask+1) L owner/\L.length=a.size:=by
 obtain⟨L,owner,e,o,l⟩:=qS2 c a.toList [] _ (qc0 (mask+1)) (by simpa using d)
 refine⟨L,owner,?_,o,by simpa using l⟩
 unfold A95;rw [<- Array.foldl_toList];have:(a.toList.foldl (fun (b:Option (Array (Option Nat) × Nat)) (h:Int)=>do
   let(owner,k) <- b
   let j <- G1 mask owner (V8 mask) (J1 h%(mask+1)) (J1 h)
   pure (owner.setIfInBounds j (some k),k+1)) (some (B25 (mask+1) none,0)))=some (owner,L.length):=e
 rw[this]
 rfl
theorem qO7 {α:Type} :∀l:List α,(F5 l.length).filterMap (λi=>l[i]?)=l
 |[]=>rfl
 |a::l=>by
  rw[C6,A24,M3];show a::((F5 l.length).map Nat.succ).filterMap (λi=>(a::l)[i]?)=a::l;rw[u6];congr 1;exact qO7 l
theorem qYG {b:Bool×Bool} {t:B94} {n:Nat} (T:TabG b t n){es:Array (Int×Value)}(v:es.size=n){wanted:Nat}(hw:wanted<=1000000)(hn:n<wanted):
  ∃es' t',relayAll t es wanted=(es',t',false)/\es'.toList.Perm es.toList/\TabG b t' n/\wanted<=t'.mask:=by
 obtain⟨k,k3,hk,a2⟩:=qO3 hw;have u:b9 wanted-1+1=2^k:=by rw[hk];have:=B24 k;lia
 have h8:8<=2^k:=by
  have:=Q8 (n:=2) (by decide) k3
  exact this
 obtain⟨L,f,e,o,l⟩:=qQM u (es.map (·.1)) (by rw[j6,v,hk];lia)
 rw[j6,v] at l;generalize hM:b9 wanted-1=M at *;have fa:∀j m,(f.getD j none).map (λx=>(j,x))=some (j,m)↔L[m]?=some j:=by
  intro j m;rw[F0];by_cases p:j<M+1
  ·by_cases q:j∈L
   ·obtain⟨m',g⟩:=D6 q;rw[o.at_ m' j g]
    constructor
    ·intro z;have:m'=m:=by simpa using z
     rw[<- this];exact g
    ·intro z;have:some (some m')=some (some m):=(o.at_ m' j g).symm.trans (o.at_ m j z);cases this
     rfl
   ·rw[o.no j p q]
    constructor
    ·intro z;simp at z
    ·intro z;exact absurd (B0 z) q
  ·rw[A26 (by rw[o.size];lia)]
   constructor
   ·intro z;simp at z
   ·intro z;exact absurd (o.lt j (B0 z)) p
 have r:∀j x,x∈((f.getD j none).map λy=>(j,y))->x.1=j/\L[x.2]?=some j:=by
  intro j x h;have w:(f.getD j none).map (λy=>(j,y))=some x:=h;obtain⟨y,hy,e⟩:=A23.mp w;subst e;exact⟨rfl,(fa j y).mp w⟩
 generalize hlive:(F5 (M+1)).filterMap (λj=>(f.getD j none).map (λx=>(j,x)))=d;have p1:d.Pairwise λa c=>a.1<c.1:=by
  rw[<- hlive,c6];refine U5.imp λ{a c} s x h y hy=>?_;rw[(r a x h).1,(r c y hy).1];exact s
 have p2:d.Pairwise λa c=>a.2≠c.2:=by
  rw[<- hlive,c6];refine U5.imp λ{a c} s x h y hy z=>?_;have h1:=(r a x h).2;have h2:=(r c y hy).2;rw[z,h2] at h1;cases h1
  lia
 have a1:∀m,m∈d.map (·.2)↔m∈F5 n:=by
  intro m;rw[E1,E5]
  constructor
  ·rintro⟨x,h,rfl⟩;rw[<- hlive] at h;obtain⟨j,_,p⟩:=G8.mp h;have:=(A5.mp (r j x p).2).1
   lia
  ·intro hm;have g:m<L.length:=by lia
   have hL:=A4 g;refine⟨(L[m],m),?_,rfl⟩;rw[<- hlive];exact G8.mpr ⟨L[m],E5.mpr (o.lt _ (Z2 g)),(fa L[m] m).mpr hL⟩
 have pm:(d.map (·.2)).Perm (F5 n):=qVD (by rw[r8,G6];exact p2) l7 a1
 have ll:d.length=n:=by have:=pm.length_eq;simpa using this
 have es':((d.map (·.2)).toArray.filterMap (λi=>es[i]?)).toList.Perm es.toList:=by
  rw[Array.toList_filterMap];have:=pm.filterMap (λi=>es[i]?);have e2:(F5 n).filterMap (λi=>es[i]?)=es.toList:=by
   have:=qO7 es.toList;rw[D2,v] at this;simpa using this
  rw[e2] at this;simpa using this
 have a0:((d.map (·.2)).toArray.filterMap (λi=>es[i]?)).size=n:=by
  rw[<- D2,es'.length_eq,D2,v]
 refine⟨(d.map (·.2)).toArray.filterMap (λi=>es[i]?),{mask:=M,place:=(d.map (·.1)).toArray,dummies:=#[],finger:=t.finger,led:=t.led,moves:=t.movedTo M,plain:=t.plain},?_,es',⟨⟨k,k3,u⟩,rfl,T.plain,T.led,by simp[ll],?_,?_⟩,?_⟩
 ·have er:t.relaid (es.map (·.1)) wanted=some ({mask:=M,place:=(d.map (·.1)).toArray,dummies:=#[],finger:=t.finger,led:=t.led,moves:=t.movedTo M,plain:=t.plain},(d.map (·.2)).toArray):=by
   unfold SetTable.relaid SetTable.laid;rw[hM,e];show some _=some _;rw[<- hlive]
  unfold relayAll;rw[er];dsimp only;have c1:coversAll (d.map (·.2)).toArray es.size=true:=by
   unfold coversAll;rw[v];exact List.isPerm_iff.mpr pm
  have c2:m6 {mask:=M,place:=(d.map (·.1)).toArray,dummies:=#[],finger:=t.finger,led:=t.led,moves:=t.movedTo M,plain:=t.plain} ((d.map (·.2)).toArray.filterMap (λi=>es[i]?)).size=true:=by
   unfold m6 A14;rw[a0];simp[ll]
   lia
  rw[c1,c2]
  rfl
 ·show(d.map (·.1)).toArray.toList.Pairwise (·<·);rw[o7,G6];exact p1
 ·show∀j∈(d.map (·.1)).toArray.toList,j<=M;intro j p;rw[o7] at p;obtain⟨x,h,rfl⟩:=E1.mp p;rw[<- hlive] at h;obtain⟨i,hi,h⟩:=G8.mp h;rw[(r i x h).1];have:=E5.mp hi
  lia
 ·show wanted<=M
  lia
def SetG (w:World)(a:Addr)(zs:List Int)(h:Heap):Prop:=
 ∃(es:Array (Int×Value)) (ep:Nat) (t:B94) (ks:List Int),h.get? a=some {cls:=.type "set",data:=.set es ep t}/\TabG (byT w,true) t es.size/\Ents ks es.toList/\ks.Perm zs/\zs.Nodup/\zs.length<4095/\es.size*5<t.mask*3
theorem SetG.at {a:Addr} {zs:List Int} {h h':Heap} (x:SetG w a zs h)(k:∀o,h.get? a=some o->h'.get? a=some o):SetG w a zs h':=
 let⟨es,ep,t,ks,h1,r⟩:=x;⟨es,ep,t,ks,k _ h1,r⟩
theorem TabG.fits {b:Bool×Bool} {t:B94} {n:Nat} (T:TabG b t n)(a:n<=t.mask):t.fits n=true:=by
 unfold m6 A14;rw[T.size,T.dum];have:((#[]:Array Nat)).size=0:=rfl;simp only[this,beq_self_eq_true,m7,decide_eq_true_eq]
 lia
theorem TabG.mask7 {b:Bool×Bool} {t:B94} {n:Nat} (T:TabG b t n):7<=t.mask:=by
 obtain⟨k,a,c⟩:=T.pow;have:=Q8 (n:=2) (by decide) a
 lia
theorem insertAt_perm {es:Array (Int×Value)} {p:Nat} {x:Int×Value} :(F8 es p x).toList.Perm (es.toList++[x]):=by
 rw[qDU];have a:es.toList++[x]=es.toList.take p++(es.toList.drop p++[x]):=by
  rw[<- F7,j8]
 rw[a];exact A33 _ (List.perm_append_singleton _ _).symm
theorem qaI {a:Addr} {es es':Array (Int×Value)} {ep:Nat} {t t':B94} {h:Heap} (b:h.get? a=some {cls:=.type "set",data:=.set es ep t}):
  (h.update a (Obj.putSet es' t')).get? a=some {cls:=.type "set",data:=.set es' (ep+1) t'}:=by
 have:=E7 (Obj.putSet es' t') b (by rw[putSet_of _ _ (ep:=ep) (es:=es) (t:=t) rfl];rfl)
 rw[putSet_of _ _ (ep:=ep) (es:=es) (t:=t) rfl] at this;exact this
theorem qYD {a:Addr} {zs:List Int} {k:Int} {tk:Tok} {Q:Bool->Shared->Prop} (hS:SetG w a zs s.heap)(a2:zs.length<4094)
  (h:∀h',Heap.SameBut a s.heap h'->SetG w a (addI zs k) h'->∀b,Q b {s with heap:=h'}):wpAny (model prog w) A (setAddHashed a (.int k tk) (hashInt k)) Q E s:=by
 obtain⟨c,ep,t,ks,v,T,y,u,a0,a3,r⟩:=id hS;have g:c.size=zs.length:=SetI.size (a:=a) (h:=s.heap) y u;have n:ElemsOf (C13 prog w) c.toList:=y.elems;have h7:=T.mask7;have hb:c.size<scanBound:=by rw[g];unfold scanBound;lia
 have hf:t.fits c.size=true:=T.fits (by lia)
 unfold setAddHashed setAddHashedIn;refine B65 (B60 (B91 v rfl hf ?_));dsimp only;rw[byScan_of (knd:=C13 prog w) (x:=.int k tk) rfl hb n];simp only[↓reduceIte];unfold setAddByScan;refine B60 ?_;refine B60 (C01 ?_);refine B60 (wpAny_setScan_of (knd:=C13 prog w) (k:=k) (intKind_is _ _ _ _) v rfl hf n ?_);have f:=Ents.find (prog:=prog) (w:=w) (k:=k) y;cases hr:B45 (λe=>(C13 prog w).is k e.2) c.toList with
 |some j=>
  dsimp only;rw[hr] at f;have i:k∈zs:=u.mem_iff.mp (f.mp rfl);refine B61 (B61 ?_);have e:s={s with heap:=s.heap}:=by cases s;rfl
  rw[e];refine h s.heap (Heap.SameBut.refl a s.heap) ?_ _;unfold addI;rw[if_pos i];exact hS
 |none=>
  dsimp only;rw[hr] at f;have i:¬k∈zs:=λz=>by have:=f.mpr (u.mem_iff.mpr z);cases this
  obtain⟨p,t',e1,q,tm,a4⟩:=T.lay (by lia) rfl (hashInt k) (.int k tk)
  rw[e1];dsimp only;refine B60 (B61 ?_);rw[show t'.plain=true from q.plain];simp only[↓reduceIte];rw[hashByValue_scannable 8 (x:=.int k tk) rfl];refine B60 (B61 ?_);have d:(F8 c p (hashInt k,O9 k tk)).size=c.size+1:=by
   rw[<- D2,insertAt_perm.length_eq,A9,D2]
   rfl
  rw[show plainKind (O9 k tk)=true from rfl];simp only[↓reduceIte];show wpAny _ _ (storeSet a (F8 c p (hashInt k,.int k tk)) t' >>= _) _ _ _;refine B60 (wpAny_storeSet_of v rfl ?_ (by rw[d,g,B64];lia))
  have o:∀(es2:Array (Int×Value)) (ep2:Nat) (t2:B94) (h2:Heap),h2.get? a=some {cls:=.type "set",data:=.set es2 ep2 t2}->es2.toList.Perm (F8 c p (hashInt k,O9 k tk)).toList->TabG (byT w,true) t2 (c.size+1)->(c.size+1)*5<t2.mask*3->SetG w a (addI zs k) h2:=by
   intro es2 ep2 t2 h2 g2 pm T2 m;obtain⟨a1,h4,h5⟩:=Ents.perm (ks:=ks++[k]) (U3 y ⟨tk,rfl⟩) (pm.trans insertAt_perm);have l:es2.size=c.size+1:=by rw[<- d,<- D2,pm.length_eq,D2]
   refine⟨es2,ep2,t2,a1,g2,by rw[l];exact T2,h4,?_,?_,?_,by rw[l];exact m⟩
   ·unfold addI;rw[if_neg i];exact h5.trans (u.append_right _)
   ·unfold addI;rw[if_neg i];exact qHS a0 i
   ·unfold addI;rw[if_neg i,A9,B9]
    lia
  have hg:=qaI (es':=F8 c p (hashInt k,.int k tk)) (t':=t') v;have fill:t'.fill=c.size+1:=by
   unfold A14;rw[q.size,q.dum]
   rfl
  cases tf:t'.tooFull with
  |false=>
   simp only[X5,E8,↓reduceIte];refine B61 (B61 ?_);refine h _ (R7 s.heap a _) (o _ _ _ _ hg (.refl _) q ?_) _;unfold SetTable.tooFull at tf;rw[fill] at tf;have:=of_decide_eq_false tf
   lia
  |true=>
   simp only[B31,Bool.and_self,↓reduceIte];rw[d];have gr:A59 (c.size+1)=(c.size+1)*4:=by
    unfold A59;rw[if_neg (by lia)]
   obtain⟨es2,t2,e2,p2,T2,m2⟩:=qYG q d (wanted:=A59 (c.size+1)) (by rw[gr];lia) (by rw[gr];lia)
   rw[gr] at m2;rw[e2];dsimp only;refine B60 (B61 ?_);refine B60 (wpAny_storeSet_of hg rfl ?_ (by rw[<- D2,p2.length_eq,D2,d,g,B64];lia))
   refine B61 (B61 ?_);exact h _ ((R7 s.heap a _).trans (R7 _ a _)) (o _ _ _ _ (qaI hg) p2 T2 (by lia)) _
section
variable{prog:B63}{w:World}{A:Around}{R:Result->Shared->Prop}{I:Addr}{fp wr:List Addr}{G:Array C25->Array C25->Prop}{n:Nat}{P:Nat->Value->Prop}{St:Nat->Shared->Prop}
theorem qI2 (W:WalksS prog w A.in1 I fp wr G n P St)(S:Addr)(g:S∉fp)(ns:List Int)(a3:ns.length=n)(h4:n<=4000)(q:∀i v,P i v->∃t,v=.int (ns.getD i 0) t):
  ∀(k i:Nat) (s:Shared),n-i=k->i<=n->St i s->SetG w S (dedI (ns.take i)) s.heap->
   (∀s',Moved (S::wr) G s s'->SetG w S (dedI ns) s'.heap->R (.ok (.ret .none)) s')->
   B86 (model prog w) A (.builtin "set.update.loop" ⟨[.ref S,.ref I],[]⟩) R s:=by
 have x:S∉wr:=λh=>g (W.sub _ h);have a:∀b∈wr,b∈S::wr:=λb l=>A8 _ l;intro k
 induction k with
 |zero=>
  intro i s hk hi c hS hR;have a0:i=n:=by lia
  subst a0;refine B71 F.entry_set_update_loop ?_;rw[E4 F.plain_set_update_loop _];show wpAny _ A.in1 (pyNext (.ref I) >>= _) _ _ s;refine B60 (W.done s _ _ c λs' j=>?_);show wpAny _ A.in1 (ret J5) _ _ s';rw[E3 (by lia)] at hS
  exact B61 (hR s' (j.mono a) (hS.at λo e=>j.heap S _ x e))
 |succ k ih=>
  intro i s hk hi c hS hR;have r:i<n:=by lia
  refine B71 F.entry_set_update_loop ?_;rw[E4 F.plain_set_update_loop _];show wpAny _ A.in1 (pyNext (.ref I) >>= _) _ _ s;refine B60 (W.item i s _ _ r c λv s' hP p j=>?_);obtain⟨t,rfl⟩:=q i v hP;have a2:SetG w S (dedI (ns.take i)) s'.heap:=hS.at λo e=>j.heap S _ x e;show wpAny _ A.in1 (B97 [O9 (ns.getD i 0) t] (setAdd S (.int (ns.getD i 0) t)) >>= _) _ _ s';refine B60 (B65 ?_);unfold setAdd;refine B65 ?_;refine B60 ((C13 prog w).pyHash (k:=ns.getD i 0) (intKind_is _ _ _ _) ?_);have d:(dedI (ns.take i)).length<4094:=by
   have:=qEH (ns.take i) [];rw[C8] at this;unfold dedI;simp at this
   lia
  refine qYD (s:={s' with toks:=s'.toks+1}) a2 d λh' m y b=>?_;have e2:addI (dedI (ns.take i)) (ns.getD i 0)=dedI (ns.take (i+1)):=by
   have f:i<ns.length:=by lia
   rw[D3,A4 f,D5];unfold dedI;rw[List.foldl_append,Q4,B32,R4,A4 f,l5]
  rw[e2] at y;refine B61 ⟨B76 F.plain_set_update_loop _,ih (i+1) _ (by lia) r (W.frame _ s' _ _ p (T5 _) λb l o e=>?_) y λa1 u z=>?_⟩
  ·rw[m.2 b (λh:b=S=>g (by rw[<- h];exact l))];exact e
  ·refine hR a1 (Moved.trans W.gtrans ((j.mono a).then_heap (T5 _) λb o l e=>?_) u) z;rw[m.2 b (λh:b=S=>l (by rw[h];exact B7))];exact e
end
theorem SetG.fresh {a:Addr} {h:Heap} (e:h.get? a=some (freshSet w)):SetG w a [] h:=
 ⟨#[],0,_,[],e,⟨⟨3,A7 _,rfl⟩,rfl,rfl,rfl,rfl,.nil,λ_ z=>nomatch z⟩,.nil,.refl _,.nil,by decide,by show 0*5<7*3;decide⟩
theorem qU3 {l:Addr} {a:Array Value} {ns:List Int} {Q:Aa1} (hh:A.handled=none)(hl:s.heap.IsList l a)(hi:B68 a.toList ns)(h4:a.size<=4000)
  (h:∀(h':Heap) (tk:Nat),SetG w s.heap.objs.size (dedI ns) h'->(∀b o,s.heap.get? b=some o->h'.get? b=some o)->Q (.ref s.heap.objs.size) {s with heap:=h',toks:=tk}):
  wpAny (model prog w) A (call (.type "set") [.ref l]) Q E s:=by
 have a0:ns.length=a.size:=by have:=IntsAre.length hi;simpa using this.symm
 obtain⟨c,tl,ad⟩:=M9.mro;have a2:=M9.made;have af:=M9.sub;refine C06 (C24 ?_);show wpAny _ _ (callAny (.type "set") _) _ _ _;refine B61 ⟨c7 _ (by decide +kernel),B71 A96 ?_⟩
 rw[A83 (weight_type_call_type "set" [.ref l] []) rfl];have h1:=M9.notType;have h2:=M9.canCreate;have ag:=B10 (.ref l)
 repeat (any_goals (first|assumption|wp_step))
 refine B81 (qO4 (.ref l) (E:=E) (Q₁:=λp s₁=>p=.ref s.heap.objs.size/\s₁={s with heap:=s.heap.push (freshSet w)}) ⟨rfl,rfl⟩) λr s₁ n=>?_;cases r with
 |error e=>exact n
 |ok fl=>
  cases fl with
  |ret p=>
   obtain⟨rfl,rfl⟩:=n;have hS:(s.heap.push (freshSet w)).get? s.heap.objs.size=some (freshSet w):=B3 _ rfl;have hT:Shared.TypeIs {s with heap:=s.heap.push (freshSet w)} (.ref s.heap.objs.size) "set":=⟨_,hS,rfl⟩;have aj:=M9.init.lookup;have ai:=M9.init.bind (.ref s.heap.objs.size)
   repeat (any_goals (first|assumption|wp_step))
   refine B81 (C20 (R:=wants (fun r s₂=>r=.none/\∃ h' tk,s₂={ s with heap:=h',toks:=tk }/\SetG w s.heap.objs.size (dedI ns) h'/\
     (∀b o,s.heap.get? b=some o->h'.get? b=some o)) E) M9.init.plain B11 (check_set_init_1 hT ?_)) λr₂ s₂ d=>?_
   ·obtain⟨ol,k,q,nl,a1⟩:=hl;obtain⟨ae,g,a5,f⟩:=ol;simp only at q a1;subst q;subst a1;have z:(s.heap.push (freshSet w)).get? l=some {cls:=.type "list",dict:=g,data:=.seq a nl,slots:=f}:=A3 _ k;have ab:=F.sub_list_set;have ac:=F.sub_list_frozenset;have ah:(A45 "list" == A45 "dict")=false:=by decide
    have x:(s.heap.push (freshSet w)).IsList l a:=⟨_,z,rfl,nl,rfl⟩;unfold Builtin.«set.__init__» noKeywords m8;generalize hPI:pyIter=PI
    wp_walk
    subst hPI;refine B84 x ?_;refine B60 (wpAny_runValue ?_);have u:l<s.heap.objs.size:=B4 k;have aa:A.in1.in1.in1.handled=none:=by simp[hh]
    have y:l≠(s.heap.push (freshSet w)).objs.size:=by
     rw[G9];exact C4 (G0 u)
    have a3:s.heap.objs.size∉[(s.heap.push (freshSet w)).objs.size,l]:=by
     rw[G9];simp only[B1,A6,G2,or_false,not_or];exact⟨C4 (B12 _),O3 u⟩
    have m:∀(i:Nat) (v:Value),a[i]?=some v->∃t,v=.int (ns.getD i 0) t:=λi v hv=>
     U4 hi i v (by rw[M7];exact hv)
    refine qI2 ((A46 aa _ l y a).toS) s.heap.objs.size a3 ns a0 h4 m (a.size-0) 0 _ (by lia) (E2 _)
     ⟨⟨_,B3 _ rfl,rfl,rfl⟩,(x.push _)⟩ ?hS0 ?hR
    case hS0=>exact SetG.fresh (A3 _ hS)
    case hR=>
     intro s' hm j;obtain⟨h',g',d',a6,a4⟩:=s';have eg:g'=s.gens:=hm.gens;have ed:d'=s.drawn:=hm.drawn;have eo:a4=s.os:=hm.os;subst eg;subst ed;subst eo;show wpAny _ _ _ _ _ _;refine B61 ?_;show wpAny _ _ (ret J5) _ _ _;refine B61 ⟨rfl,h',a6,rfl,j,λb o e=>?_⟩;have hb:=B4 e;have a7:b≠s.heap.objs.size:=C4 hb;have a9:b≠(s.heap.push (freshSet w)).objs.size:=by
      rw[G9];exact C4 (G0 hb)
     exact hm.heap b o (by simp only[B1,A6,G2,or_false,not_or];exact⟨a7,a9⟩) (A3 _ (A3 _ e))
   ·cases r₂ with
    |error e=>exact d
    |ok fl₂=>
     cases fl₂ with
     |ret r=>
      obtain⟨rfl,h',tk,rfl,j,a8⟩:=d
      repeat (any_goals (first|assumption|wp_step))
      exact h _ _ j a8
     |next=>exact d
     |brk=>exact d
     |cont=>exact d
  |next=>exact n
  |brk=>exact n
  |cont=>exact n
theorem TabG.below_at {b:Bool×Bool} {t:B94} {n:Nat} (T:TabG b t n)(i:Nat)(hi:i<=n):E6 t.place (if i=0 then 0 else t.place.getD (i-1) 0+1)=i:=by
 obtain⟨k,e,g⟩:=qHZ (j:=if i=0 then 0 else t.place.getD (i-1) 0+1) T.up
 have m:=T.size;have h:∀a c d,a<t.place.size->t.place.getD a c=t.place.getD a d:=λa c d l=>by
  rw[F0,F0,D9 l]
  rfl
 by_cases f:i=0
 ·rw[if_pos f] at k e g ⊢;subst f;apply Nat.eq_zero_of_not_pos;intro z;have:=e 0 z
  lia
 ·rw[if_neg f] at k e g ⊢;have o:¬E6 t.place (t.place.getD (i-1) 0+1)<i:=λz=>by
   have:=g (i-1) (by lia) (by lia)
   rw[h (i-1) (t.place.getD (i-1) 0+1) 0 (by lia)] at this
   lia
  have p:¬i<E6 t.place (t.place.getD (i-1) 0+1):=λz=>by
   have q:=e i z;have:=qbB 0 T.up (i-1) i (by lia) (by lia)
   rw[h i (t.place.getD (i-1) 0+1) 0 (by lia)] at q
   lia
  lia
section
variable{prog:B63}{w:World}{A:Around}{E:Aa1}{s:Shared}{a I:Addr}{es:Array (Int×Value)}{ep:Nat}{t:B94}{i:Nat}
theorem qO5 {Q:Option (Value×Nat)->Shared->Prop} (T:TabG (byT w,true) t es.size) (g:es.size<=t.mask) (f:s.heap.get? a=some {cls:=.type "set",data:=.set es ep t}) (hi:i<=es.size)
  (h:Q (match(qF9 w a ep es)[i]? with|some e=>some (e.2,qFB w t (i+1))|none=>none) s):wpAny (model prog w) A (setNext a (qFB w t i) i ep) Q E s:=by
 have d:=T.fits g;unfold setNext;refine B60 (B91 f rfl d ?_);dsimp only;unfold setsByText;refine B60 (B60 (C18 (B61 ?_)));show wpAny _ _ (if byT w=true then _ else _) _ _ _
 cases hb:byT w with
 |true=>
  rw[if_pos rfl];simp only[bne_self_eq_false,E8,if_false];refine B60 ?_;unfold setWalk;refine B60 (B91 f rfl d ?_);dsimp only;unfold setsByText;refine B60 (B60 (C18 (B61 ?_)));show wpAny _ _ (if byT w=true then _ else _) _ _ _
  rw[hb,if_pos rfl];refine B60 (C18 (B61 (B61 ?_)));have e:qF9 w a ep es=(pickOrder (w.params.setOrder a ep) es).toList:=by unfold qF9;rw[if_pos hb]
  have b:∀j,qFB w t j=0:=λj=>by unfold qFB;rw[if_pos hb]
  rw[e,M7,b] at h;rw[b];show Q (Option.map _ (pickOrder (w.params.setOrder a ep) es)[i]?) s;cases hx:(pickOrder (w.params.setOrder a ep) es)[i]? with
  |none=>rw[hx] at h;exact h
  |some v=>rw[hx] at h;exact h
 |false=>
  rw[if_neg (by simp)]
  show wpAny _ _ (if(!t.plain&&decide (es.size>1))=true then _ else _) _ _ _
  rw[show t.plain=true from T.plain];simp only[A84,w6,E8,if_false];refine B60 ?_;show wpAny _ _ (if(!t.led && !es.isEmpty)=true then _ else _) _ _ _
  rw[show t.led=!(byT w) from T.led,hb];simp only[B31,A84,w6,E8,if_false];refine B61 (B61 ?_);have e:qF9 w a ep es=es.toList:=by unfold qF9;rw[if_neg (by rw[hb];simp)]
  have b:∀j,qFB w t j=if j=0 then 0 else t.place.getD (j-1) 0+1:=λj=>by unfold qFB;rw[if_neg (by rw[hb];simp)]
  rw[e,M7] at h;rw[b,T.below_at i hi];cases hx:es[i]? with
  |none=>rw[hx] at h;exact h
  |some v=>
   rw[hx] at h;have c:i<t.place.size:=by rw[T.size];exact(U8.mp hx).1
   rw[D9 c];dsimp only at h ⊢;have k:qFB w t (i+1)=t.place[i]+1:=by
    rw[b,if_neg (by lia),Nat.add_sub_cancel,F0,D9 c]
    rfl
   rw[k] at h;exact h
theorem qbK {Q:Option Value->Shared->Prop} (T:TabG (byT w,true) t es.size)(k:es.size<=t.mask)(c:SetIt w a I es ep t i s.heap)(d:a≠I){e:Int×Value}(l:(qF9 w a ep es)[i]?=some e)
  (u:∀h',SetIt w a I es ep t (i+1) h'->(∀b o,b≠I->s.heap.get? b=some o->h'.get? b=some o)->Q (some e.2) {s with heap:=h'}):wpAny (model prog w) A (pyNext (.ref I)) Q E s:=by
 obtain⟨⟨o,j,r,f⟩,g⟩:=id c;have q:i<es.size:=by
  have:=(A5.mp l).1;rw[(qF8 w a ep es).length_eq,D2] at this;exact this
 unfold pyNext;refine B60 (C21 (wpAny_callSpecial?_slot (name:=B6 "__next__") c.typeIs slot_si_next (B78 slot_si_next c.typeIs qH7 ?_ (qI7 _))));unfold Builtin.«set_iterator.__next__»;refine B60 (B61 ?_);refine B60 (wpAny_fieldsOf j f ?_);dsimp only;unfold setEntries;refine B60 (B60 (B91 g rfl (T.fits k) (B61 ?_)));rw[if_neg (by simp)]
 simp only[D0];refine B60 (qO5 T k g (V2 q) ?_);rw[l];dsimp only;show wpAny _ _ (setField (.ref I) 0 (rawInt _) >>= _) _ _ s;refine B60 (B89 j f (by simp) ?_)
 have m:=E7 (U1 (·.setIfInBounds 0 (rawInt ((qFB w t (i+1):Nat):Int)))) j (V3 (O4 f _));have h:=O4 f (·.setIfInBounds 0 (rawInt ((qFB w t (i+1):Nat):Int)));refine B60 (B89 m h (by simp) ?_)
 have v:=E7 (U1 (·.setIfInBounds 1 (rawInt ((i:Int)+1)))) m (V3 (O4 h _));have p:=O4 h (·.setIfInBounds 1 (rawInt ((i:Int)+1)));refine B61 ⟨_,rfl,B61 (u _ ⟨⟨_,v,(g8 ..).trans ((g8 ..).trans r),?_⟩,?_⟩ λb x n e=>?_)⟩
 ·rw[p];simp[rawInt]
 ·exact(C0 _ _ (F6 d)).trans ((C0 _ _ (F6 d)).trans g)
 ·exact(C0 _ _ (F6 n)).trans ((C0 _ _ (F6 n)).trans e)
theorem qdS {Q:Option Value->Shared->Prop} (j:A.handled=none)(T:TabG (byT w,true) t es.size)(d:es.size<=t.mask)(c:SetIt w a I es ep t es.size s.heap)
  (h:∀h',(∀b o,b≠I->s.heap.get? b=some o->h'.get? b=some o)->Q none {s with heap:=h'}):wpAny (model prog w) A (pyNext (.ref I)) Q E s:=by
 obtain⟨⟨o,f,k,g⟩,e⟩:=id c;unfold pyNext;refine B60 (C21 (wpAny_callSpecial?_slot (name:=B6 "__next__") c.typeIs slot_si_next (B78 slot_si_next c.typeIs qH7 ?_ (qI7 _))));unfold Builtin.«set_iterator.__next__»;refine B60 (B61 ?_);refine B60 (wpAny_fieldsOf f g ?_);dsimp only;unfold setEntries;refine B60 (B60 (B91 e rfl (T.fits d) (B61 ?_)));rw[if_neg (by simp)]
 simp only[D0];have i:(qF9 w a ep es)[es.size]?=none:=K0 (by rw[(qF8 w a ep es).length_eq,D2];exact A7 _)
 refine B60 (qO5 T d e (A7 _) ?_);rw[i];dsimp only;show wpAny _ _ (setField (.ref I) 2 .none >>= _) _ _ s;refine B60 (B89 f g (by simp) ?_)
 show wpAny _ _ (newExc (.type "StopIteration") [] >>= _) _ _ _;refine B60 ?_;simp only[newExc,newTuple];refine B60 (B67 ?_ (by size_fits))
 refine B60 (m:=C15 _ _) (C00 (a:=J5) (by first|rfl|(simp only[C15];rfl)) ?_)
 refine B67 ?_ (by size_fits)
 simp only[raiseNew];refine B60 (wpAny_handled ?_);rw[show A.in1.handled=none from j];refine B60 (B61 (wpAny_throw ?_));refine B60 (wpAny_isInstance (T:="StopIteration") (b:=true) ⟨_,B3 _ rfl,rfl⟩ isSubtype_stop ?_);exact B61 (h _ (((R7 ..).extBut.push _).push _))
theorem qdR {Q:Aa1} (T:TabG (byT w,true) t es.size) (e:es.size<=t.mask) (b:s.heap.get? a=some {cls:=.type "set",data:=.set es ep t})
  (f:Q (.ref s.heap.objs.size) {s with heap:=s.heap.push {cls:=.type "set_iterator",data:=.fields #[.int 0 0,.int 0 0,.ref a,.int es.size 0,.int ep 0]}}):wpAny (model prog w) A (pyIter (.ref a)) Q E s:=by
 have d:s.TypeIs (.ref a) "set":=⟨_,b,rfl⟩;have c:=T.fits e;refine wpAny_pyIter_slot d F.slot_set_iter (B78 F.slot_set_iter d qLB ?_ (F.args_set_iter_1 _));unfold Builtin.«frozenset.__iter__» B46 B39 setEntries;refine B60 (B60 (B61 ?_));show wpAny _ _ (pure a) _ _ s;refine B61 ?_;refine B60 (B60 (B60 (B91 b rfl c (B61 (B61 ?_)))));unfold setDrawn setsByText;refine B60 (B60 (B91 b rfl c ?_));dsimp only;refine B60 (B60 (C18 (B61 (B61 ?_))));show wpAny _ _ (if(!byT w&&(!t.plain&&decide (es.size>1)))=true then _ else _) _ _ _
 rw[show t.plain=true from T.plain];simp only[A84,w6,X5,E8,if_false];refine B60 (B61 ?_);unfold setEpoch;refine B60 (B60 (B91 b rfl c (B61 ?_)));refine B60 (B67 (B61 ⟨_,rfl,"set_iterator",_,⟨_,B3 _ rfl,rfl⟩,slot_si_next.lookup,?_⟩));simpa[rawInt] using f
theorem qdQ (T:TabG (byT w,true) t es.size) (j:es.size<=t.mask):PySem.W.KdlSrc prog w "set" a a es.size (λi v=>∃e,(qF9 w a ep es)[i]?=some e/\v=e.2) (λh=>h.get? a=some {cls:=.type "set",data:=.set es ep t}) where
 type:=λs h=>⟨_,h,rfl⟩
 there:=λh x=>⟨B4 x,B4 x⟩
 keep:=λh d x k=>k a (.inl rfl) _ x
 notList:=by decide
 notTuple:=by decide
 hint:=λA E s Q x q=>qbJ ⟨_,x,rfl⟩ q
 iter:=λA s hh x=>by
  have l:a≠s.heap.objs.size:=C4 (B4 x);refine⟨_,λi h=>SetIt w a s.heap.objs.size es ep t i h,λE Q q=>qdR T j x q,?_,⟨⟨_,B3 _ rfl,rfl,?_⟩,A3 _ x⟩⟩
  ·refine⟨λb f=>?_,λi h d c k=>?_,λi g Q E r c q=>?_,λg Q E c q=>?_,λi g Q E c q=>qbI c q⟩
   ·have e:b=s.heap.objs.size:=by simpa using f
    simp[e]
   ·obtain⟨⟨o,y,h2,u⟩,p⟩:=c;exact⟨⟨o,k _ (by simp) _ y,h2,u⟩,k _ (by simp) _ p⟩
   ·have n:i<(qF9 w a ep es).length:=by rw[(qF8 w a ep es).length_eq,D2];exact r
    refine qbK T j c l (A4 n) λd m k=>?_;exact q _ d g.toks ⟨_,A4 n,rfl⟩ m λb o f e=>k b o (λz=>f (by simp[z])) e
   ·refine qdS hh T j c λd k=>?_;exact q d g.toks λb o f e=>k b o (λz=>f (by simp[z])) e
  ·unfold qFB
   split<;>rfl
end
def SetM (w:World)(a:Addr)(zs:List Int):HO:=.ext (SetG w a zs)
theorem qKM (g:X.calm=true):qD9 X (.type "set") (λxs H Q=>∃p ns,xs=[.ref p]/\SqL X.K H p (ns.map V.int)/\ns.length<=4000/\∀a,H a=none->Q (.ref a) (Ag H a (SetM X.w a (dedI ns)))):=by
 intro z s σ H xs us Q I r h;obtain⟨p,ns,rfl,n,h4,q⟩:=h;obtain⟨u,rfl,i⟩:=qDR r;cases i;obtain⟨f,d,m,o⟩:=I.list n;have b:=d.length;rw[A0] at b;refine qU3 (ns:=ns) (I.ok.hd g) m.isList (by simpa using qBN d) (by simp;lia) λv j c l=>?_
 refine⟨.ref s.heap.objs.size,_,I.laid (t':=j) l (A7 _) ?_,rfl,q _ (I.hok.fresh (A7 _))⟩;obtain⟨y,ep,t,ks,e,_⟩:=id c;exact⟨c,⟨_,e⟩,λh1 h2 x k=>x.at k⟩
theorem qX9 {ks:List Int} {l:List (Int×Value)} (h:Ents ks l):∀vs:List Value,vs.length=l.length->(∀(i:Nat) (v:Value),vs[i]?=some v->∃e:Int×Value,l[i]?=some e/\v=e.2)->B68 vs ks:=by
 induction h with
 |nil=>
  intro vs a _;have:vs=[]:=O1.mp a;subst this;exact .nil
 |cons r t ih=>
  intro vs a b;cases vs with
  |nil=>simp at a
  |cons v vs=>
   obtain⟨f,rfl⟩:=r;obtain⟨e,c,rfl⟩:=b 0 v rfl;simp at c;subst c;exact IntsAre.cons _ _ (ih vs (by simpa using a) λi v d=>by simpa using b (i+1) v (by simpa using d))
theorem qEC (hc:X.calm=true):qD9 X (.builtin "sorted") (fun xs H Q=>∃ p ns,xs=[.ref p]/\H p=some (SetM X.w p ns)/\ns.length<64/\
  ∀(a:Addr) (zs:List Int),H a=none->zs.Perm ns->zs.Pairwise (·<=·)->Q (.ref a) (Ag H a (.lst (zs.map V.int)))):=by
 intro Ab s σ H xs us Q I r h;obtain ⟨p,ns,rfl,hq,y,q⟩:=h;obtain ⟨u,rfl,rx⟩:=qDR r;cases rx;refine y8 kind_sorted plain_sorted entry_sorted (args_sorted1 _) ?_;unfold Builtin.«sorted»;refine B60 (m:=checkCount "sorted" 1 1 _) (B61 ?_);have c:∀ (s1:Shared) (vs:List Value) (zs:List Int),Inv X Ab σ H s1->B68 vs zs->zs.length<=B62->zs.Perm ns->wpAny (model X.prog X.w) X.A.in1 (do
   let l <- newList vs
   let _ <- B97 [l] (call (.builtin "list.sort") [l] [])
   ret l) (λc s'=>∃r,c=.done (.ret r)/\EP X Ab σ Q r s') X.xe s1:=by
  intro s1 vs zs I1 hv z d;have g:=IntsAre.length hv;refine B60 (C09 ?_ (by rw[g];exact z))
  have hf:=I1.hok.fresh (A7 s1.heap.objs.size);refine B60 (B65 (B69 (qO0 (E:=X.xe) (qHQ I1 hv z) (by rw[d.length_eq];exact y) λzs a b=>q _ zs hf (a.trans d) b) (λ_ s' x=>?_) λ_ _ e=>e))
  exact B61 ⟨_,rfl,x⟩
 obtain⟨hS,_,_⟩:=(show ObjOk X.prog X.w H s.heap p (.ext (SetG X.w p ns)) from I.hok p _ hq);obtain⟨j,ep,t,ks,e,T,he,d,a1,h4,a0⟩:=hS;have k:j.size=ns.length:=SetI.size (a:=p) (h:=s.heap) he d;obtain⟨n,h1,h2⟩:=he.perm (qF8 X.w p ep j);have h7:=T.mask7;refine B60 (A70 (A:=X.A.in1) (qdQ (ep:=ep) T (by lia)) (I.ok.hd hc) e (by rw[k,B64];lia) λh' tk o hk f=>?_)
 refine c _ _ n (I.kept (t':=tk) hk) ?_ (by rw[h2.length_eq,d.length_eq,B64];lia) (h2.trans d)
 obtain⟨l1,l2⟩:=f;refine qX9 h1 o.toList ?_ λi v hi=>l2 i v (by rw[<- M7];exact hi)
 rw[D2,l1,(qF8 X.w p ep j).length_eq,D2]
theorem qU5 {K:Ab1} (c:X.K=K) (d:X.w=w) (b:X.calm=true):qD9 X (.type "set") (λxs H Q=>∃p ns,xs=[.ref p]/\SqL K H p (ns.map V.int)/\ns.length<=4000/\∀a,H a=none->Q (.ref a) (Ag H a (SetM w a (dedI ns)))):=by
 subst c d;exact qKM b
theorem qNI (c:X.w=w) (b:X.calm=true):qD9 X (.builtin "sorted") (fun xs H Q=>∃ p ns,xs=[.ref p]/\H p=some (SetM w p ns)/\ns.length<64/\
  ∀(a:Addr) (zs:List Int),H a=none->zs.Perm ns->zs.Pairwise (·<=·)->Q (.ref a) (Ag H a (.lst (zs.map V.int)))):=by
 subst c;exact qEC b
def qfP (K:Ab1):R2:=λx y H Q=>∃a b xs ys,x=.ref a/\y=.ref b/\SqT K H a xs/\SqT K H b ys/\((xs≠[]/\H a=some (.tup xs))\/(ys≠[]/\H b=some (.tup ys)))/\xs.length+ys.length<=B62/\∀p H',Same H H'->H' p=some (.tup (xs++ys))->Q (.ref p) H'
theorem qVO:OpR X (B99 .Add) (qfP X.K):=by
 intro f s σ H x y v u Q I k i h;obtain⟨a,b,c,d,rfl,rfl,l,m,n,g,q⟩:=h;have j:∀p,H p=none->Q (.ref p) (Ag H p (.tup (c++d))):=λp o=>q p _ (λb u e=>by rw[qA7 (qA5 e o)];exact e) qA1
 rcases n with⟨w,t⟩|⟨r,gb⟩
 ·exact qVP f s σ H (.ref a) (.ref b) v u Q I k i ⟨a,b,c,d,rfl,rfl,l,m,w,g,λz=>q a H (λ_ _ e=>e) (by rw[z,M4];exact t),λ_=>j⟩
 ·exact qVQ f s σ H (.ref a) (.ref b) v u Q I k i ⟨a,b,c,d,rfl,rfl,l,m,r,g,λz=>q b H (λ_ _ e=>e) (by rw[z];exact gb),λ_=>j⟩
theorem qR0 {l:Addr} {a:Array Value} {ns:List Int} {Q:Aa1} (hh:A.handled=none)(hl:s.heap.IsTuple l a)(hi:B68 a.toList ns)(h4:a.size<=4000)
  (h:∀(h':Heap) (tk:Nat),SetG w s.heap.objs.size (dedI ns) h'->(∀b o,s.heap.get? b=some o->h'.get? b=some o)->Q (.ref s.heap.objs.size) {s with heap:=h',toks:=tk}):
  wpAny (model prog w) A (call (.type "set") [.ref l]) Q E s:=by
 have a0:ns.length=a.size:=by have:=IntsAre.length hi;simpa using this.symm
 obtain⟨c,tl,ad⟩:=M9.mro;have a2:=M9.made;have af:=M9.sub;refine C06 (C24 ?_);show wpAny _ _ (callAny (.type "set") _) _ _ _;refine B61 ⟨c7 _ (by decide +kernel),B71 A96 ?_⟩
 rw[A83 (weight_type_call_type "set" [.ref l] []) rfl];have h1:=M9.notType;have h2:=M9.canCreate;have ag:=B10 (.ref l)
 repeat (any_goals (first|assumption|wp_step))
 refine B81 (qO4 (.ref l) (E:=E) (Q₁:=λp s₁=>p=.ref s.heap.objs.size/\s₁={s with heap:=s.heap.push (freshSet w)}) ⟨rfl,rfl⟩) λr s₁ n=>?_;cases r with
 |error e=>exact n
 |ok fl=>
  cases fl with
  |ret p=>
   obtain⟨rfl,rfl⟩:=n;have hS:(s.heap.push (freshSet w)).get? s.heap.objs.size=some (freshSet w):=B3 _ rfl;have hT:Shared.TypeIs {s with heap:=s.heap.push (freshSet w)} (.ref s.heap.objs.size) "set":=⟨_,hS,rfl⟩;have aj:=M9.init.lookup;have ai:=M9.init.bind (.ref s.heap.objs.size)
   repeat (any_goals (first|assumption|wp_step))
   refine B81 (C20 (R:=wants (fun r s₂=>r=.none/\∃ h' tk,s₂={ s with heap:=h',toks:=tk }/\SetG w s.heap.objs.size (dedI ns) h'/\
     (∀b o,s.heap.get? b=some o->h'.get? b=some o)) E) M9.init.plain B11 (check_set_init_1 hT ?_)) λr₂ s₂ d=>?_
   ·obtain⟨ol,k,q,nl,a1⟩:=hl;obtain⟨ae,g,a5,f⟩:=ol;simp only at q a1;subst q;subst a1;have z:(s.heap.push (freshSet w)).get? l=some {cls:=.type "tuple",dict:=g,data:=.seq a nl,slots:=f}:=A3 _ k;have ab:=F.sub_tuple_set;have ac:=F.sub_tuple_frozenset;have ah:(A45 "tuple" == A45 "dict")=false:=by decide
    have x:(s.heap.push (freshSet w)).IsTuple l a:=⟨_,z,rfl,nl,rfl⟩;unfold Builtin.«set.__init__» noKeywords m8;generalize hPI:pyIter=PI
    wp_walk
    subst hPI;refine C26 x ?_;refine B60 (wpAny_runValue ?_);have u:l<s.heap.objs.size:=B4 k;have aa:A.in1.in1.in1.handled=none:=by simp[hh]
    have y:l≠(s.heap.push (freshSet w)).objs.size:=by
     rw[G9];exact C4 (G0 u)
    have a3:s.heap.objs.size∉[(s.heap.push (freshSet w)).objs.size,l]:=by
     rw[G9];simp only[B1,A6,G2,or_false,not_or];exact⟨C4 (B12 _),O3 u⟩
    have m:∀(i:Nat) (v:Value),a[i]?=some v->∃t,v=.int (ns.getD i 0) t:=λi v hv=>
     U4 hi i v (by rw[M7];exact hv)
    refine qI2 ((Walks.tuple aa _ l y a).toS) s.heap.objs.size a3 ns a0 h4 m (a.size-0) 0 _ (by lia) (E2 _)
     ⟨⟨_,B3 _ rfl,rfl,rfl⟩,(x.push _)⟩ ?hS0 ?hR
    case hS0=>exact SetG.fresh (A3 _ hS)
    case hR=>
     intro s' hm j;obtain⟨h',g',d',a6,a4⟩:=s';have eg:g'=s.gens:=hm.gens;have ed:d'=s.drawn:=hm.drawn;have eo:a4=s.os:=hm.os;subst eg;subst ed;subst eo;show wpAny _ _ _ _ _ _;refine B61 ?_;show wpAny _ _ (ret J5) _ _ _;refine B61 ⟨rfl,h',a6,rfl,j,λb o e=>?_⟩;have hb:=B4 e;have a7:b≠s.heap.objs.size:=C4 hb;have a9:b≠(s.heap.push (freshSet w)).objs.size:=by
      rw[G9];exact C4 (G0 hb)
     exact hm.heap b o (by simp only[B1,A6,G2,or_false,not_or];exact⟨a7,a9⟩) (A3 _ (A3 _ e))
   ·cases r₂ with
    |error e=>exact d
    |ok fl₂=>
     cases fl₂ with
     |ret r=>
      obtain⟨rfl,h',tk,rfl,j,a8⟩:=d
      repeat (any_goals (first|assumption|wp_step))
      exact h _ _ j a8
     |next=>exact d
     |brk=>exact d
     |cont=>exact d
  |next=>exact n
  |brk=>exact n
  |cont=>exact n
theorem qU4 (g:X.calm=true):qD9 X (.type "set") (λxs H Q=>∃p ns,xs=[.ref p]/\SqT X.K H p (ns.map V.int)/\ns.length<=4000/\∀a,H a=none->Q (.ref a) (Ag H a (SetM X.w a (dedI ns)))):=by
 intro z s σ H xs us Q I r h;obtain⟨p,ns,rfl,n,h4,q⟩:=h;obtain⟨u,rfl,i⟩:=qDR r;cases i;obtain⟨f,d,m,o⟩:=I.tuple n;have b:=d.length;rw[A0] at b;refine qR0 (ns:=ns) (I.ok.hd g) m (by simpa using qBN d) (by simp;lia) λv j c l=>?_
 refine⟨.ref s.heap.objs.size,_,I.laid (t':=j) l (A7 _) ?_,rfl,q _ (I.hok.fresh (A7 _))⟩;obtain⟨y,ep,t,ks,e,_⟩:=id c;exact⟨c,⟨_,e⟩,λh1 h2 x k=>x.at k⟩
structure Ex (B:Heap)(l:List Env)(e:Addr)(cls:Value)(dd:Option Addr)(nt:Bool)(h:Heap):Prop where
 stays:B.StaysIn h
 new:B.get? e=none
 frames:h.FunFrames B l
 rec_:∃(oe:Obj) (vs:Array Value) (x1:Value),h.get? e=some oe/\oe.cls=cls/\oe.dict=dd/\oe.data=.fields vs/\vs[1]?=some x1/\
  ((x1=.none/\nt=false)\/∃(T:Addr) (oT:Obj) (ts:Array Value) (x3:Value),x1=.ref T/\B.get? T=none/\T≠e/\h.get? T=some oT/\oT.data=.fields ts/\ts[3]?=some x3)
theorem Ex.tail {B:Heap} {env:Env} {l:List Env} {e:Addr} {a:Value} {b:Option Addr} {c:Bool} {h:Heap} (x:Ex B (env::l) e a b c h):Ex B l e a b c h:=⟨x.stays,x.new,x.frames.2.2,x.rec_⟩
section
variable{M:Model}{A:Around}{E:Aa1}{s:Shared}{B:Heap}{env:Env}{outer l:List Env}{L e:Addr}{cls:Value}{dd:Option Addr}{nt:Bool}{Q:Unit->Shared->Prop}
theorem qSJ {t:Obj} {vs:Array Value} {p:Value} {m:Bool} (a9:A.frames=some (env::outer))(hl:s.heap.FunFrames B (env::outer))(hf:env.frame=some L)
  (he:s.heap.get? e=some t) (a3:B.StaysIn s.heap) (u:B.get? e=none) (hd:t.data=.fields vs) (hsz:1<vs.size)
  (h:∀h',Ex B (env::outer) e t.cls t.dict true h'->s.heap.UpToSlots h'->Q () {s with heap:=h'}):
  wpAny M A (do let a <- frameOf env;let pl <- entryPlaceOf L m;let b <- A73 p a .none (rawInt L) .none pl;setField (.ref e) 1 b) Q E s:=by
 have y:e∉(env::outer).filterMap (·.frame):=λhm=>by
  obtain⟨_,o,ho,i⟩:=hl.mem hm;rw[he] at ho
  injection ho with ho
  subst ho;exact i vs hd
 refine B60 (wpAny_frameOf_fun a9 hl hf λj n=>?_);refine B60 (wpAny_entryPlaceOf λpl a2=>?_);unfold A73 newFields;refine B60 (B67 ?_ (a2.sizeOk5 _ _ _ _ _));have x:j.get? e=some t:=(n.2.1 e y).trans he;have z:B.StaysIn j:=λb o g=>(n.2.1 b λhm=>by rw[(hl.mem hm).1] at g;cases g).trans (a3 b o g)
 generalize ht:({cls:=.type "traceback",dict:=none,data:=.fields ([p,.ref L,.none,rawInt L,.none]++(if pl.isEmpty then D8 6 J5 else pl)).toArray}:Obj)=r
 have aa:∃ts:Array Value,r.data=.fields ts/\∃x3,ts[3]?=some x3:=by
  subst ht;exact⟨_,rfl,rawInt L,by simp⟩
 have a5:r.isFreed=false:=by subst ht;rfl
 have a0:=A3 (h:=j) r x;refine B89 a0 hd hsz ?_;have v:j.objs.size≠e:=O3 (B4 x);have w:=O4 hd (·.setIfInBounds 1 (D4 j.objs.size));have a6:=E7 (U1 (·.setIfInBounds 1 (D4 j.objs.size))) a0 (V3 w);have a8:=(C0 (j.push r) (U1 (·.setIfInBounds 1 (D4 j.objs.size))) (F6 v)).trans (B3 j a5);have l:∀b o,b≠e->j.get? b=some o->((j.push r).update e (U1 (·.setIfInBounds 1 (D4 j.objs.size)))).get? b=some o:=λb o a7 k=>by
  rw[C0 _ _ (F6 a7)];exact A3 _ k
 have f:∀b o,s.heap.get? b=some o->(∀vs,o.data≠.fields vs)->b≠e:=λb o k i q=>by
  rw[q,he] at k
  injection k with k
  subst k;exact i vs hd
 obtain⟨ts,a4,x3,a1⟩:=aa;refine h _ ⟨λb o g=>l b o (λq=>by rw[q,u] at g;cases g) (z b o g),u,hl.of_keeps λb o k i=>?_,?_⟩ λb o k i=>?_
 ·obtain⟨sl,hs⟩:=n.2.2 b o k;exact⟨_,l b _ (f b o k i) hs,rfl⟩
 ·refine⟨_,_,_,a6,g8 _ _,?_,w,?_,.inr ⟨j.objs.size,r,ts,x3,rfl,z.fresh,v,a8,a4,a1⟩⟩
  ·obtain⟨c,d,dt,sl⟩:=t;cases dt<;>rfl
  ·simp[hsz]
 ·obtain⟨sl,hs⟩:=n.2.2 b o k;exact⟨sl,l b _ (f b o k i) hs⟩
theorem qQU (m:A.frames=some (env::outer))(w:env.frame=some L)(x:Ex B (env::outer) e cls dd nt s.heap)(h:∀h',Ex B (env::outer) e cls dd true h'->s.heap.UpToSlots h'->Q () {s with heap:=h'}):
  wpAny M A (noteFrame (.ref e) env) Q E s:=by
 obtain⟨oe,p,z,t,rfl,rfl,r,u,hx⟩:=x.rec_;have k:1<p.size:=(U8.mp u).1;unfold noteFrame;simp only[w];refine B60 (B96 t r u ?_);rcases hx with⟨rfl,_⟩|⟨T,oT,y,x3,rfl,l,j,n,g,v⟩
 ·rw[if_neg (by decide)]
  exact qSJ m x.frames w t x.stays x.new r k h
 ·rw[if_pos (show(D4 T != J5)=true from by simp)]
  refine B60 (B96 n g v ?_);refine wpAny_ite_split (λ_=>?_) (λ_=>?_)
  ·exact B61 (h _ ⟨x.stays,x.new,x.frames,oe,p,_,t,rfl,rfl,r,u,.inr ⟨T,oT,y,x3,rfl,l,j,n,g,v⟩⟩ (B57 _))
  ·refine B60 (B89 n g (U8.mp v).1 ?_);have c:∀b,b≠T->(s.heap.update T (U1 (·.setIfInBounds 3 J5))).get? b=s.heap.get? b:=λb f=>C0 _ _ (F6 f);have a:∀b o,s.heap.get? b=some o->(∀p,o.data≠.fields p)->b≠T:=λb o f d q=>by
    rw[q,n] at f
    injection f with f
    subst f;exact d y g
   refine qSJ m (x.frames.of_keeps λb o f d=>⟨o,(c b (a b o f d)).trans f,rfl⟩) w ((c e (F6 j)).trans t)
    (λb o i=>(c b λq=>by rw[q,l] at i;cases i).trans (x.stays b o i)) x.new r k
    λh' z x2=>h h' z λb o f d=>x2 b o ((c b (a b o f d)).trans f) d
theorem qFT {f:Option Addr} (x:Ex B l e cls dd true s.heap)(h:∀h',Ex B l e cls dd true h'->s.heap.UpToSlots h'->Q () {s with heap:=h'}):wpAny M A (setFlight (.ref e) f) Q E s:=by
 obtain⟨y,r,x1,w,rfl,rfl,v,u,hx⟩:=x.rec_;rcases hx with⟨_,z⟩|⟨T,oT,t,x3,rfl,n,m,p,i,h3⟩
 ·cases z
 have j:3<t.size:=(U8.mp h3).1;unfold setFlight;refine B60 (B96 w v u ?_);rw[if_pos (show(D4 T != J5)=true from by simp)]
 have c:∀b,b≠T->(s.heap.update T (U1 (·.setIfInBounds 3 (f.elim J5 λf=>rawInt f)))).get? b=s.heap.get? b:=λb d=>C0 _ _ (F6 d);have a:∀b o,s.heap.get? b=some o->(∀r,o.data≠.fields r)->b≠T:=λb o d g q=>by
  rw[q,p] at d
  injection d with d
  subst d;exact g t i
 refine B89 p i j (h _ ⟨fun b o k=>(c b fun q=>by rw [q,n] at k;cases k).trans (x.stays b o k),x.new,
  x.frames.of_keeps λb o d g=>⟨o,(c b (a b o d g)).trans d,rfl⟩,y,r,_,(c e (F6 m)).trans w,rfl,rfl,v,u,.inr ⟨T,_,_,f.elim J5 (λf=>rawInt f),rfl,n,m,E7 _ p (V3 (O4 i _)),O4 i _,by simp[j]⟩⟩
  λb o d g=>⟨o.slots,(c b (a b o d g)).trans d⟩)
theorem qa2 (a:A.frames=some (env::outer))(c:env.frame=some L)(x:Ex B (env::outer) e cls dd nt s.heap)(h:∀h',Ex B outer e cls dd true h'->s.heap.UpToSlots h'->Q () {s with heap:=h'}):
  wpAny M A (leaving env (.ref e)) Q E s:=by
 unfold leaving;refine B60 (qQU a c x λg b d=>?_);exact qFT (s:={s with heap:=g}) b λj i f=>h j i.tail (d.trans f)
theorem qcR (x:Ex B l e cls dd true s.heap)(h:∀h',Ex B l e cls dd true h'->s.heap.UpToSlots h'->E (.ref e) {s with heap:=h'}):cameBackBy M A env E (.ref e) s:=by
 obtain⟨n,r,m,a,_,_,b,f,g⟩:=x.rec_;rcases g with⟨_,z⟩|⟨T,j,k,o,rfl,i,c,q,d,p⟩
 ·cases z
 unfold cameBackBy;refine B60 (B96 a b f ?_);rw[if_neg (show¬((D4 T==J5)=true) from by simp)]
 exact qFT x h
end
theorem ObjOk.has {H:Hp} {h:Heap} {a:Addr} {o:HO} (x:ObjOk P w H h a o):∃u,h.get? a=some u:=by
 cases o with
 |lst xs=>obtain⟨_,_,_,_,e⟩:=x;exact⟨_,e⟩
 |tup xs=>obtain⟨_,_,_,b,e,_⟩:=x;exact⟨_,e⟩
 |dK Af=>obtain⟨_,_,_,_,o,_,_,e,_⟩:=x;exact⟨_,e⟩
 |dT Af=>obtain⟨_,_,_,_,o,_,_,e,_⟩:=x;exact⟨_,e⟩
 |set S n=>obtain⟨o,_,_,_,e,_⟩:=x;exact⟨_,e⟩
 |ins C dx fs=>obtain⟨_,_,_,e,_⟩:=x;exact⟨_,e⟩
 |own y=>obtain⟨_,e⟩:=x;exact⟨_,e⟩
 |xd fs=>obtain⟨_,⟨_,_,_,e,_⟩,_⟩:=x;exact⟨_,e⟩
 |rng lo hi=>obtain⟨_,_,_,e⟩:=x;exact⟨_,e⟩
 |frz b u=>exact⟨_,x.1⟩
 |tbl t=>
  cases t with
  |tab q=>obtain⟨_,e,_⟩:=x;exact⟨_,e⟩
  |cod q=>obtain⟨c,o,_,_,e,g,_⟩:=x;cases e;exact⟨_,g⟩
 |met f y=>exact⟨_,show h.get? a=some (d6 (.ref f) (.ref y)) from x⟩
 |ext φ=>exact x.2.1
def Kp (outer:List Env)(H':Hp)(h0:Heap)(b:Addr):Prop:=(∃o,H' b=some o)\/((∃o,h0.get? b=some o)/\b∉frs outer)
structure XD (P:B63)(w:World)(outer l:List Env)(H:Hp)(h0:Heap)(e:Addr)(cls:Value)(dd:Option Addr)(H':Hp)(B:Heap)(nt:Bool)(h:Heap):Prop where
 un:Un (frs outer) [] H H' h0 h
 hok:HOk P w H' h
 ex:Ex B l e cls dd nt h
 kp:∀b o,h.get? b=some o->Kp outer H' h0 b->B.get? b=some o
 ne:H' e=none
 ge:h0.objs.size<=e
theorem XD.step {c l l':List Env} {H:Hp} {y:Heap} {e:Addr} {f:Value} {dd:Option Addr} {H':Hp} {B:Heap} {nt g:Bool} {h h':Heap} (x:XD P w c l H y e f dd H' B nt h)
  (ex:Ex B l' e f dd g h') (u:h.UpToSlots h') (hs:∀b∈frs c,b∈frs l):XD P w c l' H y e f dd H' B g h':=by
 have t:∀b o,h.get? b=some o->Kp c H' y b->h'.get? b=some o:=λb o q k=>ex.stays b o (x.kp b o q k);have j:∀b,Kp c H' y b->∃o,h.get? b=some o:=λb k=>by
  rcases k with⟨o,q⟩|⟨⟨o,q⟩,_⟩
  ·exact(x.hok b o q).has
  ·exact x.un.there b o q (by simp)
 have fr:∀b o,h.get? b=some o->b∈frs c->∃sl,h'.get? b=some {o with slots:=sl}:=λb o q m=>by
  obtain⟨_,o',p,hd⟩:=x.ex.frames.mem (hs b m);rw[q] at p;cases p;exact u b o q hd
 refine⟨⟨λb o q n nf s=>t b o (x.un.keep b o q n nf s) (.inr ⟨⟨o,q⟩,nf⟩),λb o q n m s=>?_,x.un.free,λb o q s=>?_,x.un.tups,x.un.frzs,x.un.tbls⟩,λa o q=>?_,ex,λb o q k=>?_,x.ne,x.ge⟩
 ·obtain⟨sl,d⟩:=x.un.slot b o q n m s;obtain⟨a0,q2⟩:=fr b _ d m;exact⟨a0,q2⟩
 ·obtain⟨i,d⟩:=x.un.there b o q s;by_cases m:b∈frs c
  ·obtain⟨sl,q2⟩:=fr b i d m;exact⟨_,q2⟩
  ·exact⟨i,t b i d (.inr ⟨⟨o,q⟩,m⟩)⟩
 ·refine(x.hok a o q).stay (λb v hb r=>t b v r ?_) (λ_ z=>z) λ_ _ z=>z;rcases hb with rfl|hb
  ·exact .inl ⟨o,q⟩
  ·exact .inl ⟨_,hb⟩
 ·obtain⟨i,d⟩:=j b k;have:=t b i d k;rw[q] at this;cases this;exact x.kp b o d k
def CX1 (P:B63)(w:World):CXT:=λouter H s E ev s'=>∃(e:Addr) (cls:Value) (dd:Option Addr) (H':Hp) (B:Heap) (nt:Bool),ev=.ref e/\s'.os=s.os/\C29 s'.gens/\XD P w outer outer H s.heap e cls dd H' B nt s'.heap/\E cls dd H'
def XP (X:Cx)(G:XK)(ev:Value)(s':Shared):Prop:=X.A.frames=some X.stack/\∃(e:Addr) (cls:Value) (dd:Option Addr) (H':Hp) (B:Heap) (nt:Bool),ev=.ref e/\s'.os=X.s₀.os/\C29 s'.gens/\XD X.prog X.w X.outer X.stack X.H₀ X.s₀.heap e cls dd H' B nt s'.heap/\G cls dd H'
section
variable{X:Cx}{E:XK}{G:XK}{Ab:Aa2}{σ:St}{H:Hp}{s s':Shared}
theorem PassesOwn.xp (a:X.stack=X.env::X.outer)(d:X.env.frame=some X.env.locals):PassesOwn (model X.prog X.w) X.A X.env (XP X G):=by
 rintro ev s1 ⟨hfr,e,cls,dd,H',B,nt,rfl,ho,hg,x,g⟩;have i:∀b∈frs X.outer,b∈frs X.stack:=λb h=>by
  rw[a];unfold frs at h ⊢;rw[M3,d];exact A8 _ h
 have c:=x.ex;rw[a] at c;unfold notedBy;refine qQU (hfr.trans (by rw[a])) d c λm j k=>?_
 refine qcR (s:={s1 with heap:=m}) j λn f l=>?_;rw[<- a] at f;exact⟨hfr,e,cls,dd,H',B,true,rfl,ho,hg,x.step f (k.trans l) i,g⟩
end
section
variable{P:B63}{w:World}{K:Ab1}{mg:Ab0}{base:Heap}
theorem qf3 {N:List Str} {d:Str} {a:Scope} {f:Addr} {cd:Value} {c:List Env} {H:Hp} {E:XK} {j:Value} 
  (q:XP (cxOf (CX1 P w) P w K mg base N d a f cd A c s H E) E j s'):(cxOf (CX1 P w) P w K mg base N d a f cd A c s H E).xe j s':=by
 obtain⟨h,e,i,k,o,B,t,rfl,p,l,x,g⟩:=q;refine qa2 (L:=s.heap.objs.size) h rfl x.ex λu m n=>?_;exact⟨e,i,k,o,B,true,rfl,p,l,x.step m n λb r=>A8 _ r,g⟩
noncomputable abbrev cxX (P:B63)(w:World)(K:Ab1)(mg:Ab0)(base:Heap)(N:List Str)(d:Str)(a:Scope)(f:Addr)(cd:Value)(A:Around)(c:List Env)(s:Shared)(H:Hp)(E:XK):Cx:=
 (cxOf (CX1 P w) P w K mg base N d a f cd A c s H E).wish (XP (cxOf (CX1 P w) P w K mg base N d a f cd A c s H E) E)
theorem Fun.okX {x a:Str} {st:Stmt} {f:Addr} {g:B77} {N ps:List Str} {k:Nat} {sp:Sp} (F:Fun K x a st f g)(S:FnScope N ps (qA8 st))(c:∀vs H Q E,sp vs H Q E->vs.length=ps.length)
  (b:∀ (cdv:Value) (A:Around) (outer:List Env) (s:Shared) (H:Hp) (vs:List V) (Q:VK) (E:XK),Room k (A.deeper (envOfC a (qA8 st) s.heap.objs.size f cdv))->sp vs H Q E->
   ∃t,PSs (cxX P w K mg base N a (qA8 st) f cdv A outer s H E) (qAZ st) t/\t {nx:=λ_ H'=>Q .non H',rt:=Q} (start N vs) H):FnOk P w K mg base (CX1 P w) (k+1) f g ps sp:=by
 obtain⟨oc,v,z,r,pm,u,cdv,ct,j,rfl,n,e⟩:=F.ex;refine qcM n e S c λA outer s H vs Q E m d=>?_;obtain⟨t,h,q⟩:=b cdv A outer s H vs Q E m d;exact⟨t,λl o σ i D I p=>B69 (h l o σ i D (I.wish _) p) (λ_ _ q=>q.unwish) λy s2 q=>qf3 q,q⟩
theorem own1 {N:List Str} {c:Str} {b:Scope} {f:Addr} {cd:Value} {a:List Env} {H:Hp} {E:XK} :PassesOwn (model (cxX P w K mg base N c b f cd A a s H E).prog (cxX P w K mg base N c b f cd A a s H E).w) (cxX P w K mg base N c b f cd A a s H E).A (cxX P w K mg base N c b f cd A a s H E).env (cxX P w K mg base N c b f cd A a s H E).xe:=
 PassesOwn.xp (X:=cxOf (CX1 P w) P w K mg base N c b f cd A a s H E) rfl rfl
end
def ExcO (e:Addr)(cls:Value)(dd:Option Addr):HO:=.ext λh=>∃(oe:Obj) (vs:Array Value),h.get? e=some oe/\oe.cls=cls/\oe.dict=dd/\oe.data=.fields vs
theorem qcQ {H:Hp} {h:Heap} {e:Addr} {g:Value} {j:Option Addr} {f:Obj} {vs:Array Value} (i:h.get? e=some f)(n:f.cls=g)(m:f.dict=j)(l:f.data=.fields vs):ObjOk P w H h e (ExcO e g j):=
 ⟨⟨f,vs,i,n,m,l⟩,⟨f,i⟩,λ_ _ ⟨o,ws,a,b,c,d⟩ k=>⟨o,ws,k _ a,b,c,d⟩⟩
noncomputable abbrev Cx.held (X:Cx)(ev:Value):Cx:={X with A:=X.A.mark (some ev),calm:=false}
section
variable{X:Cx}{Ab:Aa2}{σ:St}{H:Hp}{s:Shared}{ev:Value}
theorem Inv.held (I:Inv X Ab σ H s)(a:Value):Inv (X.held a) Ab σ H s:=
 ⟨⟨I.ok.mod,I.ok.kind,I.ok.glob,I.ok.blt,I.ok.above,I.ok.inj,I.ok.has,I.ok.cab,(λz=>nomatch z),I.ok.frames,I.ok.stk,I.ok.exf,I.ok.bs,I.ok.bsz,I.ok.noex,I.ok.exfs,I.ok.funs,I.ok.frf⟩,I.os,I.bare,I.base,I.loc,I.cell,I.free,I.freeC,I.pin,I.hok,I.len⟩
theorem Inv.unheld (a:X.Ok)(I:Inv (X.held ev) Ab σ H s):Inv X Ab σ H s:=⟨a,I.os,I.bare,I.base,I.loc,I.cell,I.free,I.freeC,I.pin,I.hok,I.len⟩
theorem Inv.goes {M:Model} {j:Nat} {n:Str} {pos:Pos} {Q:Unit->Shared->Prop} (I:Inv X Ab σ H s)(hN:X.N.Nodup)(hj:X.N[j]?=some n)(w:X.env.scope.names.lookup n=some .local)
  (h:∀s',Inv X Ab (σ.set j none) H s'->Q () s'):wpAny M A (do bindName X.env n .none;unbindBehindTheSuite X.env n pos) Q E s:=by
 refine B60 (wpAny_bindName (qFZ (v:=.non) I hN hj (.inl w) rfl (λs1 a=>?_) (.inr w)));unfold unbindBehindTheSuite;refine wpAny_onRaise ?_;obtain⟨m,hn,g⟩:=id a.loc;have a0:j<σ.length:=by rw[I.len];exact(A5.mp hj).1
 have hv:∃v,m n=some v:=by
  obtain⟨u,_,z|⟨z,_⟩⟩:=g j n .non hj (by rw[O7 a0]) (.inl w)
  ·exact⟨u,z.2⟩
  ·have:X.env.scope.names.lookup n=some .cell\/X.env.scope.names.lookup n=some .free:=z;rw[w] at this;rcases this with z|z<;>cases z
 obtain⟨v,hv⟩:=hv;have l:(X.env.scope.kind == .class||(X.env.scope.kind == .module&&X.env.locals != X.env.globals))=false:=by rw[I.ok.kind];rfl
 refine wpAny_unbindName_local w hn hv l λh' u t f=>h _ ?_;obtain⟨oL,es,ep,a4,r⟩:=id hn;obtain⟨a3,_,_,a2,_⟩:=id t;have lo:∀b ob,X.s₀.heap.get? b=some ob->b≠X.env.locals:=λb ob e=>C4 (D7 (B4 e) I.ok.above);refine⟨a.ok,a.os,a.bare,⟨λb o e n' hb x=>?_,λb o e n' hb x=>?_,a.base.free,λb o e x=>?_,a.base.tups,a.base.frzs,a.base.tbls⟩,⟨_,t,λk y v' d e2 e3=>?_⟩,λy c e=>?_,a.free,a.freeC,λp hp=>?_,λb ob e=>?_,by simpa using I.len⟩
 ·exact(f.2 b (lo b o e)).trans (a.base.keep b o e n' hb x)
 ·obtain⟨sl,d⟩:=a.base.slot b o e n' hb x;exact⟨sl,(f.2 b (lo b o e)).trans d⟩
 ·obtain⟨o',d⟩:=a.base.there b o e x;exact⟨o',(f.2 b (lo b o e)).trans d⟩
 ·by_cases hk:k=j
  ·subst hk;rw[O7 a0] at e2;cases e2
  ·rw[Q6 (F6 hk)] at e2;obtain⟨u',r',q⟩:=g k y v' d (by rw[Q6 (F6 hk)];exact e2) e3
   refine⟨u',r',?_⟩;have a1:y≠n:=λz=>hk ((A97 (A5.mp d).1 hN).mp (by rw[d,hj,z]))
   rcases q with⟨q1,q2⟩|⟨q1,c,q2,i⟩
   ·exact .inl ⟨q1,(if_neg a1).trans q2⟩
   ·obtain⟨oc,i,q4⟩:=i;exact .inr ⟨q1,c,q2,oc,(f.2 c (I.cne y c q2)).trans i,q4⟩
 ·obtain⟨v,oc,i,q4⟩:=a.cell y c e;exact⟨v,oc,(f.2 c (I.cne y c e)).trans i,q4⟩
 ·obtain⟨d,n1,n2,r⟩:=a.pin p hp;exact⟨(f.2 p.1 n2).trans d,n1,n2,r⟩
 ·refine(a.hok b ob e).stay (λc w' hc q=>(f.2 c ?_).trans q) (λ_ q=>q) λ_ _ q=>q;rintro rfl;rcases hc with rfl|hc
  ·rw[a.free] at e;cases e
  ·rw[a.free] at hc;cases hc
theorem Inv.lands {Q:Unit->Shared->Prop} {EE:Aa1} {E:XK} {G:XK} {H1:Hp} (I:Inv X Ab σ H1 f)(a:X.stack=X.env::X.outer)(n:X.env.frame=some X.env.locals)(q:CX1 X.prog X.w X.stack H1 f G ev d)
  (h:∀e cls dd H2 B s3,ev=.ref e->Inv X Ab σ H2 s3->XD X.prog X.w X.stack X.stack H1 f.heap e cls dd H2 B true s3.heap->G cls dd H2->Q () s3):
  wpAny (model X.prog X.w) X.A (noteFrame ev X.env) (λ_ s3=>wpAny (model X.prog X.w) X.A (setFlight ev none) Q EE s3) EE d:=by
 obtain⟨e,cls,dd,H2,B,u,rfl,t,l,x,g⟩:=q;have c:=x.ex;rw[a] at c;refine qQU (I.ok.frames.trans (by rw[a])) n c λr o p=>?_
 refine qFT (s:={d with heap:=r}) o λm j k=>?_;rw[<- a] at j;have y:=x.step j (p.trans k) λb i=>i;exact h e cls dd H2 B _ rfl (I.call' (s':={d with heap:=m}) t y.un y.hok l λb i=>absurd i (by simp)) y g
theorem Inv.caught {H1 H2:Hp} {h:Heap} {e:Addr} {a:Value} {g:Option Addr} {B:Heap} {j:Bool} (I:Inv X Ab σ H2 s)(I0:∃s1,Inv X Ab σ H1 s1/\s1.heap=h)(x:XD X.prog X.w X.stack X.stack H1 h e a g H2 B j s.heap):Inv X Ab σ (Ag H2 e (ExcO e a g)) s:=by
 obtain⟨s1,d,rfl⟩:=I0;obtain⟨oe,vs,x1,u,r,i,l,_⟩:=x.ex.rec_;have f:∀b ob,s1.heap.get? b=some ob->b≠e:=λb ob q=>C4 (D7 (B4 q) x.ge);refine I.track x.ne (F3 d.sz x.ge) (λz=>?_) (λy c q z=>?_) (λp k z=>?_) (qcQ u r i l)
 ·obtain⟨m,⟨o,_,_,t,_⟩,_⟩:=d.loc;exact f _ _ t z.symm
 ·obtain⟨v,oc,n,_⟩:=d.cell y c q;exact f _ _ n z
 ·exact f _ _ (d.pin p k).1 z
end
def Ends.off (D:Ends):Option Nat->Ends
 |none=>D
 |some j=>{nx:=λσ H=>D.nx (σ.set j none) H,rt:=D.rt,bk:=λσ H=>D.bk (σ.set j none) H,ct:=λσ H=>D.ct (σ.set j none) H}
noncomputable def onE (σ:St)(e:Addr):Option Nat->St
 |none=>σ
 |some j=>σ.set j (some (.ref e))
def qf4 (K:Ab1)(i:Nat)(ta:TA)(sp:Sp)(dvs:List V)(c:Value)(j:Option Nat)(th:TS):TS:=λD σ H=>ta σ H λvs H1=>
 sp (vs++dvs) H1 (λv H2=>D.nx (σ.set i (some v)) H2) λcls dd H2=>A60 K cls c=some true/\∀e,H2 e=none->th (D.off j) (onE σ e j) (Ag H2 e (ExcO e cls dd))
theorem SP.back {Ab:Aa2} {D:Ends} {f:Flow} {c:Value} (b:X.Ok)(h:SP (X.held c).nox Ab D f s'):SP X Ab D f s':=by
 cases f with
 |next=>obtain⟨σ',a,I,q⟩:=h;exact⟨σ',a,I.unwish.unheld b,q⟩
 |brk=>obtain⟨σ',a,I,q⟩:=h;exact⟨σ',a,I.unwish.unheld b,q⟩
 |cont=>obtain⟨σ',a,I,q⟩:=h;exact⟨σ',a,I.unwish.unheld b,q⟩
 |ret u=>obtain⟨v,σ',a,I,r,q⟩:=h;exact⟨v,σ',a,I.unwish.unheld b,r,q⟩
theorem qbQ {i:Nat} {x fn cn:Str} {a:Expr} {as:List Expr} {px pf pc pa pC ph pt:Pos} {b₀:Stmt} {m:List Stmt} {ta:TA} {th:TS} {c:Value} {nm:Option Str} {j:Option Nat} {k:Nat} {f:Addr} {fd:B77} {ps:List Str} {sp:Sp} {t:List V} {ds:List Value} 
  (a6:X.stack=X.env::X.outer) (a9:X.env.frame=some X.env.locals) (hN:X.N.Nodup) (hi:X.N[i]?=some x) (hx:Loc X.env.scope x)
  (F:FnOk X.prog X.w X.K X.mg X.base (CX1 X.prog X.w) k f fd ps sp) (hr:Room k X.A) (hg:Gl X fn) (hm:X.mg fn=some (.ref f)) (hk:J4 X.K (.ref f)=true) (p:Binds X.K fd ps ds) (hd:Vals t ds)
  (ha:PA X.nox (a::as) ta) (ab:Gl X cn) (a4:X.mg cn=some c)
  (hj:match j,nm with|none,none=>True|some j,some n=>X.N[j]?=some n/\X.env.scope.names.lookup n=some .local|_,_=>False)
  (hh:∀ev,PSs (X.held ev).nox (b₀::m) th)
  (hs:swapsWith (.Call (.Name fn pf) (a::as) [] pc) (some (.Name x px)) pa.line X.env=pure false:=by rfl) (a3:X.fn x=true\/X.env.scope.names.lookup x=some .local:=by first|exact .inl rfl|exact .inr rfl|assumption)
  (aa:(fn==("__debug__" : Str))=false:=by decide) (a8:(cn==("__debug__" : Str))=false:=by decide)
  (he:B66 (a::as) X.env=(false,eval a X.env)::B66 as X.env:=by rfl) (a5:(backTo pc (B66 as X.env)).any (·.1)=false:=by rfl):
  PS X (.Try [.Assign [.Name x px] (.Call (.Name fn pf) (a::as) [] pc) pa] [.ExceptHandler (some (.Name cn pC)) nm (b₀::m) ph] [] [] pt) (qf4 X.K i ta sp t c j th):=by
 intro Ab s σ H D I h;rw[arm_exec_Try];refine B60 (C03 ?_);refine wpAny_tryStmt_except ?_;refine wpAny_execs_cons ?_;refine wpAny_Assign_Name ?_ hs;refine B87 (qMY I hg hm ?_ aa);refine t7 (h₀:=X.base) I.ok.mod.kin hk (B69 (ha pc Ab s σ H _ (I.wish _) h) (λus s1 ⟨vs,H1,I1,r,q⟩=>?_) λ_ _ z=>z.elim) he a5;have I1:=I1.unwish;refine⟨I1.kIn,?_⟩;have r2:Vals (vs++t) (us++ds):=r.append hd;have hl:(us++ds).length=ps.length:=by rw[<- r2.length];exact F.len _ _ _ _ q
 refine C06 (B81 (F.run X.A X.stack s1 H1 ⟨us,[]⟩ (us++ds) (vs++t) _ _ hr I1.env0 (p s1 us I1.kIn hl) r2 q) λa7 s2 hq=>?_);cases a7 with
 |ok fl=>
  cases fl with
  |ret u=>
   obtain⟨v,H2,I2,rv,q2⟩:=I1.after hq;refine qFZ I2 hN hi hx rv (λs3 o=>?_) a3;exact C10 (C10 ⟨_,H2,o,q2⟩)
  |next=>exact P9 hq
  |brk=>exact P9 hq
  |cont=>exact P9 hq
 |error ev=>
  refine I1.lands (E:=λ_ _ _=>True) a6 a9 hq λe cls dd H2 B s3 ee o y g=>?_;subst ee;obtain⟨hc,g⟩:=g;obtain⟨oe,ac,ad,a1,a2,_⟩:=y.ex.rec_;have LT:PySem.W.Looks (model X.prog X.w) s3.heap (typeOf (.ref e)) cls:=by
   subst a2;exact(B13 a1).andThen .now
  refine wpAny_handleBy_cons (codeAny_handlers_test ?_) (by intro z;cases z)
  have J3:=o.held (.ref e);refine qMY J3 ab a4 ?_ a8;refine(PySem.W.exm_one o.kIn LT hc).here ?_;have a0:=o.ok;cases nm with
  |none=>
   cases j with
   |some j=>exact hj.elim
   |none=>
    refine codeAny_handlers_suite (qFT y.ex λh4 x4 u4=>?_);have y4:=y.step x4 u4 λb p=>p;have I4:Inv X Ab σ H2 {s3 with heap:=h4}:=I1.call' (s':={s3 with heap:=h4}) (o.os.trans I1.os.symm) y4.un y4.hok o.bare λb p=>absurd p (by simp)
    have I5:=I4.caught ⟨s1,I1,rfl⟩ y4;exact B69 (hh (.ref e) Ab _ σ _ D ((I5.held _).wish _) (g e y.ne)) (λfl s5 q5=>SP.back a0 q5) λ_ _ z=>z.elim
  |some n=>
   cases j with
   |none=>exact hj.elim
   |some j=>
    obtain⟨l,d⟩:=hj;refine codeAny_handlers_suite_as (qFT y.ex λh4 x4 u4=>?_);have y4:=y.step x4 u4 λb p=>p;have I4:Inv X Ab σ H2 {s3 with heap:=h4}:=I1.call' (s':={s3 with heap:=h4}) (o.os.trans I1.os.symm) y4.un y4.hok o.bare λb p=>absurd p (by simp)
    have I5:=I4.caught ⟨s1,I1,rfl⟩ y4;refine qFZ (v:=.ref e) I5 hN l (.inl d) rfl (λs6 I6=>?_) (.inr d);refine B69 (hh (.ref e) Ab _ _ _ _ ((I6.held _).wish _) (g e y.ne)) (λfl s5 q5=>?_) λ_ _ z=>z.elim;have q5:=SP.back a0 q5;cases fl with
    |next=>obtain⟨σ7,H7,I7,q7⟩:=q5;exact I7.goes hN l d λs8 I8=>⟨_,H7,I8,q7⟩
    |brk=>obtain⟨σ7,H7,I7,q7⟩:=q5;exact I7.goes hN l d λs8 I8=>⟨_,H7,I8,q7⟩
    |cont=>obtain⟨σ7,H7,I7,q7⟩:=q5;exact I7.goes hN l d λs8 I8=>⟨_,H7,I8,q7⟩
    |ret u=>obtain⟨v7,σ7,H7,I7,r7,q7⟩:=q5;exact I7.goes hN l d λs8 I8=>⟨v7,_,H7,I8,r7,q7⟩
noncomputable def bmV:List Value:=[.type "ValueError",.type "Exception",.type "BaseException",.type "object"]
noncomputable def xcIn (K:Ab1)(C:Addr)(init:Option Value):Bool:=match K.lookup C with
 | some ⟨.type "type",_,.cls cd,sl⟩=>(match cd.mro,sl.toList with
  |.ref C'::bm,[_,_,_,_,some (.builtin n),_]=>C'==C&&n == "ValueError.__new__" && !cd.hasDel&&cd.hasDict&&PySem.W.tailIn K bmV bm&&PySem.W.nsOkIn K cd.ns&&W5 K cd.ns "__init__" == some init
  |_,_=>false)
 |_=>false
structure XCls (K:Ab1)(C:Addr)(init:Option Value):Prop where
 cls:xcIn K C init=true
 set:G3 K (.ref C) "__setattr__" = some (some (.builtin "object.__setattr__"))
 kp:J4 K (.ref C)=true
theorem qTC {K:Ab1} {h:Heap} {N:Addr} {mg:Ab0} {n:Str} {v:Value} (X:K.In h)(G:h.Ns N mg)(e:W5 K N n=some (some v)):mg n=some v:=by
 obtain⟨o,i,g,f,b,_,a⟩:=G;unfold W5 at e
 split at e
 ·rename_i c d es' n' sl q
  have:=X _ _ q;rw[f] at this;cases this;cases b
  split at e
  ·rename_i en he
   cases e;rw[<- a];unfold nsFind findBy;rw[<- Array.find?_toList,he]
   rfl
  ·split at e
   ·cases e
   ·cases e
 ·cases e
theorem qPZ {h:Heap} {b:List Value} (a:Value) (T:OwnTail h bmV b):refuseLoop a "__setattr__" b=pure ():=by
 induction T with
 |base=>exact A03.passes a
 |own _ _ _ _ ih=>rw[refuseLoop_ref];exact ih
theorem qY7 {K:Ab1} {h:Heap} {C:Addr} {a:Option Value} (X:K.In h)(q:xcIn K C a=true):∃(bm:List Value) (N:Addr) (nm qn:Str) (bs:List Value) (sn:List Str) (sub:List Value) (ab:Bool) (col:Option Bool) (dd:Option Addr) (k0 k1 k2 k3 k5:Option Value) (mN:Ab0),
  h.get? C=some (excClassObj nm qn C N bs bm true sn sub ab col dd k0 k1 k2 k3 k5 "ValueError.__new__")/\h.Ns N mN/\mN "__init__" = a/\OwnTail h bmV bm:=by
 unfold xcIn at q
 split at q
 ·rename_i dd cd sl ho
  split at q
  ·rename_i C' bm k0 k1 k2 k3 n k5 hm hs
   simp only[L4,beq_iff_eq,Bool.not_eq_true'] at q;obtain⟨⟨⟨⟨⟨⟨rfl,rfl⟩,c⟩,e⟩,j⟩,b⟩,d⟩:=q;obtain⟨nm,bs,g,k,qn,m,sn,sub,ab,col,i⟩:=cd;dsimp only at hm c b d e;subst hm c e;have f:sl=#[k0,k1,k2,k3,some (.builtin "ValueError.__new__"),k5]:=by
    obtain⟨l⟩:=sl;simp only at hs;rw[hs]
   subst f;refine⟨bm,k,nm,qn,bs,sn,sub,ab,col,dd,k0,k1,k2,k3,k5,_,X _ _ ho,.of_isNs (A85 X b),?_,PySem.W.tail_of_in X j⟩;cases a with
   |none=>exact PySem.W.nsMap_none_of_in X b d
   |some v=>exact qTC X (.of_isNs (A85 X b)) d
  ·cases q
 ·cases q
section
variable{prog:B63}{w:World}{A:Around}{E:Aa1}{h:Heap}{g:Array C25}{d:Drawn}{t:Nat}{os:OsState}{K:Ab1}{C x:Addr}{init:Option Value}{mA:Ab0}{name:Str}{v:Value}{ns:List Str}
theorem qd8 {b:Bool} {tk:Tok} {Q:PySem.Fin->Shared->Prop} (X:K.In h)(q:xcIn K C init=true)(I:h.Inst x C mA)(hw:Within mA ns)(hsz:ns.length<=1000)
  (hq:∀ h' tk',h'.Inst x C (fun y=>if y=name then some v else mA y)->
   (∀b o,b≠x->(∀o₀ dx,h.get? x=some o₀->o₀.dict=some dx->b≠dx)->h.get? b=some o->h'.get? b=some o)->
   (∀o₀,h.get? x=some o₀->∃o₁,h'.get? x=some o₁/\o₁.cls=o₀.cls/\o₁.data=o₀.data/\o₁.slots=o₀.slots/\(∀dx,o₀.dict=some dx->o₁.dict=some dx)/\(o₀.dict=none->o₁.dict=some h.objs.size))->Q (.done (.ret .none)) ⟨h',g,d,tk',os⟩):
  wpAny (model prog w) A (c8 (.ref x) (.ref C) (.str name tk) name v b) Q E ⟨h,g,d,t,os⟩:=by
 obtain⟨bm,N,nm,qn,bs,sn,ac,ab,ad,dd,k0,k1,k2,k3,k5,mN,hC,hn,_,T⟩:=qY7 X q;obtain⟨o,i,hc,j,hd⟩:=I;unfold c8
 repeat (first|(with_reducible refine C05 i ?_;rw[hc])|wp_step)
 rcases hd with⟨s,a4⟩|⟨dx,f,n,a9⟩
 ·rw[s,if_neg (by simp[typeHasDict])]
  split
  ·rename_i hcd
   cases hcd
  split
  ·rename_i c hcd
   exact absurd hcd (j c)
  ·have u:(h.push {cls:=.type "dict",data:=.dict #[]}).get? x=some o:=A3 _ i;have m:x≠h.objs.size:=C4 (B4 i);refine B60 (wpAny_alloc' ?_);refine B60 (wpAny_update' u ?_);refine B61 ?_;have a1:((h.push {cls:=.type "dict",data:=.dict #[]}).update x λo=>{cls:=o.cls,dict:=some h.objs.size,data:=o.data,slots:=o.slots}).get? h.objs.size
     = some {cls:=.type "dict",data:=.dict #[]}:=
    (A74 _ _ _ _ m.symm).trans (Heap.get?_push_at rfl rfl)
   have a3:((h.push {cls:=.type "dict",data:=.dict #[]}).update x λo=>{cls:=o.cls,dict:=some h.objs.size,data:=o.data,slots:=o.slots}).Ns h.objs.size (λ_=>none):=
    ⟨_,#[],_,a1,rfl,λe he=>absurd he (by simp),λ_=>rfl⟩
   show wpAny _ _ (T3 h.objs.size (.str name tk) name v) _ _ _;unfold T3 j9;refine B60 (B61 (B60 (wpAny_nsSet1 (Heap.Ns1.of_empty a3) λh' a r=>?_)));obtain⟨oD,a5,a0,p,k,l⟩:=a.count (B58 name v Within.nil);refine B60 (wpAny_lookBehind p (by rw[k];exact pastItsLine_dict (F3 l (by rw[C6,J6,B64];lia))) ?_)
   wp_walk
   have z:h'.get? x=some {cls:=o.cls,dict:=some h.objs.size,data:=o.data,slots:=o.slots}:=?_;refine hq h' _ ⟨{cls:=o.cls,dict:=some h.objs.size,data:=o.data,slots:=o.slots},z,hc,j,.inr ⟨h.objs.size,rfl,m.symm,?_⟩⟩ (λb ob a7 _ hb=>?_)
    (λo₀ h₀=>by obtain rfl:o=o₀:=D1 (i.symm.trans h₀);exact⟨_,z,rfl,rfl,rfl,(λdx e=>by rw[s] at e;cases e),λ_=>rfl⟩)
   ·obtain⟨o',es,ep,e1,e2,e3,eu,e4⟩:=a;exact⟨o',es,ep,e1,e2,e3,eu,λy=>by rw[e4 y];by_cases hy:y=name<;>simp[hy,a4]⟩
   ·exact(r.2 b (C4 (B4 hb))).trans ((A74 _ _ _ _ a7).trans (A3 _ hb))
   ·refine(r.2 x m).trans (E7 _ u ?_);have a8:=(Heap.get?_some_iff.mp i).2;obtain⟨oc,od,a6,aa⟩:=o;cases a6<;>first|rfl|exact a8
 ·rw[f];refine B61 ?_;show wpAny _ _ (T3 dx (.str name tk) name v) _ _ _;unfold T3 j9;refine B60 (B61 (B60 (wpAny_nsSet1 a9 λh' a r=>?_)));obtain⟨oD,a5,a0,p,k,l⟩:=a.count (B58 name v hw);refine B60 (wpAny_lookBehind p (by rw[k];exact pastItsLine_dict (F3 l (by rw[C6,B64];lia))) ?_)
  wp_walk
  refine hq h' _ ⟨o,(r.2 x n.symm).trans i,hc,j,.inr ⟨dx,f,n,a⟩⟩ (λb ob _ a2 hb=>?_)
   (fun o₀ h₀=>by
    obtain rfl:o=o₀:=D1 (i.symm.trans h₀);exact⟨o,(r.2 x n.symm).trans h₀,rfl,rfl,rfl,(λ_ e=>e),λe=>by rw[f] at e;cases e⟩)
  exact(r.2 b (a2 o dx i f)).trans hb
theorem xset {Q:Unit->Shared->Prop} (X:K.In h)(c:XCls K C init)(j:G3 K (.ref C) name=some none)(I:h.Inst x C mA)(hw:Within mA ns)(hsz:ns.length<=1000)
  (hq:∀ h' tk',h'.Inst x C (fun y=>if y=name then some v else mA y)->
   (∀b o,b≠x->(∀o₀ dx,h.get? x=some o₀->o₀.dict=some dx->b≠dx)->h.get? b=some o->h'.get? b=some o)->
   (∀o₀,h.get? x=some o₀->∃o₁,h'.get? x=some o₁/\o₁.cls=o₀.cls/\o₁.data=o₀.data/\o₁.slots=o₀.slots/\(∀dx,o₀.dict=some dx->o₁.dict=some dx)/\(o₀.dict=none->o₁.dict=some h.objs.size))->Q () ⟨h',g,d,tk',os⟩):
  wpAny (model prog w) A (setAttr (.ref x) name v) Q E ⟨h,g,d,t,os⟩:=by
 obtain⟨l,N,nm,qn,bs,sn,a0,ab,a1,dd,k0,k1,k2,k3,k5,mN,m,hn,_,T⟩:=qY7 X c.cls;obtain⟨o,hx,n,r,hd⟩:=id I;have a:=A03;have i:PySem.W.Looks (model prog w) h (typeOf (.ref x)) (.ref C):=by
  rw[<- n];exact(B13 hx).andThen .now
 have p:PySem.W.Looks (model prog w) h (mroOf (.ref C)) (.ref C::l):=λA Q E s k q=>by
  obtain⟨u,g,d,z,os⟩:=s;exact wpAny_mroOf_exc (k _ _ m) q
 have f:PySem.W.Looks (model prog w) h (isInstance (.ref x) (.type "object")) true:=i.andThen λA Q E s k q=>by
  obtain⟨u,g,d,z,os⟩:=s;refine wpAny_isSubtype_exc (k _ _ m) ?_;have:(D4 C::l).contains (.type "object")=true:=by rw[A86,T.hasType (X:="object") (b:=true) (by decide +kernel),B04]
  rw[this];exact q
 refine B60 (wpAny_mkText (B60 (B60 (B60 (i _ _ _ _ (λ_ _ e=>e) (A53 X c.set _ _ _ _ (λ_ _ e=>e) (B65 ?_)))))));rw[PySem.F.store_object.slot.bind];refine B60 (B61 (B60 (C06 ?_)));refine C20 a.slot.plain a.entry (@PySem.W.check_slot (model prog w) _ _ _ "object.__setattr__" "object" "__setattr__" (.ref x) [.str name t,v] [] _ a.kind a.split f (a.args (.ref x) (.str name t) v) ?_);show wpAny (model prog w) A.in1 (Builtin.«object.__setattr__» ⟨[.ref x,.str name t,v],[]⟩) _ _ ⟨h,g,d,t+1,os⟩;rw[PySem.W.osa_eq,refuse_eq];refine B60 (B60 (i.here (B60 (p.here ?_))));rw[refuseLoop_ref,qPZ _ T];refine B61 (B60 (i.here (B60 ((A53 X j).here (B60 (B61 ?_))))));refine qd8 X c.cls I hw hsz λh' tk' i1 i2 i3=>?_;exact B61 (B61 (hq h' tk' i1 i2 i3))
end
noncomputable abbrev excObj (C t:Addr)(dd:Option Addr):Obj:={cls:=.ref C,dict:=dd,data:=.fields #[.ref t,.none,.none,.none,.bool false,.none]}
noncomputable abbrev argObj (rest:List Value):Obj:={cls:=.type "tuple",data:=.seq rest.toArray}
section
variable{prog:B63}{w:World}{A:Around}{R:Result->Shared->Prop}{h:Heap}{g:Array C25}{d:Drawn}{t:Nat}{os:OsState}{K:Ab1}{C fI:Addr}{rest:List Value}
theorem qf2 (X:K.In h) (q:xcIn K C (some (.ref fI))=true) (hf:PySem.W.typeIn K (.ref fI)=some (.type "function")) (c:rest.length<=B62)
  (hq:B86 (model prog w) (A.under (.builtin "type.__call__" ⟨.ref C::rest,[]⟩)) (.call (.ref fI) ⟨.ref (h.objs.size+1)::rest,[]⟩) (PySem.W.InitBack (h.objs.size+1) R) ⟨(h.push (argObj rest)).push (excObj C h.objs.size none),g,d,t,os⟩):
  B86 (model prog w) A (.call (.ref C) ⟨rest,[]⟩) R ⟨h,g,d,t,os⟩:=by
 obtain⟨s,N,nm,qn,bs,sn,x,ab,a0,dd,k0,k1,k2,k3,k5,n,a,p,m,T⟩:=qY7 X q;have F:=PySem.F.excBase_ValueError;have f1:=tc_lookup;have f2:=tc_bind (.ref C);have hT:(⟨h,g,d,t,os⟩:Shared).TypeIs (.ref C) "type":=⟨_,a,rfl⟩;refine C24 ?_;show wpAny _ _ (callAny (.ref C) _) _ _ _
 repeat (any_goals (first|assumption|with_reducible refine C05 a ?_|wp_step))
 refine⟨rfl,?_⟩;show B86 (model prog w) A (.call (.builtin "type.__call__") ⟨.ref C::rest,[]⟩) R ⟨h,g,d,t,os⟩;refine codeAny_call_builtin_at (c7 _ (by decide +kernel)) entry_typeCall (wpAny_check_type_call_sub a ?_)
 repeat (first|with_reducible refine C05 a ?_|with_reducible refine wpAny_madeBy_exc a ?_|wp_step)
 refine codeAny_call_builtin_code (c7 _ F.quiet) (wpAny_check_new_subT F T a ?_);refine codeAny_exc_new_subT F T a ?_ c;show wpAny _ _ _ _ _ _;have j:∀b o,h.get? b=some o->((h.push (argObj rest)).push (excObj C h.objs.size none)).get? b=some o:=λb o e=>A3 _ (A3 _ e);have i:=j _ _ a;have k:((h.push (argObj rest)).push (excObj C h.objs.size none)).Ns N n:=let⟨o,es,ep,e,r⟩:=p;⟨o,es,ep,j _ _ e,r⟩
 have f:((h.push (argObj rest)).push (excObj C h.objs.size none)).get? (h.objs.size+1)=some {cls:=.ref C,data:=.fields #[.ref h.objs.size,.none,.none,.none,.bool false,.none]}:=by heap_get
 have l:(D4 C::s).contains (.ref C)=true:=by simp
 have u:=T.keeps j;unfold isInstance
 repeat (first|with_reducible refine C05 f ?_|(with_reducible refine wpAny_isSubtype_exc i ?_;rw[l])|wp_step)
 show wpAny _ _ (typeLookup (.ref C) _) _ _ _;refine wpAny_typeLookup_tail i k u F.mroIs F.init.lookup ?_;rw[m];have y:=(PySem.W.bind_fn (M:=model prog w) X (.ref (h.objs.size+1)) hf).keeps j;refine B65 (B60 (y.here (B60 (C06 (B81 hq λr s' z=>?_)))));rcases r with e|(v|_|_|_)<;>first|exact z|exact z.elim|skip;obtain⟨rfl,z⟩:=z;exact B61 (B61 z)
end
section
variable{M:Model}{A:Around}{E:Aa1}{env:Env}{K:Ab1}{C:Addr}{init:Option Value}
theorem qd9 {x:Sem Value} {Q:Flow->Shared->Prop} (u:A.handled=none)(c:xcIn K C init=true)
  (h:wpAny M A x (λv s₁=>∃e t dd,v=.ref e/\K.In s₁.heap/\s₁.heap.get? e=some (excObj C t dd)/\E (.ref e) s₁) E s):
  wpAny M A (raiseStmt env (some x) none) Q E s:=by
 unfold raiseStmt;refine B60 (B69 h (λv s₁ o=>?_) λ_ _ x=>x);obtain⟨e,t,l,rfl,X,q,r⟩:=o;obtain⟨k,N,nm,y,bs,sn,m,ab,p,dd,k0,k1,k2,k3,z,w,i,hn,n,T⟩:=qY7 X c;have f:(D4 C::k).contains (.type "BaseException")=true:=by rw[A86,T.hasType (X:="BaseException") (b:=true) (by decide +kernel),B04]
 obtain⟨j,g,d,tk,os⟩:=s₁;have a:j.get? e=some {cls:=.ref C,dict:=l,data:=.fields #[.ref t,.none,.none,.none,.bool false,.none]}:=q
 repeat (first|with_reducible refine C05 a ?_|with_reducible refine C05 i ?_|(with_reducible refine wpAny_isSubtype_exc i ?_;rw[f])|wp_step)
 exact wpAny_raiseNew_none u r
end
def ExcN (x C:Addr)(dd:Option Addr):HO:=.ext λh=>∃t,h.get? x=some (excObj C t dd)
theorem qX4 {H:Hp} {h:Heap} {x C t:Addr} {b:Option Addr} (e:h.get? x=some (excObj C t b)):ObjOk P w H h x (ExcN x C b):=⟨⟨t,e⟩,⟨_,e⟩,λ_ _ ⟨t,a⟩ k=>⟨t,k _ a⟩⟩
def XDic (dx:Addr)(fs:List (Str×V)):HO:=.ext λh=>∃mA,h.Ns1 dx mA/\(∀f,RelO (fs.lookup f) (mA f))/\PySem.Within mA (fs.map (·.1))
theorem qUG {H:Hp} {h:Heap} {d:Addr} {c:List (Str×V)} {mA:Ab0} (e:h.Ns1 d mA)(r:∀f,RelO (c.lookup f) (mA f))(g:PySem.Within mA (c.map (·.1))):ObjOk P w H h d (XDic d c):=by
 obtain⟨o,_,_,i,_⟩:=id e;refine⟨⟨mA,e,r,g⟩,⟨o,i⟩,?_⟩;rintro h1 h2 ⟨mB,⟨o1,es,ep,a,b⟩,r1,w1⟩ k;exact⟨mB,⟨o1,es,ep,k _ a,b⟩,r1,w1⟩
section
variable{X:Cx}{Ab:Aa2}{σ:St}{H:Hp}{s:Shared}
theorem Inv.untrack {e:Addr} {φ:Heap->Prop} (I:Inv X Ab σ (Ag H e (.ext φ)) s)(j:H e=none):Inv X Ab σ H s:=by
 have g:∀b,(Ag H e (.ext φ)) b=none->H b=none:=λb q=>by
  by_cases f:b=e
  ·rw[f];exact j
  ·rw[qA7 f] at q;exact q
 have d:∀b u,(Ag H e (.ext φ)) b=some u->(∀ψ,u≠.ext ψ)->H b=some u:=λb u q n=>by
  by_cases f:b=e
  ·rw[f,qA1] at q;cases q;exact absurd rfl (n φ)
  ·rw[qA7 f] at q;exact q
 refine⟨I.ok,I.os,I.bare,⟨I.base.keep,I.base.slot,λb h q n o=>g _ (I.base.free b h q n o),I.base.there,λb i q=>d _ _ (I.base.tups b i q) (λ_ z=>nomatch z),λb h u q=>d _ _ (I.base.frzs b h u q) (λ_ z=>nomatch z),λb l q=>?_⟩,I.loc,I.cell,g _ I.free,λx c q=>g _ (I.freeC x c q),λp k=>?_,λb u q=>?_,I.len⟩
 ·exact d _ _ (I.base.tbls b l q) (λ_ z=>nomatch z)
 ·obtain⟨a,b,c⟩:=I.pin p k;exact⟨a,g _ b,c⟩
 ·have m:(Ag H e (.ext φ)) b=some u:=by rw[qA7 (qA5 q j)];exact q
  exact(I.hok b u m).stay (λ_ _ _ z=>z) (λc z=>d _ _ z (λ_ z=>nomatch z)) (λc i z=>d _ _ z (λ_ z=>nomatch z)) λc t z=>d _ _ z (λ_ z=>nomatch z)
theorem Inv.flies {e C t:Addr} {f:Option Addr} {G:XK} (I:Inv X Ab σ H s)(h:X.ex=[])(u:s.heap.get? e=some (excObj C t f))(l:H e=none)(c:X.s₀.heap.objs.size<=e)(p:e∉frs X.stack)(g:G (.ref C) f H):XP X G (.ref e) s:=by
 have m:∀b,Kp X.outer H X.s₀.heap b->b∉e::frs X.stack:=λb k r=>by
  rcases B1.mp r with z|z
  ·rcases k with⟨o,q⟩|⟨⟨o,q⟩,_⟩
   ·rw[z,l] at q;cases q
   ·rw[z] at q;exact absurd (B4 q) (B40.mpr c)
  ·rcases k with⟨o,q⟩|⟨⟨o,q⟩,n⟩
   ·rw[I.stkFree b z] at q;cases q
   ·rcases B1.mp (I.stkSub b z) with z2|z2
    ·rw[z2] at q;exact absurd (B4 q) (B40.mpr I.ok.above)
    ·exact n z2
 have j:=I.base;rw[h] at j;refine⟨I.ok.frames,e,.ref C,f,H,B18 s.heap (e::frs X.stack),false,rfl,I.os,I.bare,⟨j,I.hok,⟨λb o q=>A79 _ q,A48 _ (by simp),?_,_,_,.none,u,rfl,rfl,rfl,rfl,.inl ⟨rfl,rfl⟩⟩,λb o q k=>A65 _ q (m b k),l,c⟩,g⟩
 exact PySem.W.funFrames_hide I.stack λi d a v=>A8 _ (G8.mpr ⟨i,d,v⟩)
end
def qbD (C:Addr)(sp:Sp)(G:XK)(t:TA):TS:=λ_ σ H=>t σ H λvs H1=>∀x,H1 x=none->sp (.ref x::vs) (Ag H1 x (ExcN x C none)) (λv H2=>v=.non/\∃dd H3,H2=Ag H3 x (ExcN x C dd)/\H3 x=none/\G (.ref C) dd H3) E0
theorem qO9 {G:XK} {k:Nat} {C f:Addr} {fd:B77} {ps:List Str} {sp:Sp} {i:Str} {pn p pos:Pos} {a:Expr} {g:List Expr} {t:TA} (a0:X.ex=[])(hc:X.calm=true)(c:XCls X.K C (some (.ref f)))(hf:j7 X.K (.ref f)=true)
  (F:FnOk X.prog X.w X.K X.mg X.base CX0 k f fd ps sp) (hr:Room (k+1) X.A) (hg:Gl X i) (hm:X.mg i=some (.ref C)) (hb:Binds X.K fd ps []) (ha:PA X.nox (a::g) t) (a2:ps.length<=100)
  (y:(i==("__debug__" : Str))=false:=by decide) (he:B66 (a::g) X.env=(false,eval a X.env)::B66 g X.env:=by rfl) (a1:(backTo p (B66 g X.env)).any (·.1)=false:=by rfl):
  PS (X.wish (XP X G)) (.Raise (some (.Call (.Name i pn) (a::g) [] p)) none pos) (qbD C sp G t):=by
 intro Ab s σ H D I h;have I:=I.unwish;show wpAny (model X.prog X.w) X.A (exec (.Raise (some (.Call (.Name i pn) (a::g) [] p)) none pos) X.env) _ (XP X G) s;rw[arm_exec_Raise];refine B60 (C03 ?_);refine qd9 (K:=X.K) (I.ok.hd hc) c.cls ?_;refine B60 (B69 ?_ (λv s₁ hv=>B60 (C03 (B61 hv))) λ_ _ z=>z);refine B87 (qMY I hg hm ?_ y);refine t7 (h₀:=X.base) I.ok.mod.kin c.kp (B69 (ha p Ab s σ H _ (I.wish _) h) (λus s1 ⟨vs,H1,I1,r,q⟩=>⟨I1.unwish.kIn,?_⟩) λ_ _ z=>z.elim) he a1;have I1:=I1.unwish;have hq:=q (s1.heap.objs.size+1) (I1.hok.fresh (T5 _));have j:((s1.heap.push (argObj us)).push (excObj C s1.heap.objs.size none)).get? (s1.heap.objs.size+1)=some (excObj C s1.heap.objs.size none):=by heap_get
 have I2:Inv X Ab σ (Ag H1 (s1.heap.objs.size+1) (ExcN (s1.heap.objs.size+1) C none)) {s1 with heap:=(s1.heap.push (argObj us)).push (excObj C s1.heap.objs.size none)}:=
  I1.laid (t':=s1.toks) (λb o e=>A3 _ (A3 _ e)) (T5 _) (qX4 j)
 have r2:Vals (V.ref (s1.heap.objs.size+1)::vs) (D4 (s1.heap.objs.size+1)::us):=.cons rfl r;have hl:=F.len _ _ _ _ hq;have l:(D4 (s1.heap.objs.size+1)::us).length=ps.length:=by rw[<- r2.length];exact hl
 have x:BindsTo {s1 with heap:=(s1.heap.push (argObj us)).push (excObj C s1.heap.objs.size none)} fd ⟨D4 (s1.heap.objs.size+1)::us,[]⟩ (ps.zip (D4 (s1.heap.objs.size+1)::us)):=by
  have:=hb {s1 with heap:=(s1.heap.push (argObj us)).push (excObj C s1.heap.objs.size none)} (D4 (s1.heap.objs.size+1)::us) I2.kIn (by rw[M4];exact l)
  rw[M4] at this;exact this
 refine C06 (qf2 (fI:=f) I1.kIn c.cls (beq_iff_eq.mp hf) ?_ (B81 (F.run _ X.stack _ _ ⟨D4 (s1.heap.objs.size+1)::us,[]⟩ (D4 (s1.heap.objs.size+1)::us) _ _ E0 (hr.make C us []) (I2.env0.make C us []) x r2 hq) λr s' d=>?_))
 ·rw[B64,n9];rw[C6] at l
  lia
 cases r with
 |error e=>exact P9 d
 |ok fl=>
  cases fl with
  |ret u=>
   obtain⟨v,H',n,rv,ev,dd,H3,e3,n3,g3⟩:=I2.after d;subst ev;subst e3;obtain⟨⟨t3,m⟩,_⟩:=n.hok _ _ qA1;refine⟨rv,s1.heap.objs.size+1,t3,dd,rfl,n.kIn,m,?_⟩;refine(n.untrack n3).flies a0 m n3 (F3 I1.sz (T5 _)) (λz=>?_) g3;have:=n.stkFree _ z;rw[qA1] at this;cases this
  |next=>exact P9 d
  |brk=>exact P9 d
  |cont=>exact P9 d
def qfJ (K:Ab1)(ta tv:TE)(f:Str)(C:Addr):TS:=λD σ H=>tv σ H λy H1=>ta σ H1 λx H2=>∃a dd,x=.ref a/\H2 a=some (ExcN a C dd)/\G3 K (.ref C) f=some none/\
 ((dd=none/\∀dx,H2 dx=none->dx≠a->D.nx σ (Ag (Ag H2 dx (XDic dx [(f,y)])) a (ExcN a C (some dx))))\/∃dx fs,dd=some dx/\dx≠a/\H2 dx=some (XDic dx fs)/\fs.length<1000/\D.nx σ (Ag H2 dx (XDic dx (putF f y fs))))
theorem qV6 {C:Addr} {a2:Option Value} {o j:Expr} {f:Str} {pos w:Pos} {ta tv:TE} (c:XCls X.K C a2)(ha:PE X o ta)(hv:PE X j tv)(hs:swapsWith j (some (.Attribute o f w)) pos.line X.env=pure false:=by rfl):PS X (.Assign [.Attribute o f w] j pos) (qfJ X.K ta tv f C):=by
 intro Ab s σ H D I h;refine plainObj_wpAny_Assign_Attribute (thn (hv Ab s σ H _ I h) λu s1 ⟨y,H1,I1,ry,q⟩=>thn (ha Ab s1 σ H1 _ I1 q) λov s2 ⟨x,H2,I2,rx,a,dd,ex,ea,hna,q2⟩=>?_) hs;subst ex;obtain rfl:ov=D4 a:=rx;obtain⟨⟨t,ht⟩,_⟩:=I2.hok _ _ ea;obtain⟨i,g2,d2,t2,a4⟩:=s2;rcases q2 with⟨rfl,q2⟩|⟨dx,fs,rfl,a3,ed,hl,q2⟩
 ·refine xset (mA:=λ_=>none) (ns:=[]) I2.kIn c hna ⟨_,ht,rfl,(λ_ z=>nomatch z),.inl ⟨rfl,λ_=>rfl⟩⟩ Within.nil (by simp) λh' n i1 i2 i3=>?_
  obtain⟨o1,e1,e2,e3,e4,_,k⟩:=i3 _ ht;have k:=k rfl;obtain⟨o2,f1,f2,_,f4⟩:=i1;rw[e1] at f1;cases f1;have sz:a<i.objs.size:=B4 ht;have nd:i.objs.size≠a:=O3 sz;have r:h'.get? a=some (excObj C t (some i.objs.size)):=by
   rw[e1];obtain⟨c1,c2,c3,c4⟩:=o1;simp only at e2 e3 e4 k;rw[e2,e3,e4,k]
  have v:h'.Ns1 i.objs.size (λy=>if y=f then some u else none):=by
   rcases f4 with⟨z,_⟩|⟨d,z,_,hn⟩
   ·rw[k] at z;cases z
   ·rw[k] at z;cases z;exact hn
  have fr:H2 i.objs.size=none:=I2.hok.fresh (A7 _);have kp:∀b ob,b≠a->i.get? b=some ob->h'.get? b=some ob:=λb ob hb q=>i2 b ob hb (λo₀ dx z1 z2=>by rw[ht] at z1;cases z1;cases z2) q
  refine⟨σ,_,?_,q2 i.objs.size fr nd⟩;have I3:Inv X Ab σ (Ag H2 a (ExcN a C (some i.objs.size))) ⟨h',g2,d2,n,a4⟩:=
   I2.write (h':=h') (t':=n) (x:=a) (e:=a) (o:=ExcN a C (some i.objs.size)) (by rw[ea];exact trivial) (.inl rfl) (λb ob hb q=>kp b ob hb q) ⟨_,r⟩ (qX4 r)
  have na:(Ag H2 a (ExcN a C (some i.objs.size))) i.objs.size=none:=by rw[qA7 nd];exact fr
  have lt:∀ b ob,i.get? b=some ob->b ≠ i.objs.size:=fun b ob q=>C4 (B4 q);have I4:=I3.track (T:=i.objs.size) (o:=XDic i.objs.size [(f,y)]) na (F3 I2.sz (A7 _)) (fun z=>by
    obtain⟨m,⟨oL,_,_,hL,_⟩,_⟩:=I2.loc;exact lt _ _ hL z.symm) (λy' c' q z=>by
    obtain⟨v',oc,q3,_⟩:=I2.cell y' c' q;exact lt _ _ q3 z) (λp hp z=>lt _ _ (I2.pin p hp).1 z) (qUG v (λg=>?_) (λg hg=>?_))
  ·have ec:Ag (Ag H2 a (ExcN a C (some i.objs.size))) i.objs.size (XDic i.objs.size [(f,y)])=Ag (Ag H2 i.objs.size (XDic i.objs.size [(f,y)])) a (ExcN a C (some i.objs.size)):=by
    funext b
    unfold Ag;by_cases a0:b=i.objs.size
    ·subst a0;simp[nd]
    ·by_cases l:b=a
     ·simp[a0,l,nd.symm]
     ·simp[a0,l]
   rw[<- ec];exact I4
  ·rw[X2];by_cases q:g=f
   ·subst q;simp;exact ry
   ·rw[if_neg q,show(g==f)=false from beq_eq_false_iff_ne.mpr q];trivial
  ·by_cases q:g=f
   ·subst q;simp
   ·exact absurd (if_neg q) hg
 ·obtain⟨⟨mA,hm,hr,a1⟩,_⟩:=I2.hok _ _ ed;refine xset (mA:=mA) (ns:=fs.map (·.1)) I2.kIn c hna ⟨_,ht,rfl,(λ_ z=>nomatch z),.inr ⟨dx,rfl,a3,hm⟩⟩ a1 (by rw[A0];lia) λh' n i1 i2 i3=>?_
  obtain⟨o1,e1,e2,e3,e4,k,_⟩:=i3 _ ht;have k:=k dx rfl;obtain⟨o2,f1,f2,_,f4⟩:=i1;rw[e1] at f1;cases f1;have r:h'.get? a=some (excObj C t (some dx)):=by
   rw[e1];obtain⟨c1,c2,c3,c4⟩:=o1;simp only at e2 e3 e4 k;rw[e2,e3,e4,k]
  have v:h'.Ns1 dx (λy=>if y=f then some u else mA y):=by
   rcases f4 with⟨z,_⟩|⟨d,z,_,hn⟩
   ·rw[k] at z;cases z
   ·rw[k] at z;cases z;exact hn
  refine⟨σ,_,?_,q2⟩;refine I2.write (h':=h') (t':=n) (x:=dx) (e:=dx) (o:=XDic dx (putF f y fs)) (by rw[ed];exact trivial) (.inl rfl) (λb ob hb q=>?_) ?_ (qUG v (λg=>?_) λg hg=>?_)
  ·by_cases l:b=a
   ·rw[l] at q ⊢;rw[ht] at q;cases q;exact r
   ·exact i2 b ob l (λo₀ a5 z1 z2=>by rw[ht] at z1;cases z1;cases z2;exact hb) q
  ·obtain⟨o,_,_,ho,_⟩:=v;exact⟨o,ho⟩
  ·show RelO ((putF f y fs).lookup g) (if g=f then some u else mA g)
   rw[qJU];by_cases q:g=f
   ·rw[if_pos q,if_pos q];exact ry
   ·rw[if_neg q,if_neg q];exact hr g
  ·by_cases q:g=f
   ·rw[q];exact(qJY f y fs).1
   ·refine(qJY f y fs).2 g (a1 g λz=>hg ?_);show(if g=f then some u else mA g)=none
    rw[if_neg q];exact z
structure XGet (K:Ab1)(C:Addr):Prop where
 ga:G3 K (.ref C) "__getattribute__" = some (some (.builtin "BaseException.__getattribute__"))
 gt:G3 K (.ref C) "__getattr__" = some none
 be:A80 K C (.type "BaseException")=some true
 hd:A92 K C=true
structure XTy (K:Ab1)(C:Addr):Prop extends XGet K C where
 ca:G3 K (.ref C) "__class__" = some (some (.builtin "object.__class__"))
 cn:z9 K (.builtin "object.__class__") "__get__" = some (some (.builtin "getset_descriptor.__get__"))
 ct:B20 K (.builtin "object.__class__")=some true
 cm:A80 K C (.type "object")=some true
structure RoomH (k:Nat)(A:Around):Prop where
 dp:A.depth+3*k+5<recursionLimit
 un:A.units+16*k+200<cLine
structure FnOkH (P:B63)(w:World)(K:Ab1)(mg:Ab0)(base:Heap)(CX:CXT)(k:Nat)(f:Addr)(fd:B77)(ps:List Str)(sp:Sp):Prop where
 len:∀vs H Q E,sp vs H Q E->vs.length=ps.length
 run:∀(A:Around) (outer:List Env) (s:Shared) (H:Hp) (args:Args) (us:List Value) (vs:List V) (Q:VK) (E:XK),RoomH k A->Env0 P w K mg base A outer s H->BindsTo s fd args (ps.zip us)->Vals vs us->sp vs H Q E->
  B86 (model P w) A (.call (.ref f) args) (CR CX outer P w H s Q E) s
structure LcScopeO (X:Cx)(scope:Scope)(own:List Str)(fv:List Nat):Prop where
 kind:scope.kind=.function
 names:∀y∈scope.names,y.2=.local->scope.names.lookup y.1=some .local
 cells:∀y∈scope.names,y.2=.cell->scope.names.lookup y.1=some .cell
 frees:∀y∈scope.names,y.2=.free->scope.names.lookup y.1=some .free
 free:∀y∈scope.names,y.2=.free->X.env.kindOf y.1=some .cell\/X.env.kindOf y.1=some .free
 nd:(own++fv.map λi=>X.N.getD i T6).Nodup
 fvs:∀i∈fv,i<X.N.length/\scope.names.lookup (X.N.getD i T6)=some .free
 owns:∀x∈own,scope.names.lookup x=some .local\/scope.names.lookup x=some .cell
theorem qQ8:OpR X (B99 .Add) (λx y H Q=>∃a b xs ys,x=.ref a/\y=.ref b/\H a=some (.tup xs)/\H b=some (.tup ys)/\xs.length+ys.length<=B62/\∀p H',Same H H'->H' p=some (.tup (xs++ys))->Q (.ref p) H'):=by
 intro Ab s σ H x y v u Q I w r h;obtain⟨a,b,xs,ys,rfl,rfl,k,j,hz,q⟩:=h;by_cases hx:xs=[]
 ·subst hx;cases w;cases r;obtain⟨a1,r1,p1,_⟩:=I.tuple (Ac0 k);obtain⟨g,r2,p2,_⟩:=I.tuple (Ac0 j);cases r1;obtain⟨⟨a2,dd,a0,sl⟩,z,t,n,hd⟩:=id p1;obtain⟨⟨o,i,m,l⟩,c,f,n2,d⟩:=id p2;simp only at t hd f d;subst t hd f d;exact concat_meets ⟨_,z,rfl⟩ ⟨_,c,rfl⟩ C39 seq_tuple_add X6 W7 (W0 _ _) (tuple_addW0 a b #[] g.toArray n n2 dd i sl l rfl) ⟨z,c,.ref b,H,I,rfl,q b H (λ_ _ e=>e) j⟩
 ·exact qVO Ab s σ H (.ref a) (.ref b) v u Q I w r ⟨a,b,xs,ys,rfl,rfl,Ac0 k,Ac0 j,.inl ⟨hx,k⟩,hz,q⟩
def BareT (H:Hp) (a:Addr) (xs:List V):Prop:=∃o:Obj,H a=some (.frz o (.tup xs))/\o.cls=.type "tuple"/\o.dict=none
theorem BareT.sq {K:Ab1} {H:Hp} {a:Addr} {xs:List V} (h:BareT H a xs):SqT K H a xs:=by
 obtain⟨o,h,_⟩:=h;exact .inl (.inr ⟨o,h⟩)
theorem BareT.same {H H':Hp} {a:Addr} {xs:List V} (h:BareT H a xs)(s:∀b o,H b=some o->H' b=some o):BareT H' a xs:=by
 obtain⟨o,c,d⟩:=h;exact⟨o,s _ _ c,d⟩
theorem qKL:qD9 X (.type "tuple") (λxs H Q=>∃p ys,xs=[.ref p]/\SqL X.K H p ys/\∀l o,H l=none->o.cls=.type "tuple"->o.dict=none->Q (.ref l) (Ag H l (.frz o (.tup ys)))):=by
 intro d s σ H xs x Q I r h;obtain⟨p,ys,rfl,m,q⟩:=h;obtain⟨u,rfl,v⟩:=qDR r;cases v;obtain⟨a,f,t,n⟩:=I.list m;have i:=f.length;refine call_tuple_list t.isList (λc j=>?_) (by simp only[B5]<;>lia)
 have g:Inv X d σ H {s with heap:=c}:=I.kept (t':=s.toks) j;have k:Inv X d σ (Ag H c.objs.size (.frz {cls:=.type "tuple",data:=.seq a.toArray} (.tup ys))) {s with heap:=c.push {cls:=.type "tuple",data:=.seq a.toArray}}:=
  g.laid (t':=s.toks) (λb o e=>A3 _ e) (A7 _) ⟨B3 _ rfl,show ObjOk X.prog X.w _ _ _ (.tup ys) from⟨n,a,f,IsTup.new _ _⟩⟩
 exact⟨.ref c.objs.size,_,k,rfl,q _ _ (g.hok.fresh (A7 _)) rfl rfl⟩
end L2
namespace HT
open PySem PySem.Spec PyProof.Rows
section
variable{prog:B63}{w:World}{A:Around}{E:Aa1}{s:Shared}
theorem getItem_tuple_whole {t f:Addr} {a:Array Value} {k j:Value} {lo hi:Option Int} {Q:Aa1} (b:IsTup s.heap t a)(i:s.heap.IsSliceOf f k j .none)(p:IsPart k lo)(o:IsPart j hi)
  (l:sIx a.size 0 lo=0/\sIx a.size a.size hi=a.size) (h:Q (.ref t) s):wpAny (model prog w) A (C22 (.ref t) (.ref f)) Q E s:=by
 obtain⟨n,d,g,m⟩:=id i;have e:s.TypeIs (.ref f) "slice":=⟨n,d,g⟩;unfold C22
 try with_reducible refine B65 ?_
 first|refine B60 (B61 ?_)|skip
 refine B60 (wpAny_sequenceKey b.typeIs (by decide) ?_)
 refine B60 (wpAny_callSpecial?_slot (name:=B6 "__getitem__") b.typeIs J9
  (B78 J9 b.typeIs entry_tuple_getitem ?_ (args_tuple_getitem _ _)))
 show wpAny _ _ (Y4 (.ref t) >>= _) _ _ s;refine B60 (tupleItemsOf_ b ?_);refine B60 (C14 e ?_);rw[if_pos (by decide)]
 refine B60 (qF5 i p o ?_);have c:(((sIx a.size 0 lo:Nat):Int)==0&&(1:Int)==1&&(sIx a.size a.size hi-sIx a.size 0 lo)==a.size)=true:=by
  rw[l.1,l.2];simp
 show wpAny _ _ (if(((sIx a.size 0 lo:Nat):Int)==0&&(1:Int)==1&&(sIx a.size a.size hi-sIx a.size 0 lo)==a.size)=true then _ else _) _ _ s
 rw[if_pos c];unfold Builtin.Tuple.tupleIsExact;refine B60 (B60 (C14 b.typeIs (B61 ?_)));rw[if_pos (by decide)]
 exact B60 (C01 (B61 ⟨_,rfl,B61 h⟩))
end
end HT
namespace L2
open PySem PySem.Spec PyProof.Rows
section
variable{prog:B63}{w:World}{A:Around}{E:Aa1}{s:Shared}
theorem qZM:∀{vs us:List Value} {ns ms:List Int},B68 vs ns->B68 us ms->B68 (vs++us) (ns++ms):=by
 intro vs us ns ms h k
 induction h with
 |nil=>exact k
 |cons n t _ ih=>exact .cons n t ih
theorem qZK:∀{vs:List Value} {ns:List Int},B68 vs ns->B68 vs.reverse ns.reverse:=by
 intro vs ns h
 induction h with
 |nil=>exact .nil
 |cons n t _ ih=>rw[W1,W1];exact qZM ih (.cons n t .nil)
theorem qT4 {a:Addr} {vs:List Value} {ns:List Int} {n:Nat} {P:Fin->Shared->Prop} (p:s.heap.get? a=some (seqObj "list" vs.toArray n)) (f:B68 vs ns) (hs:vs.length<64) (z:vs.length<=B62)
  (h:∀(out:Array Value) (zs:List Int),B68 out.toList zs->zs.Perm ns->zs.Pairwise (· >= ·)->P (.done (.ret .none)) {s with heap:=sortedHeap s.heap a vs out}):wpAny (model prog w) A (Builtin.«list.sort» ⟨[.ref a],[(B6 "reverse",.bool true)]⟩) P E s:=by
 have la:=B4 p;have z0:vs.toArray.size<=B62:=by simpa using z
 unfold Builtin.«list.sort»;dsimp only;rw[if_neg (show¬([]:List Value).length+[(B6 "reverse",n4 true)].length>2 by decide)]
 rw[if_neg (show¬(!([]:List Value).isEmpty)=true by decide)]
 have k1:X8 (B6 "key") [(B6 "reverse",n4 true)]=none:=by kernel_rfl
 have k2:X8 (B6 "reverse") [(B6 "reverse",n4 true)]=some (.bool true):=by kernel_rfl
 have k3:((B6 "reverse" : Str) != B6 "key" && (B6 "reverse" : Str) != B6 "reverse")=false:=by kernel_rfl
 have k4:(J5 != J5)=false:=by kernel_rfl
 simp only[k1,k2,k3,A15,k4,E8,if_false,A32,B33,pure_bind];refine B60 (B79 ?_);simp only[if_true];refine B60 (listItems_at p rfl (B60 (B93 p rfl ?_ z0 (E2 _))));have l:∃k,(s.heap.update a (G5 λ_=>#[])).get? a=some (seqObj "list" #[] k):=⟨_,get?_update_seq p λ_=>#[]⟩;obtain⟨k,l⟩:=l;refine B60 (C11 l rfl (B60 (wpAny_newTuple ?_ (by simpa using z))))
 refine B60 (C09 (B65 ?_));have o:(((s.heap.update a (G5 λ_=>#[])).push (seqObj "tuple" vs.toArray 0)).push (seqObj "list" #[] 0)).get? a=some (seqObj "list" #[] k):=by
  rw[g9,g9]
  ·exact l
  ·rw[l6];exact C4 la
  ·rw[size_push',l6];exact C4 (G0 la)
 have d:∀xs:Array Keyed,xs.Perm (B90 vs)->SortedTo xs (B90 vs).size->P (.done (.ret .none)) {s with heap:=sortedHeap s.heap a vs (xs.map (·.2)).reverse}:=by
  intro xs r sx;obtain⟨zs,q1,q2,q3⟩:=sorted_out f r sx;refine h _ zs.reverse ?_ ((i9 _).trans q2) (k6.mpr q3);rw[A54];exact qZK q1
 have sz:∀xs:Array Keyed,xs.Perm (B90 vs)->(xs.map (·.2)).reverse.size<=B62+1:=by
  intro xs r;rw[Array.size_reverse,j6,r.size_eq,pairsOf_size]
  lia
 refine B60 (C01 ?_);show wpAny _ A _ P E {s with heap:=((s.heap.update a (G5 λ_=>#[])).push (seqObj "tuple" vs.toArray 0)).push (seqObj "list" #[] 0)};have q:(B90 vs).reverse.Perm (B90 vs):=Y5.mpr (by rw[A54];exact i9 _)
 by_cases b:vs.toArray.size<2
 ·simp only[if_pos b];rw[A35];refine B60 (B61 (B60 (C11 o rfl (B60 (B93 o rfl ?_ (E2 _) (sz (B90 vs).reverse q))))));simp only[bne_self_eq_false,E8,if_false];refine B61 (d (B90 vs).reverse q λi j a0 hj=>?_);rw[pairsOf_size] at hj;rw[B5] at b;rw[show i=j by lia]
  exact L7 _
 ·simp only[if_neg b];have kk:keyKind' vs.toArray=pure C41:=by
   match vs,b,f with
   |[],b,_=>exact absurd (by simp) b
   |[_],b,_=>exact absurd (by simp) b
   |_::_::_,_,f=>exact keyKind_ints f
  letI:G.NM:=⟨numOf,λv=>∃n t,v=.int n t⟩
  haveI:G.LtOk prog w A {s with heap:=((s.heap.update a (G5 λ_=>#[])).push (seqObj "tuple" vs.toArray 0)).push (seqObj "list" #[] 0)} C41:=⟨λ{x y Q E} hx hy h=>by
   obtain⟨n,t,rfl⟩:=hx;obtain⟨m,u,rfl⟩:=hy;rw[keyLt'_oneType];exact oneLt_int h⟩
  refine B60 (C00 kk (B60 (B69 (G.gwpS_runs (κ0:=C41) (a₀:=B90 vs) (Q:=λ_ c=>G.gSG C41 (B90 vs) c/\G.gSortedTo (arrOf c) (B90 vs).size) (by simpa[B90] using hs) f.intKeys ⟨q,rfl,rfl⟩ rfl λc g u=>⟨g,u⟩) ?_ λ_ _ x=>x)))
  rintro⟨_,c⟩ s2 ⟨es,g,u⟩;cases(show s2=_ from es);refine B60 (C11 o rfl (B60 (B93 o rfl ?_ (E2 _) (sz _ g.perm))));have gf:failedOf c=none:=g.failed;dsimp only
  split
  ·rename_i e he
   have:failedOf c=some e:=he;rw[gf] at this;cases this
  ·simp only[bne_self_eq_false,E8,if_false];exact B61 (d _ g.perm u)
end
variable{X:Cx}
theorem qKR (a:Value):argsOk "list.sort" ⟨[a],[(B6 "reverse",.bool true)]⟩:=by unfold argsOk;kernel_rfl
theorem qUY {Ab:Aa2} {σ:St} {H:Hp} {Q:VK} {ns:List Int} {D:Addr} (I:Inv X Ab σ (Ag H D (.lst (ns.map V.int))) s)(k:ns.length<64)
  (q:∀zs:List Int,zs.Perm ns->zs.Pairwise (· >= ·)->Q (.ref D) (Ag H D (.lst (zs.map V.int)))):
  wpAny (model X.prog X.w) A (call (.builtin "list.sort") [.ref D] [(B6 "reverse",.bool true)]) (λ_ s'=>EP X Ab σ Q (.ref D) s') E s:=by
 obtain⟨z,g,n,h,t,e⟩:=I.lstM qA1;have o:=qBN h;have a:=h.length;refine wpAny_call_entry_kw slot_list_sort ⟨_,e,rfl⟩ entry_list_sort (qT4 (ns:=ns) (n:=n) e o (by rw[<- a,A0];exact k) (by rw[<- a];exact z) λout zs p i l=>⟨_,rfl,?_⟩) (qKR _)
 obtain⟨j,d⟩:=sortedHeap_at (vs:=g) (out:=out) e;refine⟨.ref D,Ag H D (.lst (zs.map V.int)),?_,rfl,q zs i l⟩;have m:Ag (Ag H D (.lst (ns.map V.int))) D (.lst (zs.map V.int))=Ag H D (.lst (zs.map V.int)):=qM7;rw[<- m];refine I.write (x:=D) (e:=D) (t':=s.toks) (by rw[qA1];exact trivial) (.inl rfl) (λb u r c=>?_) ⟨_,d⟩ ?_
 ·rw[sortedHeap_old r (B4 c)];exact c
 ·refine⟨?_,out.toList,j,qFA p,by simpa using d⟩
  rw[A0,i.length_eq,<- A0 (f:=V.int)];exact z
theorem qPF (a d:Value):argsOk "sorted" ⟨[a],[(B6 "reverse",d)]⟩:=by unfold argsOk;kernel_rfl
def qdD (K:Ab1)(t tk:TA):TE:=λσ H Q=>t σ H λvs H1=>tk σ H1 λws H2=>∃p ns,vs=[.ref p]/\ws=[.bl true]/\SqL K H2 p (ns.map V.int)/\ns.length<64/\∀(a:Addr) (zs:List Int),H2 a=none->zs.Perm ns->zs.Pairwise (· >= ·)->Q (.ref a) (Ag H2 a (.lst (zs.map V.int)))
theorem qYS {e d:Expr} {t tk:TA} {p pos kpos:Pos} (hc:X.calm=true) (hg:Gl X "sorted") (hm:X.mg "sorted" = none) (j:B72 "sorted" = some (.builtin "sorted")) (ha:PA X [e] t) (y:PK X [⟨some "reverse",d,kpos⟩] tk)
  (z:B66 [e] X.env=[(false,eval e X.env)]:=by rfl):PE X (.Call (.Name "sorted" p) [e] [⟨some "reverse",d,kpos⟩] pos) (qdD X.K t tk):=by
 intro k s σ H Q I h;refine B87 (qGZ I hg hm j ?_ (by decide) (by decide))
 refine a8 (thn (ha pos k s σ H _ I h) λus s1 ⟨vs,H1,I1,r1,q1⟩=>?_) (by rw[z];rfl) (by rw[z];rfl)
 refine thn (y pos k s1 σ H1 _ I1 q1) fun ws s2 ⟨zs,H2,I2,rz,q2⟩=>?_;obtain ⟨p,ns,rfl,rfl,hq,i,q⟩:=q2;obtain ⟨u,rfl,rx⟩:=qDR r1;cases rx;obtain ⟨u2,rfl,ry⟩:=qDR rz;cases ry;refine call_function_entry_kw kind_sorted plain_sorted entry_sorted (qPF _ _) ?_;unfold Builtin.«sorted»;refine B60 (m:=checkCount "sorted" 1 1 _) (B61 ?_);have f:∀ (s1:Shared) (vs:List Value),Inv X k σ H2 s1->B68 vs ns->ns.length<=B62->wpAny (model X.prog X.w) X.A.in1 (do
   let l <- newList vs
   let _ <- B97 [l] (call (.builtin "list.sort") [l] [(B6 "reverse",.bool true)])
   ret l) (λf s'=>∃r,f=.done (.ret r)/\EP X k σ Q r s') X.xe s1:=by
  intro s1 vs I1 j g;have c:=IntsAre.length j;refine B60 (C09 ?_ (by rw[c];exact g))
  have hf:=I1.hok.fresh (A7 s1.heap.objs.size);refine B60 (B65 (B69 (qUY (E:=X.xe) (qHQ I1 j g) i λzs a b=>q _ zs hf a b) (λ_ s' x=>?_) λ_ _ e=>e));exact B61 ⟨_,rfl,x⟩
 obtain⟨a0,rv,pl,g⟩:=I2.list hq;obtain⟨o,ho,v,n,y⟩:=pl.isList;have c:=rv.length;refine B60 (C12 p (.inl rfl) ho v y (λh' hk=>?_) (by rw[B5,<- c];exact g))
 exact f _ _ (I2.kept (t':=s2.toks) hk) (by simpa using qBN rv) (by rw[A0] at g;exact g)
theorem qLO {α β:Type} {F G:α->β->Prop} :∀{l₁:List α} {l₂:List β},Paired F l₁ l₂->(∀a b,a∈l₁->F a b->G a b)->Paired G l₁ l₂:=by
 intro l₁ l₂ h f
 induction h with
 |nil=>exact .nil
 |cons r t ih=>exact .cons (f _ _ B7 r) (ih λa b c=>f a b (A8 _ c))
theorem Inv.laidN {Ab:Aa2} {σ:St} {H H':Hp} {s:Shared} {h':Heap} {t':Nat} (I:Inv X Ab σ H s)(k:∀b u,s.heap.get? b=some u->h'.get? b=some u)(ext:∀b o,H b=some o->H' b=some o)
  (d:∀b o,H' b=some o->H b=some o\/(s.heap.objs.size<=b/\ObjOk X.prog X.w H' h' b o)):Inv X Ab σ H' {s with heap:=h',toks:=t'}:=by
 refine I.un ⟨λb u q _ _ _=>k b u q,λb u q _ _ _=>⟨u.slots,k b u q⟩,λb u q n _=>?_,λb u q _=>⟨u,k b u q⟩,λb f q=>ext _ _ q,λb o u q=>ext _ _ q,λb g q=>ext _ _ q⟩ λb o e=>?_
 ·cases e:H' b with
  |none=>rfl
  |some o=>
   rcases d b o e with z|z
   ·rw[n] at z;cases z
   ·exact absurd (B4 q) (B40.mpr z.1)
 ·rcases d b o e with z|z
  ·exact(I.hok b o z).stay (λc v _ q=>k c v q) (λc q=>ext _ _ q) (λc f q=>ext _ _ q) λc t q=>ext _ _ q
  ·exact z.2
noncomputable def qGB:List Addr->List (Key×V)->Hp->Hp
 |a::as,kv::Af,H=>Ag (qGB as Af H) a (.tup [kV kv.1,kv.2])
 |_,_,H=>H
theorem qLH:∀{as:List Addr} {Af:List (Key×V)} {H:Hp} {b:Addr},b∉as->qGB as Af H b=H b
 |[],_,_,_,_=>by simp[qGB]
 |a::as,[],_,_,_=>rfl
 |a::as,kv::Af,H,b,h=>by
  show Ag _ _ _ _=_;rw[qA7 (λz=>h (by rw[z];exact B7))]
  exact qLH λz=>h (A8 _ z)
theorem qNT:∀{as:List Addr} {Af:List (Key×V)} {H:Hp} {b:Addr} {o:HO},qGB as Af H b=some o->H b=some o\/∃(j:Nat) (kv:Key×V),as[j]?=some b/\Af[j]?=some kv/\o=.tup [kV kv.1,kv.2]
 |[],_,_,_,_,h=>.inl (by simpa[qGB] using h)
 |a::as,[],_,_,_,h=>.inl h
 |a::as,kv::Af,H,b,o,h=>by
  by_cases e:b=a
  ·subst e;have h':Ag (qGB as Af H) b (.tup [kV kv.1,kv.2]) b=some o:=h;rw[qA1] at h';exact .inr ⟨0,kv,rfl,rfl,(D1 h').symm⟩
  ·have h':Ag (qGB as Af H) a (.tup [kV kv.1,kv.2]) b=some o:=h;rw[qA7 e] at h';rcases qNT h' with z|⟨j,kv',z1,z2,z3⟩
   ·exact .inl z
   ·exact .inr ⟨j+1,kv',z1,z2,z3⟩
theorem qJ6:∀{as:List Addr} {Af:List (Key×V)} {H:Hp},as.length=Af.length->as.Pairwise (·<·)->Paired (λr kv=>qGB as Af H r=some (.tup [kV kv.1,kv.2])) as Af
 |[],[],_,_,_=>.nil
 |[],_::_,_,h,_=>by cases h
 |_::_,[],_,h,_=>by cases h
 |a::as,kv::Af,H,h,p=>by
  have p2:=O6.mp p;refine .cons qA1 (qLO (qJ6 (H:=H) (by simpa using h) p2.2) λr kv' hr e=>?_)
  show Ag _ _ _ _=_;rw[qA7 (O3 (p2.1 r hr))];exact e
noncomputable def qY0 (r d:Addr):HO:=.ext λh=>h.get? r=some {cls:=.type "dict_items",data:=.fields #[.ref d]}
def qdX:V->List V->Hp->VK->Prop:=λx vs H Q=>∃(d:Addr) (Af:List (Key×V)),x=.ref d/\vs=[]/\H d=some (.dK Af)/\∀r,H r=none->Q (.ref r) (Ag H r (qY0 r d))
theorem qZB:MtM X "dict.items" qdX:=by
 intro m s σ H x t v l Q I j k h;obtain⟨d,r,rfl,rfl,i,q⟩:=h;cases j;cases k;obtain⟨n,f,z,g,c⟩:=qQV I.hok i;refine call_meetsIn F.slot_dict_items c.typeIs F.entry_dict_items (F.args_dict_items_1 _) (meets_dict_items (qAT X.prog X.w) d f) ⟨⟨_,c⟩,?_⟩;refine⟨.ref s.heap.objs.size,_,I.laid (a:=s.heap.objs.size) (o:=qY0 s.heap.objs.size d) (t':=s.toks) (λb u e=>A3 _ e) (A7 _) ?_,rfl,q _ (I.hok.fresh (A7 _))⟩;exact⟨B3 _ rfl,⟨_,B3 _ rfl⟩,λp y a b=>b _ a⟩
theorem qNO:∀(as:List Addr),Vals (as.map V.ref) (as.map D4)
 |[]=>.nil
 |_::as=>.cons rfl (qNO as)
theorem qU6 (hc:X.calm=true):qD9 X (.type "list") (fun xs H Q=>∃ (r d:Addr) (Af:List (Key × V)),xs=[.ref r]/\H r=some (qY0 r d)/\H d=some (.dK Af)/\(∀ p ∈ Af,∃ n,p.1=F4 n)/\
  ∀l rs H',H l=none->(∀b o,H b=some o->H' b=some o)->H' l=some (.lst (rs.map V.ref))->Paired (λr (kv:Key×V)=>H' r=some (.tup [kV kv.1,kv.2])) rs Af->Q (.ref l) H'):=by
 intro Ab s σ H xs us Q I rr h;obtain⟨r,d,Af,rfl,hr,hq,hk,q⟩:=h;obtain⟨u,rfl,rx⟩:=qDR rr;cases rx;obtain⟨hz,hd,ws,a0,dd⟩:=qQV I.hok hq;have lw:ws.length=Af.length:=a0.length.symm;have hv:s.heap.get? r=some {cls:=.type "dict_items",data:=.fields #[.ref d]}:=(show ObjOk X.prog X.w H s.heap r (qY0 r d) from I.hok r _ hr).1;have a1:=B4 hv;have a5:d<s.heap.objs.size:=I.hok.lt hq;refine callType_codes (Q₁:=λy s₁=>y=.ref s.heap.objs.size/\s₁={s with heap:=s.heap.push {cls:=.type "list",data:=.seq #[]}}) F.called_list (F.typeCall_list_1 _) F.entry_list_init (code_list_new _ ⟨rfl,rfl⟩) ?_;rintro y s₁ ⟨rfl,rfl⟩;obtain⟨ep,da⟩:=(dd.push {cls:=.type "list",data:=.seq #[]}).dictAt;refine⟨⟨_,B3 _ rfl,rfl⟩,F.args_list_init_2 _ _,?_⟩;refine PySem.W.kdx_init (A:=X.A.in1) (I.ok.hd hc) ⟨_,A3 _ hv,rfl,rfl⟩ da s.heap.objs.size (O3 a1) (C4 a5) (B3 _ rfl) (λh' tk a6 c a g a4 la G ea=>?_) (by rw[lw];exact hz)
 refine⟨rfl,?_⟩;have a2:s.heap.objs.size∉a:=λz=>absurd (G.above _ z) (T9 _);have m:a.length=Af.length:=la.trans lw;have fr:∀b,s.heap.objs.size<=b->H b=none:=λb f=>I.hok.fresh f;have ext:∀b o,H b=some o->Ag (qGB a Af H) s.heap.objs.size (.lst (a.map V.ref)) b=some o:=λb o e=>by
  have f:b<s.heap.objs.size:=I.hok.lt e;rw[qA7 (C4 f),qLH λz=>absurd (G.above _ z) (Nat.lt_asymm f)];exact e
 refine⟨.ref s.heap.objs.size,Ag (qGB a Af H) s.heap.objs.size (.lst (a.map V.ref)),I.laidN (t':=tk) (λb u e=>g b u (C4 (B4 e)) (A3 _ e)) ext (λb o e=>?_),rfl,q _ a _ (fr _ (A7 _)) ext qA1 (qLO (qJ6 (H:=H) m G.rise) λx kv hx e=>?_)⟩
 ·by_cases eb:b=s.heap.objs.size
  ·subst eb;rw[qA1] at e;cases e;refine .inr ⟨A7 _,by rw[A0,m];exact hz,a.map D4,c,qNO a,?_⟩
   rw[<- ea];simpa using a4
  ·rw[qA7 eb] at e;rcases qNT e with z|⟨j,kv,z1,z2,z3⟩
   ·exact .inl z
   ·subst z3;obtain⟨i,k,x,e1,e2,e3⟩:=G.pairs j b z1;have f:=G.above b (B0 z1);obtain⟨w0,ew,ek,rx⟩:=qIP a0 z2;rw[e1] at ew;cases ew;obtain⟨n,en⟩:=hk kv (B0 z2);refine .inr ⟨V2 f,(by show 2<=B62;decide),[i,x],?_,⟨_,e3,rfl,0,rfl⟩⟩
    have a3:kv.1=k:=ek;rw[<- a3,en] at e2;obtain⟨t,e4⟩:=z8 (k:=n) (v:=i) e2;rw[en,e4];exact .cons ⟨t,rfl⟩ (.cons rx .nil)
 ·rw[qA7 (show x≠s.heap.objs.size fromλz=>a2 (by rw[<- z];exact hx))]
  exact e
def TB:Type:=(St->XK)->TS
section
variable{X:Cx}{tg:Expr}
def tFrz (t:TE):TE:=λσ H Q=>t σ H λv H1=>∃d Af,v=.ref d/\H1 d=some (.dK Af)/\∀o,Q v (Ag H1 d (.frz o (.dK Af)))
theorem Inv.freeze {Ab:Aa2} {σ:St} {H:Hp} {d:Addr} {Af:List (Key×V)} (I:Inv X Ab σ H s)(h:H d=some (.dK Af)):∃o,Inv X Ab σ (Ag H d (.frz o (.dK Af))) s:=by
 have a:=I.hok d _ h;obtain⟨j,g,l,f,o,k,i,c,r⟩:=id a;refine⟨o,?_⟩;have:=I.write (h':=s.heap) (t':=s.toks) (x:=d) (e:=d) (o:=.frz o (.dK Af)) (by rw[h];trivial) (.inl rfl) (λb u _ q=>q) ⟨o,c⟩ ⟨c,a⟩
 exact this
theorem qe5 {e:Expr} {t:TE} (g:PE X e t):PE X e (tFrz t):=by
 intro f s σ H Q I h;refine thn (g f s σ H _ I h) λv s1 ⟨x,H1,I1,r1,d,Af,e,hd,q⟩=>?_;obtain⟨o,b⟩:=I1.freeze hd;exact⟨x,_,b,r1,q o⟩
noncomputable def Itk (a:Addr)(o:Obj)(Af:List (Key×V)):It:=
 ⟨λi H=>i<Af.length/\H a=some (.frz o (.dK Af)),λi H x c=>c=H/\∃k v,Af[i]?=some (k,v)/\x=kV k,λi H=>Af.length<=i/\H a=some (.frz o (.dK Af))⟩
theorem qYH {k:Key} {v:Value} (h:qON k v=true):RelV (kV k) v:=by
 rcases qBE h with⟨i,t,rfl,rfl⟩|⟨x,t,rfl,rfl⟩
 ·exact⟨t,rfl⟩
 ·exact⟨t,rfl⟩
theorem Inv.heldD {Ab:Aa2} {σ:St} {H:Hp} {s:Shared} {d:Addr} {o:Obj} {Af:List (Key×V)} (I:Inv X Ab σ H s)(h:H d=some (.frz o (.dK Af))):s.heap.get? d=some o/\(d==B85)=false/\∃vs ep,KV Af vs/\s.heap.DictAt (qAT X.prog X.w) d vs ep/\(∃es,o.data=.dict es ep):=by
 obtain⟨f,j,g,vs,c,i⟩:=(show ObjOk X.prog X.w H s.heap d (.frz o (.dK Af)) from I.hok d _ h);obtain⟨ep,e⟩:=i.dictAt;obtain⟨l,es,a,k,b,r⟩:=id e;rw[f] at a;cases a;exact⟨f,g,vs,ep,c,e,es,b⟩
theorem qT1 {K:Ab1} {tg:Expr} (a m:Addr)(o:Obj)(Af:List (Key×V))(ep:Nat)(es:_)(ho:o.data=.dict es ep):Turn P w K tg (Itk a o Af) [m] m (λi h=>h.IsKeyIter m a i Af.length ep) where
 mem:=by simp
 obj:=λi h f b l=>by
  have e:b=m:=by simpa using l
  subst e;obtain⟨o,e,c,d⟩:=f;exact⟨o,e,λv z=>by rw[d] at z;cases z⟩
 keep:=λi h u f k=>f.at λo e=>k m (by simp) o e
 item:=by
  intro X hP hw hK hc i Ab s σ H E I hf f hg;subst hP hw hK;obtain⟨hi,hq⟩:=hg;obtain⟨e1,e2,n,a2,j,da,a3,r⟩:=I.heldD hq;rw[ho] at r;cases r;obtain⟨f0,f1,f2,f3,f4,f5⟩:=hf m (by simp)
  have y:n.length=Af.length:=j.length.symm;rw[<- y] at f;obtain⟨⟨k,x⟩,hx⟩:∃p,n[i]?=some p:=⟨n[i]'(by lia),A4 (by lia)⟩
  obtain⟨⟨k',v'⟩,t⟩:∃p,Af[i]?=some p:=⟨Af[i],A4 hi⟩;have ek:k'=k:=by
   have h1:(Af.map (·.1))[i]?=some k':=by rw[C5,t];rfl
   have h2:(n.map (·.1))[i]?=some k:=by rw[C5,hx];rfl
   rw[j.keys,h2] at h1;cases h1
   rfl
  refine wpAny_pyNext_dict_item f da hx λa0 u q g a1=>?_;have I1:Inv X Ab σ H {s with heap:=u}:=I.turned (t':=s.toks) (λb o l e=>(a1.2 b l).trans e) f0 f1 f3 f4 f5;rw[y] at g;obtain⟨oi,ei,c,d⟩:=id g;exact⟨a0,rfl,qTT (s:={s with heap:=u}) ei c d (by decide) ⟨kV k,H,I1,qYH q,⟨rfl,k',v',t,by rw[ek]⟩,g,λb l=>(hf b l).1⟩⟩
 done:=by
  intro X hP hw hK hc i Ab s σ H E I hf f hg;subst hP hw hK;obtain⟨hi,hq⟩:=hg;obtain⟨e1,e2,n,a2,j,da,a3,r⟩:=I.heldD hq;rw[ho] at r;cases r;obtain⟨f0,f1,f2,f3,f4,f5⟩:=hf m (by simp)
  have y:n.length=Af.length:=j.length.symm;rw[<- y] at f;exact wpAny_pyNext_dict_end (I.ok.hd hc) f da (by simp;lia) λu eb=>⟨rfl,I.turned (t':=s.toks) (λb o l e=>eb b o l e) f0 f1 f3 f4 f5⟩
 self:=λ_ _ _ _ _ f h=>wpAny_pyIter_keyiter f h
def qeM (tl:TE):TI:=λσ H R=>tl σ H λx H1=>∃a o Af,x=.ref a/\H1 a=some (.frz o (.dK Af))/\R (Itk a o Af) H1
theorem qYR {l:Expr} {d:TE} (t:PE X l d):PI X tg l (qeM d):=by
 intro n s σ H R I h;refine thn (t n s σ H _ I h) λv s1 ⟨x,H1,I1,r1,q1⟩=>?_;obtain⟨a,o,f,e,m,q⟩:=q1;subst e;cases r1;obtain⟨y,i,w,p,c,g,k,r⟩:=I1.heldD m;have j:w.length=f.length:=c.length.symm;refine wpAny_pyIter_dict i g ?_;refine⟨s1.heap.objs.size,[s1.heap.objs.size],_,_,H1,rfl,I1.kept (t':=s1.toks) λb o e=>A3 _ e,qT1 a _ o f p k r,⟨_,B3 _ rfl,rfl,by rw[j];rfl⟩,λb u=>?_,q⟩
 have e:b=s1.heap.objs.size:=by simpa using u
 subst e;exact I1.fpOk (A7 _) (I1.hok.fresh (A7 _))
end
theorem qWV {a:Addr} {o:Obj} {Af:List (Key×V)} {g:TG} {c:TS} {D:Ends} {σ:St} {H:Hp} (Pv:Nat->St->Hp->Prop)(r:Pv 0 σ H)(s:∀i σ H,i<=Af.length->Pv i σ H->H a=some (.frz o (.dK Af)))
  (f:∀i k v σ H,Af[i]?=some (k,v)->Pv i σ H->g (kV k) σ H λσ2 H2=>c {D with nx:=Pv (i+1),ct:=Pv (i+1),bk:=D.nx} σ2 H2) (h:∀σ H,Pv Af.length σ H->D.nx σ H):
  ForG (Itk a o Af) g c D σ H:=by
 refine⟨λi m σ H=>m=Af.length-i/\i<=Af.length/\Pv i σ H,⟨Af.length,by simp,E2 _,r⟩,?_⟩
 rintro i m σ H ⟨rfl,hi,p⟩;have q:=s i σ H hi p;by_cases b:i<Af.length
 ·refine .inr ⟨⟨b,q⟩,Pv (i+1),λσ' j l=>⟨Af.length-(i+1),by lia,rfl,b,l⟩,λx j y=>?_⟩
  obtain⟨e,k,v,d,n⟩:=y;subst e n;exact f i k v σ _ d p
 ·have e:i=Af.length:=by lia
  subst e;exact .inl ⟨⟨A7 _,q⟩,h σ H p⟩
section
variable{prog:B63}{w:World}{A:Around}{E:Aa1}{s:Shared}{it d:Addr}{i n ep:Nat}{od:Obj}{es:Array DictEntry}
theorem qX7 {Q:Aa1} (a:s.TypeIs (.ref d) "dict") (e:(d==B85)=false) (b:s.heap.get? d=some od) (c:od.data=.dict es ep)
  (f:Q (.ref s.heap.objs.size) {s with heap:=s.heap.push {cls:=.type "dict_keyiterator",data:=.fields #[.ref d,rawInt 0,rawInt es.size,rawInt ep]}}):wpAny (model prog w) A (pyIter (.ref d)) Q E s:=by
 apply wpAny_pyIter_slot a B14;refine B78 B14 a F.entry_dict_iter ?go (F.args_dict_iter_1 (.ref d));unfold Builtin.«dict.__iter__»;apply B60;unfold Builtin.Dict.dictSlotNone;apply B60;apply wpAny_notOrdered_dict a;apply B61;apply B60;apply B61;apply B60;unfold Builtin.Dict.showsAll;rw[e];apply B61;apply B60;apply wpAny_dictEntries b c;apply B60;apply wpAny_dictEpoch b c;apply B60;refine B67 ?made;apply B61;exact⟨_,rfl,"dict_keyiterator",_,⟨_,B3 _ rfl,rfl⟩,Q1.lookup,f⟩
def qY3 (h:Heap) (it d:Addr) (i n ep:Nat):Prop:=h.get? it=some {cls:=.type "dict_keyiterator",data:=.fields #[.ref d,rawInt i,rawInt n,rawInt ep]}
theorem qX8 {Q:Option Value->Shared->Prop} (a:qY3 s.heap it d i es.size ep)(h:s.heap.get? d=some od)(g:od.data=.dict es ep)(hi:i<es.size)
  (k:∀h',qY3 h' it d (i+1) es.size ep->Heap.SameBut it s.heap h'->Q (some es[i].key) {s with heap:=h'}):wpAny (model prog w) A (pyNext (.ref it)) Q E s:=by
 have c:s.TypeIs (.ref it) "dict_keyiterator":=⟨_,a,rfl⟩;unfold pyNext;apply B60;apply C21;apply wpAny_callSpecial?_slot (name:=B6 "__next__") c Q1;refine B78 Q1 c l8 ?go (k8 (.ref it));apply B60;apply B61;apply B60;apply B60;apply B60
 first|apply B98 c|apply C07 c
 apply B61;apply B60;refine wpAny_fieldsOf a rfl ?fs;have e:m9 "dict_keyiterator" = false:=by decide
 have j:((D4 d==J5)=true)->False:=λz=>by cases z
 simp only[e,E8,if_false];show wpAny _ _ (if(D4 d==J5)=true then _ else _) _ _ s
 rw[if_neg j];apply B60;apply B61;apply B60;apply wpAny_dictEntries h g;rw[if_neg (by simp)]
 apply B60;apply B61;apply B60;apply wpAny_dictEpoch h g;rw[if_neg (by simp)]
 apply B61;have f:¬((i:Int)<0):=B41.mpr (A87 i);simp only[f,if_false,D0,D9 hi];apply B60;apply B60
 first|apply B98 c|apply C07 c
 apply B61;apply B60;apply wpAny_isOneOf_keyiter c;show wpAny _ _ (setField (.ref it) 1 (rawInt ((i:Int)+1)) >>= _) _ _ s;apply B60;refine B89 a rfl (by show 1<4;decide) ?set
 have b:qY3 (s.heap.update it (U1 (·.setIfInBounds 1 (rawInt ((i:Int)+1))))) it d (i+1) es.size ep:=E7 _ a rfl;apply B60;apply B65;apply B60;refine wpAny_isOneOf_keyiter (s:={s with heap:=s.heap.update it (U1 (·.setIfInBounds 1 (rawInt ((i:Int)+1))))}) ⟨_,b,rfl⟩ ?one;apply B61;apply B61;exact⟨_,rfl,B61 (k _ b (R7 ..))⟩
theorem qa3 {Q:Option Value->Shared->Prop} (p:A.handled=none)(c:qY3 s.heap it d i es.size ep)(hi:es.size<=i)(j:s.heap.get? d=some od)(k:od.data=.dict es ep)
  (n:∀h',Heap.ExtBut it s.heap h'->Q none {s with heap:=h'}):wpAny (model prog w) A (pyNext (.ref it)) Q E s:=by
 have f:s.TypeIs (.ref it) "dict_keyiterator":=⟨_,c,rfl⟩;unfold pyNext;apply B60;apply C21;apply wpAny_callSpecial?_slot (name:=B6 "__next__") f Q1;refine B78 Q1 f l8 ?go (k8 (.ref it));apply B60;apply B61;apply B60;apply B60;apply B60
 first|apply B98 f|apply C07 f
 apply B61;apply B60;refine wpAny_fieldsOf c rfl ?fs;have g:m9 "dict_keyiterator" = false:=by decide
 have l:((D4 d==J5)=true)->False:=λz=>by cases z
 simp only[g,E8,if_false];show wpAny _ _ (if(D4 d==J5)=true then _ else _) _ _ s
 rw[if_neg l];apply B60;apply B61;apply B60;apply wpAny_dictEntries j k;rw[if_neg (by simp)]
 apply B60;apply B61;apply B60;apply wpAny_dictEpoch j k;rw[if_neg (by simp)]
 apply B61;have h:¬((i:Int)<0):=B41.mpr (A87 _);simp only[h,if_false,D0,A26 hi];apply B60;apply B60
 first|apply B98 f|apply C07 f
 apply B61;show wpAny _ _ (setField (.ref it) 0 .none >>= _) _ _ s;apply B60;refine B89 c rfl (by show 0<4;decide) ?set
 have r:Heap.ExtBut it s.heap (s.heap.update it (U1 (·.setIfInBounds 0 J5))):=λb o q e=>(C0 _ _ (F6 q)).trans e;show wpAny _ _ (newExc (.type "StopIteration") [] >>= _) _ _ _;apply B60;simp only[newExc,newTuple];apply B60;refine B67 ?t1 (by size_fits)
 refine B60 (m:=C15 _ _) (C00 (a:=J5) (by first|rfl|(simp only[C15];rfl)) ?t2)
 refine B67 ?t3 (by size_fits)
 simp only[raiseNew];apply B60;apply wpAny_handled;rw[show A.in1.handled=none from p]
 first|apply wpAny_throw|(apply B60;apply B61;apply wpAny_throw)
 apply B60;refine wpAny_isInstance (T:="StopIteration") (b:=true) ⟨_,B3 _ rfl,rfl⟩ isSubtype_stop ?t4;exact B61 (n _ ((r.push _).push _))
end
section
variable{X:Cx}{tg:Expr}
def qfB (t:TE):TE:=λσ H Q=>t σ H λv H1=>∃d Af,v=.ref d/\H1 d=some (.dT Af)/\∀o,Q v (Ag H1 d (.frz o (.dT Af)))
theorem Inv.freezeT {Ab:Aa2} {σ:St} {H:Hp} {d:Addr} {Af:List (List Key×V)} (I:Inv X Ab σ H s)(h:H d=some (.dT Af)):∃o,Inv X Ab σ (Ag H d (.frz o (.dT Af))) s:=by
 have a:=I.hok d _ h;obtain⟨k,i,g,f,o,m,j,c,r⟩:=id a;refine⟨o,I.write (h':=s.heap) (t':=s.toks) (x:=d) (e:=d) (o:=.frz o (.dT Af)) (by rw[h];trivial) (.inl rfl) (λb u _ q=>q) ⟨o,c⟩ ⟨c,?_⟩⟩
 refine(show ObjOk X.prog X.w H s.heap d (.dT Af) from a).stay (λb u _ q=>q) (λb q=>?_) (λb l q=>?_) λb t q=>?_
 ·rw[qA7 (qC6 q h (by intro z;cases z))];exact q
 ·rw[qA7 (qC6 q h (by intro z;cases z))];exact q
 ·rw[qA7 (qC6 q h (by intro z;cases z))];exact q
theorem qbY {e:Expr} {t:TE} (c:PE X e t):PE X e (qfB t):=by
 intro b s σ H Q I h;refine thn (c b s σ H _ I h) λv s1 ⟨x,H1,I1,r1,d,Af,e,hd,q⟩=>?_;obtain⟨o,a⟩:=I1.freezeT hd;exact⟨x,_,a,r1,q o⟩
def ItT (a:Addr)(o:Obj)(Af:List (List Key×V)):It:=
 ⟨λi H=>i<Af.length/\H a=some (.frz o (.dT Af)),λi H x H'=>H'=H/\∃k v r,Af[i]?=some (k,v)/\x=.ref r/\H r=some (.tup (k.map kV)),λi H=>Af.length<=i/\H a=some (.frz o (.dT Af))⟩
theorem Inv.heldT {Ab:Aa2} {σ:St} {H:Hp} {d:Addr} {o:Obj} {Af:List (List Key×V)} (I:Inv X Ab σ H s)(h:H d=some (.frz o (.dT Af))):
  s.heap.get? d=some o/\(d==B85)=false/\o.cls=.type "dict"/\∃es ep,o.data=.dict es ep/\es.size=Af.length/\∀(i:Nat) (hi:i<es.size),∃k v r,Af[i]?=some (k,v)/\es[i].key=.ref r/\H r=some (.tup (k.map kV)):=by
 obtain⟨m,hz,y,e,a,o',es,ep,b,p,c,g,nd⟩:=(show ObjOk X.prog X.w H s.heap d (.frz o (.dT Af)) from I.hok d _ h);rw[m] at b;cases b;have z:e.length=Af.length:=a.length.symm;have q:es.size=e.length:=by rw[<- D2,g,A0]
 refine⟨m,y,p.1,es,ep,c,q.trans z,λi hi=>?_⟩;have u:i<e.length:=by lia
 have f:i<Af.length:=by lia
 have j:=A4 f;obtain⟨x,t,e1,n,e3⟩:=qIP a j;refine⟨Af[i].1,Af[i].2,x.2.1,j,?_,n⟩;have l:es[i]?=some (entryOfKey (C42 (qAT X.prog X.w)) x):=by rw[<- M7,g,C5,t];rfl
 rw[D9 hi] at l;rw[D1 l]
 rfl
theorem qT0 {K:Ab1} {tg:Expr} (a g:Addr)(o:Obj)(Af:List (List Key×V))(ep:Nat)(es:_)(p:o.data=.dict es ep):Turn P w K tg (ItT a o Af) [g] g (λi h=>qY3 h g a i Af.length ep) where
 mem:=by simp
 obj:=λi h c b f=>by
  have e:b=g:=by simpa using f
  subst e;exact⟨_,c,λv z=>by cases z⟩
 keep:=λi h n c k=>k g (by simp) _ c
 item:=by
  intro X hP hw hK hc i Ab s σ H E I t c hg;subst hP hw hK;obtain⟨hi,hq⟩:=hg;obtain⟨u,e2,e3,a2,a1,m,q,j⟩:=I.heldT hq;rw[p] at m;cases m;obtain⟨y,f1,f2,x,f4,f5⟩:=t g (by simp)
  rw[<- q] at c;have l:i<es.size:=by lia
  obtain⟨k,v,r,g1,g2,g3⟩:=j i l;refine qX8 c u p l λn d a0=>?_;have I1:Inv X Ab σ H {s with heap:=n}:=I.turned (t':=s.toks) (λb o f e=>(a0.2 b f).trans e) y f1 x f4 f5;rw[q] at d;rw[g2];exact⟨.ref r,rfl,qTT (s:={s with heap:=n}) d rfl rfl (by decide) ⟨.ref r,H,I1,rfl,⟨rfl,k,v,r,g1,rfl,g3⟩,d,λb f=>(t b f).1⟩⟩
 done:=by
  intro X hP hw hK hc i Ab s σ H E I t c hg;subst hP hw hK;obtain⟨hi,hq⟩:=hg;obtain⟨u,e2,e3,a2,a1,m,q,j⟩:=I.heldT hq;rw[p] at m;cases m;obtain⟨y,f1,f2,x,f4,f5⟩:=t g (by simp)
  rw[<- q] at c;exact qa3 (I.ok.hd hc) c (by lia) u p λn eb=>⟨rfl,I.turned (t':=s.toks) (λb o f e=>eb b o f e) y f1 x f4 f5⟩
 self:=λ_ _ _ _ _ c h=>wpAny_pyIter_keyiter ⟨_,c,rfl,rfl⟩ h
def qeL (tl:TE):TI:=λσ H R=>tl σ H λx H1=>∃a o Af,x=.ref a/\H1 a=some (.frz o (.dT Af))/\R (ItT a o Af) H1
theorem qYQ {l:Expr} {d:TE} (t:PE X l d):PI X tg l (qeL d):=by
 intro m s σ H R I h;refine thn (t m s σ H _ I h) λv s1 ⟨x,H1,I1,r1,q1⟩=>?_;obtain⟨a,o,u,e,k,q⟩:=q1;subst e;cases r1;obtain⟨c,j,r,w,n,f,i,g⟩:=I1.heldT k;refine qX7 ⟨_,c,r⟩ j c f ?_;refine⟨s1.heap.objs.size,[s1.heap.objs.size],_,_,H1,rfl,I1.kept (t':=s1.toks) λb o e=>A3 _ e,qT0 a _ o u n w f,by rw[i];exact B3 _ rfl,λb p=>?_,q⟩
 have e:b=s1.heap.objs.size:=by simpa using p
 subst e;exact I1.fpOk (A7 _) (I1.hok.fresh (A7 _))
end
theorem qZH {a:Addr} {o:Obj} {Af:List (List Key×V)} {g:TG} {h:TT} {d:TE} {Kf:Hp->Prop} {σ0:St} {H0:Hp} {p:Addr} (Pv:Nat->St->Hp->Prop)(h0:Pv 0 σ0 H0)(z:∀i σ H,i<=Af.length->Pv i σ H->H a=some (.frz o (.dT Af)))
  (l:∀i k v r σ H,Af[i]?=some (k,v)->H r=some (.tup (k.map kV))->Pv i σ H->g (.ref r) σ H λσ2 H2=>h σ2 H2 λb H3=>if b=true then d σ2 H3 λy H4=>∃ys,H4 p=some (.lst ys)/\ys.length<B62/\Pv (i+1) σ2 (Ag H4 p (.lst (ys++[y]))) else Pv (i+1) σ2 H3)
  (n:∀σ H,Pv Af.length σ H->Kf H):
  LcG (ItT a o Af) g h d Kf σ0 H0 p:=by
 refine⟨λi m σ H=>m=Af.length-i/\i<=Af.length/\Pv i σ H,⟨Af.length,by simp,E2 _,h0⟩,?_⟩
 rintro i m σ H ⟨rfl,hi,q⟩;have f:=z i σ H hi q;by_cases c:i<Af.length
 ·refine .inr ⟨⟨c,f⟩,Pv (i+1),λσ' s u=>⟨Af.length-(i+1),by lia,rfl,c,u⟩,λx s y=>?_⟩
  obtain⟨e,k,v,r,j,w,t⟩:=y;subst e w;exact l i k v r σ _ j t q
 ·have e:i=Af.length:=by lia
  subst e;exact .inl ⟨⟨A7 _,f⟩,n σ H q⟩
section
variable{X:Cx}{k v:Expr}{tk tv:TE}{pos:Pos}
def qbF (tk tv:TE):TE:=λσ H Q=>∀p,H p=none->tk σ (Ag H p (.dT [])) λx H1=>tv σ H1 λy H2=>H2 p=some (.dT [])/\∃b ks,x=.ref b/\H2 b=some (.tup (ks.map kV))/\Q (.ref p) (Ag H2 p (.dT [(ks,y)]))
theorem qVG (hu:X.A.units+1<cLine)(hk:PE X k tk)(t:PE X v tv):PE X (.Dict [some k] [v] pos) (qbF tk tv):=by
 intro g s σ H Q I q;have hn:=I.hok.fresh (A7 s.heap.objs.size);have p:=I.laid (a:=s.heap.objs.size) (o:=.dT []) (h':=s.heap.push {cls:=.type "dict",data:=.dict #[]}) (t':=s.toks) (λ_ _ q=>A3 _ q) (A7 _) (qa4 s.heap I.big);rw[arm_eval_Dict,zip_pairTrees [some k] [v] X.env pos rfl rfl,dictDisplay_pairs _ (by intro z;cases z) (by show 1<17;decide)]
 apply B60;apply C03;apply B60;unfold subDict;apply B60;refine wpAny_alloc ?_;apply B60;apply B65;rw[if_pos (show(pairTrees [some k] [v] X.env pos).length<=15 by show 1<=15;decide)]
 apply B60;refine pairTrees_cons_walk (thn (hk g _ σ _ _ p (q _ hn)) λu s1 ⟨x,H1,I2,rx,q1⟩=>thn (t g _ σ _ _ I2 q1) λr s2 ⟨y,H2,I3,ry,e,b,ks,ex,eb,q2⟩=>pairTrees_nil_walk ?_);subst ex;obtain rfl:u=D4 b:=rx;apply B65;obtain⟨z,hd,xs,d,dd⟩:=qeT I3.hok e;have n:xs.length<=B62:=by rw[<- C2 d];exact z
 apply B60;simp only[A32,B33];apply B60;apply B60;refine wpAny_dictSet_heap (knd:=C42 (qAT X.prog X.w)) (hsz:=n) ?_ (qLW I3.hok eb) dd λh' f l=>?_
 ·exact Nat.lt_of_succ_lt hu
 apply B61;apply B61;apply B61;apply B61;apply B61;refine⟨.ref s.heap.objs.size,_,?_,rfl,q2⟩;obtain⟨h,es,ep,j,h2,h3,h4,_,m⟩:=f;refine qHX I3 (by rw[e];exact Z6) l ⟨h,j⟩ ⟨F3 (show 1<=2 by decide) (by decide),hd,_,(d.put ks eb ry).keeps λc ys i=>?_,h,es,ep,j,h2,h3,h4,m⟩
 rw[qA7 (qC6 i e (λz=>nomatch z))];exact i
end
noncomputable def kOf:Stmt->Expr
 |.Assign _ (.Dict [some k] _ _) _=>k
 |_=>.Name "" ⟨0,0,0,0⟩
noncomputable def vOf:Stmt->Expr
 |.Assign _ (.Dict _ [v] _) _=>v
 |_=>.Name "" ⟨0,0,0,0⟩
theorem qbX {X:Cx} {e:Expr} (h:∃n p,e=.Tuple [] n p):PE X e (tTup tNil):=by
 obtain⟨n,p,rfl⟩:=h;exact qBW qA3
theorem qVF {X:Cx} {e:Expr} (h:∃a1 a2 b1 b2 c1 c2 n p,e=.Tuple [.Constant (.int 0) a1 a2,.Constant .none b1 b2,.Constant .none c1 c2] n p):PE X e (tTup (qNV (tC (.int 0)) (qNV (tC .non) (qNV (tC .non) tNil)))):=by
 obtain⟨_,_,_,_,_,_,n,p,rfl⟩:=h;exact qBW (qA0 qA9 (qA0 qJK (qA0 qJK qA3)))
theorem qXY {p:Pos} {a b:Int} {c d:Value} :∀{l:List Value},TriplesOk l->codeAmong p (l++[rawInt a,rawInt b,c])=some d->codeAmong p l=some d\/d=c:=by
 intro l h e
 fun_induction TriplesOk l with
 |case1=>
  simp only[n9,rawInt,codeAmong] at e
  split at e
  ·exact .inr (D1 e).symm
  ·cases e
 |case2 a' t b' u x rest ih=>
  simp only[B07,codeAmong] at e ⊢
  split at e
  ·rename_i hc
   rw[if_pos hc];exact .inl e
  ·rename_i hc
   rw[if_neg hc];exact ih h e
 |case3 l h1 h2=>exact h.elim
def BM (mg:Ab0) (h:Heap):Prop:=∃bm ob,mg "__builtins__" = some (.ref bm)/\bm≠C45/\h.get? bm=some ob/\ob.cls=.type "module"/\ob.dict=some C45/\ob.data=.plain
section
variable{X:Cx}{Ab:Aa2}{σ:St}{H:Hp}{s:Shared}
noncomputable abbrev lamO (X:Cx)(q:Str)(params:B95)(body:Expr)(scope:Scope)(cc:Addr)(ctv:Value):Obj:=
 {cls:=.type "function",data:=.func (S0 "<lambda>" q params body scope (qH9 X.env scope.names []) ((X.mg "__name__").getD .none) (.ref cc) ctv)}
theorem qeR {a:B95} {body:Expr} {d:Scope} {pos:Pos} {c P:Addr} {q:Str} {Q:Aa1} 
  (I:Inv X Ab σ H s) (hb:BM X.mg X.base) (i:X.env.code=.ref c) (C:PySem.W.CodeHd X.base c P) (hP:H P=some (.tbl (.tab q))) (hq:X.env.qual ++ "<lambda>" = q)
  (a9:∀x,(x,L0)∈d.names->∃c,X.env.cells.lookup x=some c) (a7:defaultsOf a X.env=([],[]))
  (h:∀ (f cc:Addr) (ctv:Value) (s':Shared) (H':Hp),Inv X Ab σ H' s'->(∀ b o,H b=some o->H' b=some o)->H' cc=some (.tbl (.cod q))->
   s'.heap.get? f=some (lamO X q a body d cc ctv)->s.heap.objs.size<=f->H' f=none->Q (.ref f) s'):
  wpAny (model X.prog X.w) X.A (eval (.Lambda a body d pos) X.env) Q E s:=by
 obtain⟨a2,a8,tr,a4⟩:=(show ObjOk X.prog X.w H s.heap P (.tbl (.tab q)) from I.hok P _ hP);have hg:s.heap.Ns B74 X.mg:=I.ok.mod.glob.keeps I.bk;have nP:∀b o,X.base.get? b=some o->b≠P:=λb o e z=>by
  have:=(I.bs b o e).2;rw[z,hP] at this;cases this
 have ac:B74≠P:=by
  obtain⟨o,es,ep,e,_⟩:=I.ok.mod.glob;exact nP _ _ e
 have a3:s.heap.BuiltinsAt X.mg P:=by
  obtain⟨bm,ob,b1,b2,b3,b4,b5,b6⟩:=hb;refine⟨bm,ob,b1,b2,?_,nP _ _ b3,I.bk _ _ b3,b4,b5,b6⟩;rintro rfl;obtain⟨o,es,ep,e,hd,_⟩:=I.ok.mod.glob;rw[e] at b3;cases b3;rw[hd] at b6;cases b6
 refine PySem.W.kla_eval a7 ?_;rw[hq];cases hca:codeAmong pos a2.toList with
 |some cv=>
  obtain⟨cc,rfl,ae⟩:=a4 pos cv hca;refine PySem.W.kla_makeFunctionHit (qHY a9) I.ok.glob hg i (C.keeps I.bk) a8 tr hca a3 λctv h' tk hk a1=>?_;exact h h'.objs.size cc ctv _ H (I.kept (t':=tk) λb u e=>A3 _ (hk b u e)) (λ_ _ z=>z) ae (B3 _ rfl) a1 (I.hok.fresh a1)
 |none=>
  refine PySem.W.kla_makeFunction (qHY a9) I.ok.glob hg i (C.keeps I.bk) a8 tr hca ac a3 λl ctv h' tk hx a6 ab a5 aa=>?_;have ad:H l=none:=I.hok.fresh a6;have j:∀b o,H b=some o->(Ag H l (.tbl (.cod q))) b=some o:=λb o e=>by rw[qA7 (qA5 e ad)];exact e
  have k:∀b,H b=none->b≠P:=λb n z=>by rw[z,hP] at n;cases n
  have I':Inv X Ab σ (Ag H l (.tbl (.cod q))) {s with heap:=h'.push (lamO X q a body d l ctv),toks:=tk}:=by
   refine I.step (g':=s.gens) (d':=s.drawn) (ch:=[]) (λ_ z=>nomatch z) (λb o _ _ _ e n=>A3 _ (hx b o (k b n) e)) (λb o _ _ _ e n=>⟨o.slots,A3 _ (hx b o (k b n) e)⟩)
    (λb o _ e n=>by rw[qA7 (C4 (D7 (B4 e) a6))];exact n) (λb o _ e=>?_) (λb xs e=>j _ _ e) (λb o u e=>j _ _ e) (λb t e=>j _ _ e) (λm hm=>(hm.extBut hx (k _ I.free)).push _) (λb u e=>?_) I.bare
   ·by_cases g:b=P
    ·exact⟨_,A3 _ (g▸aa)⟩
    ·exact⟨o,A3 _ (hx b o g e)⟩
   ·by_cases a0:b=l
    ·subst a0;rw[qA1] at e;cases e;obtain⟨c₂,oc,vs,t,e2,af,r⟩:=a5;cases e2;exact⟨b,oc,vs,t,rfl,A3 _ af,r⟩
    ·rw[qA7 a0] at e;by_cases g:b=P
     ·subst g;rw[hP] at e;cases e;refine⟨_,A3 _ aa,?_,λy cv z=>?_⟩
      ·rw[A75];exact TriplesOk_snoc _ _ _ _ tr
      ·rw[A75] at z;rcases qXY tr z with z|z
       ·obtain⟨p,e1,e2⟩:=a4 y cv z;exact⟨p,e1,j _ _ e2⟩
       ·exact⟨l,z,qA1⟩
     ·refine(I.hok b u e).stay (λp v ag z=>A3 _ (hx p v ?_ z)) (λp z=>j _ _ z) (λp xs z=>j _ _ z) λp t z=>j _ _ z;rcases ag with z|z
      ·rw[z];exact g
      ·intro z2;rw[z2,hP] at z;cases z
  exact h h'.objs.size l ctv _ _ I' j qA1 (B3 _ rfl) (by lia) (by rw[qA7 (O3 ab)];exact I.hok.fresh (by lia))
structure LmScope (X:Cx)(scope:Scope)(p:Str)(fv:List Nat):Prop where
 kind:scope.kind=.function
 co:scope.isCoroutine=false
 gen:scope.isGenerator=false
 nocell:∀y∈scope.names,y.2≠.cell
 par:scope.names.lookup p=some .local
 free:∀y∈scope.names,y.2=.free->X.env.kindOf y.1=some .cell\/X.env.kindOf y.1=some .free
 fvs:∀i∈fv,i<X.N.length/\scope.names.lookup (X.N.getD i T6)=some .free
structure LmZ where
 A:Around
 f:Addr
 cd:Value
 s₀:Shared
 H₀:Hp
 rm:Room 0 A
noncomputable abbrev lmEnv (X:Cx)(scope:Scope)(q:Str)(z:LmZ):Env:=PySem.W.envX q scope z.s₀.heap.objs.size z.f z.cd (qH9 X.env scope.names [])
noncomputable def lmCx (X:Cx)(scope:Scope)(p:Str)(fv:List Nat)(q:Str)(z:LmZ):Cx where
 prog:=X.prog
 w:=X.w
 K:=X.K
 mg:=X.mg
 base:=X.base
 A:=z.A.deeper (lmEnv X scope q z)
 N:=p::fv.map λi=>X.N.getD i T6
 s₀:=z.s₀
 H₀:=z.H₀
 env:=lmEnv X scope q z
 outer:=X.stack
 stack:=lmEnv X scope q z::X.stack
 ex:=[]
 fn:=λ_=>false
 calm:=true
 pn:=[]
 xe:=noX
theorem LmScope.fr {a:Scope} {p:Str} {fv:List Nat} (S:LmScope X a p fv)(I:Inv X Ab σ H s):∀x,(x,L0)∈a.names->∃c,X.env.cells.lookup x=some c:=λx b=>I.ok.has x (S.free _ b rfl)
theorem qg1 {a:Scope} {p:Str} {fv:List Nat} {q:Str} {A:Around} {f:Addr} {cd:Value} (g:Room 0 A)(I:Inv X Ab σ H s)(S:LmScope X a p fv)(l:A.frames=some X.stack):
  (lmCx X a p fv q ⟨A,f,cd,s,H,g⟩).Ok:=by
 have h:=S.fr I;have e:=qFU (env:=X.env) (names:=a.names) (acc:=[]) h (λx c z=>by simp at z)
 have d:∀b:Addr,b∉(lmCx X a p fv q ⟨A,f,cd,s,H,g⟩).ex:=λb z=>absurd (show b∈([]:List Addr) from z) (by simp)
 refine⟨I.ok.mod,S.kind,rfl,rfl,A7 _,λx y c m n=>I.ok.inj x y c (e _ _ m) (e _ _ n),λx j=>?_,λx c j=>(nomatch j),λ_=>g.hd,A49 l,.inr ⟨rfl,rfl⟩,λb z=>absurd z (d b),I.bs,F3 I.ok.bsz I.sz,λb _ _=>d b,λb z=>absurd z (d b),I.stack,I.stkFree⟩;have k:a.names.lookup x=some .cell\/a.names.lookup x=some .free:=j;rcases k with z|z
 ·exact absurd rfl (S.nocell _ (K9 z))
 ·exact qFV (.inl (K9 z))
noncomputable def qGH (fv:List Nat)(σ:St)(x:V):St:=some x::fv.map λi=>(σ[i]?).join
theorem qZE {a:Scope} {p:Str} {fv:List Nat} {q:Str} {A:Around} {f:Addr} {cd:Value} {x:V} {u:Value} {h₁:Heap} {tk:Nat} (rm:Room 0 A)(I:Inv X Ab σ H s)(S:LmScope X a p fv)(hA:A.frames=some X.stack)(hx:RelV x u)
  (a2:h₁.Ns s.heap.objs.size (λy=>[(p,u)].reverse.lookup y)) (r:∀b o,s.heap.get? b=some o->h₁.get? b=some o):
  Inv (lmCx X a p fv q ⟨A,f,cd,s,H,rm⟩) [] (qGH fv σ x) H {s with heap:=h₁,toks:=tk}:=by
 have a0:=S.fr I;have k:=qFU (env:=X.env) (names:=a.names) (acc:=[]) a0 (λx c z=>by simp at z)
 refine⟨qg1 rm I S hA,rfl,I.bare,Un.kept r,⟨_,a2,λi y v d g h3=>?_⟩,λy c e=>?_,I.hok.fresh (A7 _),λy c e=>I.freeC y c (k _ _ e),λp hp=>absurd (show p∈([]:Aa2) from hp) (by simp),I.hok.kept r,?_⟩
 ·have d:(p::fv.map λi=>X.N.getD i T6)[i]?=some y:=d;unfold qGH at g;cases i with
  |zero=>
   cases d;cases g;refine⟨u,hx,.inl ⟨S.par,?_⟩⟩;simp
  |succ i=>
   rw[c9,C5] at d g;cases e:fv[i]? with
   |none=>rw[e] at d;cases d
   |some j=>
    rw[e] at d g;have hj:=S.fvs j (B0 e);have d:X.N.getD j T6=y:=D1 d;have g:(σ[j]?).join=some v:=D1 g;have a1:σ[j]?=some (some v):=by
     cases q:σ[j]? with
     |none=>rw[q] at g;cases g
     |some y=>rw[q] at g;exact congrArg some g
    have t:X.N[j]?=some y:=by
     rw[R4] at d;rw[A4 hj.1] at d ⊢;exact congrArg some d
    have l:a.names.lookup y=some .free:=d ▸ hj.2;have h:=K9 l;obtain ⟨m,hn,hl⟩:=id I.loc;have n:=S.free _ h rfl;obtain ⟨u,ru,lk⟩:=hl j y v t a1 (by
     rcases n with z|z
     ·exact .inr (.inl z)
     ·exact .inr (.inr z))
    refine⟨u,ru,?_⟩;rcases lk with⟨z,_⟩|⟨_,c,e1,z⟩
    ·rcases n with y'|y'
     ·have y':X.env.kindOf y=some .cell:=y';rw[z] at y';cases y'
     ·have y':X.env.kindOf y=some .free:=y';rw[z] at y';cases y'
    ·obtain⟨c',e2⟩:=qFV (env:=X.env) (names:=a.names) (acc:=[]) (x:=y) (.inl h);have e3:=k _ _ e2;rw[e1] at e3;cases e3;obtain⟨o,w,hd⟩:=z;exact .inr ⟨.inr l,c,e2,o,r _ _ w,hd⟩
 ·obtain⟨v,o,w,hd⟩:=I.cell y c (k _ _ e);exact⟨v,o,r _ _ w,hd⟩
 ·unfold qGH;show _=(p::fv.map λi=>X.N.getD i T6).length;simp
theorem qSA {c:B95} {body:Expr} {a:Scope} {p:Str} {fv:List Nat} {q:Str} {A:Around} {f g:Addr} {m u:Value} {x:V} {te:TE} {Q:VK} (n:Room 0 A)(I:Inv X Ab σ H s)(S:LmScope X a p fv)(hA:A.frames=some X.stack)
  (hf:s.heap.get? f=some (lamO X q c body a g m)) (l:H g=some (.tbl (.cod q))) (hx:RelV x u)
  (d:∀(cl:List (Str×Addr)) (pm cd ct u:Value),C04 (S0 "<lambda>" q c body a cl pm cd ct) ⟨[u],[]⟩=pure [(p,u)])
  (he:∀z,PE (lmCx X a p fv q z) body te) (h:te (qGH fv σ x) H Q):
  B86 (model X.prog X.w) A (.call (.ref f) ⟨[u],[]⟩) (λr s'=>∃v y H',r=.ok (.ret v)/\Inv X Ab σ H' s'/\RelV y v/\Q y H'/\Un (frs X.stack) [] H H' s.heap s'.heap) s:=by
 have j:s.heap.CodeRec (.ref g) q:=(show ObjOk X.prog X.w H s.heap g (.tbl (.cod q)) from I.hok g _ l);refine PySem.W.kla_callFunE n.depth hf rfl S.co S.gen rfl j ?_;rw[d];refine B61 (wpAny_newFunctionEnv S.nocell (λy hy=>?_) (λh₁ t i=>⟨I.nolimit.fresh _ i,?_⟩) S.kind)
 ·rw[A6.mp hy];exact S.par
 have k:∀b o,s.heap.get? b=some o->h₁.get? b=some o:=λb o e=>i.extBut b o (C4 (B4 e)) (A3 _ e);refine PySem.W.kla_codeExpr ?_;have J:=qZE (q:=q) (f:=f) (cd:=.ref g) (tk:=s.toks+[(p,u)].length) n I S hA hx t k;refine B69 ((he ⟨A,f,.ref g,s,H,n⟩) [] _ _ H Q J h) (λv s' ⟨y,H',J',ry,qy⟩=>?_) λ_ _ z=>z.elim;exact⟨v,y,H',rfl,I.call' (ch:=[]) J'.os J'.base J'.hok J'.bare (λb hb=>absurd hb (by simp)),ry,qy,J'.base⟩
end
abbrev Sm0 (H H':Hp):Prop:=∀b o,H b=some o->H' b=some o
noncomputable def LamF (X:Cx)(q:Str)(params:B95)(body:Expr)(scope:Scope)(cc:Addr)(ctv:Value)(f:Addr):HO:=.ext λh=>h.get? f=some (lamO X q params body scope cc ctv)
def tLam (X:Cx)(P:Addr)(q:Str)(params:B95)(body:Expr)(scope:Scope):TE:=λσ H Q=>H P=some (.tbl (.tab q))/\
 ∀f cc ctv H',Sm0 H H'->H f=none->H' f=some (LamF X q params body scope cc ctv f)->H' cc=some (.tbl (.cod q))->Q (.ref f) H'
theorem qaM {a:B95} {body:Expr} {d:Scope} {pos:Pos} {c P:Addr} {q:Str} {p:Str} {fv:List Nat} (hb:BM X.mg X.base) (i:X.env.code=.ref c) (C:PySem.W.CodeHd X.base c P) (hq:X.env.qual ++ "<lambda>" = q)
  (S:LmScope X d p fv) (m:defaultsOf a X.env=([],[])):PE X (.Lambda a body d pos) (tLam X P q a body d):=by
 intro Ab s σ H Q I ⟨hP,h⟩;refine qeR I hb i C hP hq (S.fr I) m λf u n s' H' I' sm j y g w=>?_;have l:H f=none:=I.hok.fresh g;have t:u≠f:=qA5 j w
 -- f is tracked from now on
 have hF:X.s₀.heap.objs.size<=f:=F3 I.sz g;have I2:Inv X Ab σ (Ag H' f (LamF X q a body d u n f)) s':=by
  refine I'.track w hF (O3 (D7 I.lt g)) (λx c e z=>?_) (λp hp z=>?_) ⟨y,⟨_,y⟩,λh1 h2 x k=>k _ x⟩
  ·obtain⟨v,hc⟩:=I.cell x c e;exact absurd (D7 hc.lt (by rw[z];exact g)) (T9 _)
  ·exact absurd (D7 (B4 (I.pin p hp).1) (by rw[z];exact g)) (T9 _)
 refine⟨.ref f,_,I2,rfl,h f u n _ (λb o e=>?_) l qA1 (by rw[qA7 t];exact j)⟩
 rw[qA7 (qA5 e l)];exact sm b o e
noncomputable def qF7 {α:Type}:α×List Int->List (α×List Int)->α
 |b,[]=>b.1
 |b,x::r=>if HT.lexLt x.2 b.2=true then qF7 x r else qF7 b r
structure KCmp (X:Cx)(KR:Hp->V->List Int->Prop):Prop where
 mono:∀H H' y k,Sm0 H H'->KR H y k->KR H' y k
 cmp:∀(Ab:Aa2) (σ:St) (s:Shared) (H:Hp) (y y':V) (u u':Value) (k k':List Int) (Q:Aa1) (E:Aa1),Inv X Ab σ H s->RelV y u->RelV y' u'->KR H y k->KR H y' k'->Q (.bool (HT.lexLt k k')) s->
  wpAny (model X.prog X.w) X.A.in1 (C37 .Lt u u') Q E s
theorem Inv.fpStk {Ab:Aa2} {σ:St} {H:Hp} {b:Addr} (I:Inv X Ab σ H s)(f:FpOk X Ab H b):b∉frs X.stack:=λz=>by
 rcases B1.mp (I.stkSub b z) with e|e
 ·exact f.2.1 e
 ·exact f.2.2.1 e
theorem FpOk.to {Ab:Aa2} {H H':Hp} {b:Addr} (f:FpOk X Ab H b)(h:H' b=none):FpOk X Ab H' b:=⟨h,f.2⟩
structure KeyAt (X:Cx)(σ:St)(fv:List Nat)(te:TE)(KR:Hp->V->List Int->Prop)(H0:Hp)(xs:List V)(ks:Aa0):Prop where
 len:ks.length=xs.length
 key:∀(i:Nat) (x:V) (k:List Int),xs[i]?=some x->ks[i]?=some k->∀Hc,Sm0 H0 Hc->te (qGH fv σ x) Hc λy H'=>Sm0 Hc H'/\KR H' y k
section
variable{Ab:Aa2}{σ:St}{params:B95}{body:Expr}{scope:Scope}{p:Str}{fv:List Nat}{q:Str}{te:TE}{KR:Hp->V->List Int->Prop}{l f cc:Addr}{ctv:Value}{H0:Hp}{xs:List V}{ks:Aa0}{Q:VK}
theorem qWC {H:Hp} {b S:Addr} {i:Nat} {x:V} {k:List Int} {u:Value} (rm:Room 1 X.A) (hA:X.A.in1.frames=some X.stack) (S':LmScope X scope p fv) (a:∀(cl:List (Str×Addr)) (pm cd ct u:Value),C04 (S0 "<lambda>" q params body scope cl pm cd ct) ⟨[u],[]⟩=pure [(p,u)])
  (he:∀z,PE (lmCx X scope p fv q z) body te) (KA:KeyAt X σ fv te KR H0 xs ks) (hf:H0 f=some (LamF X q params body scope cc ctv f)) (m:H0 cc=some (.tbl (.cod q)))
  (I:Inv X Ab σ H s) (l:Sm0 H0 H) (hx:xs[i]?=some x) (hk:ks[i]?=some k) (rx:RelV x u) (d:FpOk X Ab H b) (c:FpOk X Ab H S) {g j:Obj} (o:s.heap.get? b=some g) (n:s.heap.get? S=some j) {Q':Aa1} {E:Aa1}
  (h:∀v y H' s',Inv X Ab σ H' s'->Sm0 H H'->RelV y v->KR H' y k->FpOk X Ab H' b->FpOk X Ab H' S->s'.heap.get? b=some g->s'.heap.get? S=some j->Q' v s'):wpAny (model X.prog X.w) X.A.in1 (call (.ref f) [u]) Q' E s:=by
 have t:s.heap.get? f=some (lamO X q params body scope cc ctv):=(show ObjOk X.prog X.w H s.heap f (LamF X q params body scope cc ctv f) from I.hok f _ (l _ _ hf)).1;refine C06 (B81 (qSA rm.in1 I S' hA t (l _ _ m) rx a he (KA.key i x k hx hk H l)) λr s' ⟨v,y,H',e,I',ry,⟨sm',kr⟩,un⟩=>?_);subst e;exact h v y H' s' I' sm' ry kr (d.to (un.free b g o d.1 (by simp))) (c.to (un.free S j n c.1 (by simp))) (un.keep b g o d.1 (I.fpStk d) (by simp)) (un.keep S j n c.1 (I.fpStk c) (by simp))
theorem qTI {it S:Addr} {kw:List (Str×Value)} (hc:X.calm=true) (rm:Room 1 X.A) (hA:X.A.in1.frames=some X.stack) (S':LmScope X scope p fv) (a0:∀(cl:List (Str×Addr)) (pm cd ct u:Value),C04 (S0 "<lambda>" q params body scope cl pm cd ct) ⟨[u],[]⟩=pure [(p,u)])
  (he:∀z,PE (lmCx X scope p fv q z) body te) (KC:KCmp X KR) (KA:KeyAt X σ fv te KR H0 xs ks) (hf:H0 f=some (LamF X q params body scope cc ctv f)) (ah:H0 cc=some (.tbl (.cod q))) (hl:SqL X.K H0 l xs) (a5:it≠S)
  (h:∀H',Sm0 H0 H'->SqL X.K H' l xs):
  ∀(k j:Nat) (s:Shared) (H:Hp) (bx y:V) (bk:List Int) (bu bv:Value) (c:Nat),xs.length-j=k->j<=xs.length->Inv X Ab σ H s->Sm0 H0 H->FpOk X Ab H it->FpOk X Ab H S->s.heap.IsListIter it l j->
   s.heap.get? S=some {cls:=.type "list",dict:=none,data:=.seq #[bu,bv] c,slots:=#[]}->RelV bx bu->RelV y bv->KR H y bk->(∀H',Sm0 H0 H'->Q (qF7 (bx,bk) ((xs.zip ks).drop j)) H')->
   B86 (model X.prog X.w) X.A (.builtin "min.loop" ⟨[.ref it,.ref f,.ref S],kw⟩) (λr s'=>∃v,r=.ok (.ret v)/\EP X Ab σ Q v s') s:=by
 have i:(toString "min" ++ toString ".loop" : String) = "min.loop":=by decide
 intro k
 induction k with
 |zero=>
  intro j s H bx y bk bu bv c hk hj I sm g t a2 hS rb ry kb n;obtain⟨ad,rv,pl,hz⟩:=I.list (h H sm);have aj:=rv.length;refine B71 d5 ?_;rw[E4 O8 _];show wpAny _ X.A.in1 (seqItems? (.ref S) >>= _) _ _ s;refine B60 (B82 hS rfl ?_);show wpAny _ X.A.in1 (tryCatch (pyNext (.ref it)) _ >>= _) _ _ s;refine B60 (B75 (C43 (rm.in1.hd) a2 pl.isList (by simp;lia) λh' eb=>?_))
  have I1:Inv X Ab σ H {s with heap:=h'}:=I.turned (t':=s.toks) (λb o m e=>eb b o m e) g.1 g.2.1 g.2.2.2.1 g.2.2.2.2.1 g.2.2.2.2.2;have ai:=eb S _ (F6 a5) hS;show wpAny _ X.A.in1 (updateSeq S (λ_=>#[]) >>= _) _ _ _;refine B60 (B92 ai rfl (B60 (B88 (B61 ?_))));have I2:Inv X Ab σ H {s with heap:=h'.update S (G5 λ_=>(#[]:Array Value))}:=I1.turned (t':=s.toks) (λb o m e=>(C0 _ _ (F6 m)).trans e) t.1 t.2.1 t.2.2.2.1 t.2.2.2.2.1 t.2.2.2.2.2;have hq:=n H sm;rw[R5 (by rw[o8,KA.len];lia)] at hq
  exact⟨_,rfl,bx,H,I2,rb,hq⟩
 |succ k ih=>
  intro j s H bx y bk bu bv c hk hj I sm g t a2 hS rb ry kb n;have d:j<xs.length:=by lia
  obtain⟨ad,rv,pl,hz⟩:=I.list (h H sm);have a3:=A4 d;have a6:=A4 (show j<ks.length by rw[KA.len];exact d)
  have ez:(xs.zip ks).drop j=(xs[j],ks[j]'(by rw[KA.len];exact d))::(xs.zip ks).drop (j+1):=by
   rw[P6 (by rw[o8,KA.len];lia),List.getElem_zip]
  rw[ez] at n;generalize xs[j]=x at a3 n;generalize ks[j]'(by rw[KA.len];exact d)=kx at a6 n
  obtain⟨u,hu,ru⟩:=rv.get a3;refine B71 d5 ?_;rw[E4 O8 _];show wpAny _ X.A.in1 (seqItems? (.ref S) >>= _) _ _ s;refine B60 (B82 hS rfl ?_);show wpAny _ X.A.in1 (tryCatch (pyNext (.ref it)) _ >>= _) _ _ s;refine B60 (B75 (C35 a2 pl.isList (x:=u) (by simpa using hu) λh' ae sb=>?_))
  have I1:Inv X Ab σ H {s with heap:=h'}:=I.turned (t':=s.toks) (λb o m e=>(sb.2 b m).trans e) g.1 g.2.1 g.2.2.2.1 g.2.2.2.2.1 g.2.2.2.2.2;have ag:=(sb.2 S (F6 a5)).trans hS;obtain⟨oi,af,a8,ab⟩:=id ae;show wpAny _ X.A.in1 (tryCatch (B97 [u] (call (.ref f) [u])) _ >>= _) _ _ _;refine B60 (B75 (B65 (qWC rm hA S' a0 he KA hf ah I1 sm a3 a6 ru g t af ag λv y2 H2 s2 I2 a1 r2 k2 aa a ac a4=>?_)));have a7:s2.heap.IsListIter it l (j+1):=⟨oi,ac,a8,ab⟩;show wpAny _ X.A.in1 (tryCatch (B97 [u,v] (C37 .Lt v bv >>= _)) _ >>= _) _ _ _;refine B60 (B75 (B65 (B60 (KC.cmp Ab σ s2 H2 y2 y v bv kx bk _ _ I2 r2 ry k2 (KC.mono _ _ _ _ a1 kb) ?_))));refine B60 (B65 (B79 (B60 (B88 (B61 ?_)))));have a9:Sm0 H0 H2:=λb o e=>a1 b o (sm b o e);cases m:HT.lexLt kx bk with
  |true=>
   rw[if_pos rfl];have et:qF7 (bx,bk) ((x,kx)::(xs.zip ks).drop (j+1))=qF7 (x,kx) ((xs.zip ks).drop (j+1)):=by show(if HT.lexLt kx bk=true then _ else _)=_;rw[m];rfl
   rw[et] at n;refine B60 (B92 a4 rfl (B60 (B88 ?_)));rw[i];have I3:Inv X Ab σ H2 {s2 with heap:=s2.heap.update S (G5 λ_=>#[u,v])}:=I2.turned (t':=s2.toks) (λb o m e=>(C0 _ _ (F6 m)).trans e) a.1 a.2.1 a.2.2.2.1 a.2.2.2.2.1 a.2.2.2.2.2;exact B61 ⟨B76 O8 _,ih (j+1) _ H2 x y2 kx u v _ (by lia) d I3 a9 aa a ⟨oi,(C0 _ _ (F6 a5)).trans ac,a8,ab⟩ (E7 _ a4 rfl) ru r2 k2 n⟩
  |false=>
   rw[if_neg C3];have et:qF7 (bx,bk) ((x,kx)::(xs.zip ks).drop (j+1))=qF7 (bx,bk) ((xs.zip ks).drop (j+1)):=by show(if HT.lexLt kx bk=true then _ else _)=_;rw[m];rfl
   rw[et] at n;refine B60 (B88 ?_);rw[i];exact B61 ⟨B76 O8 _,ih (j+1) s2 H2 bx y bk bu bv c (by lia) d I2 a9 aa a a7 a4 rb ry (KC.mono _ _ _ _ a1 kb) n⟩
noncomputable def qe2 (dv:Option V):List (V×List Int)->Option V
 |[]=>dv
 |b::r=>some (qF7 b r)
theorem qQH {H:Hp} {kw:List (Str×Value)} (hc:X.calm=true) (rm:Room 1 X.A) (hA:X.A.in1.frames=some X.stack) (S':LmScope X scope p fv) (g:∀(cl:List (Str×Addr)) (pm cd ct u:Value),C04 (S0 "<lambda>" q params body scope cl pm cd ct) ⟨[u],[]⟩=pure [(p,u)])
  (he:∀z,PE (lmCx X scope p fv q z) body te) (KC:KCmp X KR) (KA:KeyAt X σ fv te KR H xs ks) (hf:H f=some (LamF X q params body scope cc ctv f)) (a2:H cc=some (.tbl (.cod q))) (hl:SqL X.K H l xs)
  (t:∀H',Sm0 H H'->SqL X.K H' l xs) (I:Inv X Ab σ H s)
  (ok:argsOk "min" ⟨[.ref l],kw⟩) (df:Option Value) (y:M8 "min" ["key","default"] 0 ⟨[],kw⟩=pure [some (.ref f),df]) (dv:Option V) (a8:df=none/\dv=none\/∃d u,df=some u/\dv=some d/\RelV d u)
  (m:V) (em:qe2 dv (xs.zip ks)=some m) (hQ:∀H',Sm0 H H'->Q m H'):wpAny (model X.prog X.w) X.A (call (.builtin "min") [.ref l] kw) (EP X Ab σ Q) X.xe s:=by
 obtain⟨ad,rv,pl,hz⟩:=I.list hl;have a0:=pl.isList;have ae:l<s.heap.objs.size:=by obtain⟨_,e,_⟩:=a0;exact B4 e
 have j:(toString "min" ++ toString ".loop" : String) = "min.loop":=by decide
 refine qFW PySem.F.kind_min PySem.F.plain_min PySem.F.entry_min ok ?_;show wpAny _ _ (M8 "min" ["key","default"] 0 ⟨[],kw⟩ >>= _) _ _ s;refine B60 (C00 y ?_);refine B60 (B61 ?_);refine B60 (B84 a0 ?_);refine B60 (B67 ?_);rw[j];refine B61 ⟨_,rfl,B76 O8 _,?_⟩;have hS:(s.heap.push {cls:=.type "list_iterator",data:=.fields #[.ref l,.int 0 0]}).objs.size=s.heap.objs.size+1:=G9 ..;have I0:Inv X Ab σ H {s with heap:=(s.heap.push {cls:=.type "list_iterator",data:=.fields #[.ref l,.int 0 0]}).push {cls:=.type "list",data:=.seq #[]}}:=I.kept (t':=s.toks) λb o e=>A3 _ (A3 _ e);have c:FpOk X Ab H s.heap.objs.size:=I.fpOk (A7 _) (I.hok.fresh (A7 _));have fS:FpOk X Ab H (s.heap.push {cls:=.type "list_iterator",data:=.fields #[.ref l,.int 0 0]}).objs.size:=by rw[hS];exact I.fpOk (T5 _) (I.hok.fresh (T5 _))
 have n:s.heap.objs.size≠(s.heap.push {cls:=.type "list_iterator",data:=.fields #[.ref l,.int 0 0]}).objs.size:=by rw[hS];exact(Z3 _).symm
 have gi:((s.heap.push {cls:=.type "list_iterator",data:=.fields #[.ref l,.int 0 0]}).push {cls:=.type "list",data:=.seq #[]}).get? s.heap.objs.size=some {cls:=.type "list_iterator",data:=.fields #[.ref l,.int 0 0]}:=A3 _ (B3 _ rfl);have gS:((s.heap.push {cls:=.type "list_iterator",data:=.fields #[.ref l,.int 0 0]}).push {cls:=.type "list",data:=.seq #[]}).get? (s.heap.push {cls:=.type "list_iterator",data:=.fields #[.ref l,.int 0 0]}).objs.size=some {cls:=.type "list",data:=.seq #[]}:=B3 _ rfl;have h:=(a0.push {cls:=.type "list_iterator",data:=.fields #[.ref l,.int 0 0]}).push {cls:=.type "list",data:=.seq #[]};generalize (s.heap.push {cls:=.type "list_iterator",data:=.fields #[.ref l,.int 0 0]}).push {cls:=.type "list",data:=.seq #[]}=h0 at I0 gi gS h;generalize (s.heap.push {cls:=.type "list_iterator",data:=.fields #[.ref l,.int 0 0]}).objs.size=S at fS n gS ⊢;generalize s.heap.objs.size=it at c n gi ⊢;refine B71 d5 ?_;rw[E4 O8 _];show wpAny _ X.A.in1 (seqItems? (.ref S) >>= _) _ _ _;refine B60 (B82 gS rfl ?_);show wpAny _ X.A.in1 (tryCatch (pyNext (.ref it)) _ >>= _) _ _ _;have a1:h0.IsListIter it l 0:=⟨_,gi,rfl,rfl⟩;cases xs with
 |nil=>
  have ek:ks=[]:=O1.mp KA.len;subst ek;have r:dv=some m:=em;cases rv;refine B60 (B75 (C43 (s:={s with heap:=h0}) (rm.in1.hd) a1 h (by simp) λh' eb=>?_))
  rcases a8 with⟨_,e2⟩|⟨d,u,rfl,e3,rd⟩
  ·rw[e2] at r;cases r
  ·rw[e3] at r;cases r;show wpAny _ X.A.in1 (rule _ >>= λ_=>ret u) _ _ _;have I1:Inv X Ab σ H {s with heap:=h'}:=I0.turned (t':=s.toks) (λb o y e=>eb b o y e) c.1 c.2.1 c.2.2.2.1 c.2.2.2.2.1 c.2.2.2.2.2;exact B60 (C01 (B61 ⟨u,rfl,_,H,I1,rd,hQ H λ_ _ z=>z⟩))
 |cons x xs=>
  cases ks with
  |nil=>have:=KA.len;simp at this
  |cons k ks=>
   cases em;obtain⟨u,hu,ru⟩:=rv.get (i:=0) rfl;refine B60 (B75 (C35 (s:={s with heap:=h0}) a1 h (x:=u) (by simpa using hu) λh' a4 sb=>?_))
   have I1:Inv X Ab σ H {s with heap:=h'}:=I0.turned (t':=s.toks) (λb o y e=>(sb.2 b y).trans e) c.1 c.2.1 c.2.2.2.1 c.2.2.2.2.1 c.2.2.2.2.2;have a9:=(sb.2 S (F6 n)).trans gS;obtain⟨oi,a5,a6,ab⟩:=id a4;show wpAny _ X.A.in1 (tryCatch (B97 [u] (call (.ref f) [u])) _ >>= _) _ _ _;refine B60 (B75 (B65 (qWC rm hA S' g he KA hf a2 I1 (λ_ _ z=>z) (i:=0) rfl rfl ru c fS a5 a9 λv y2 H2 s2 I2 a7 r2 k2 aa a ac a3=>?_)));show wpAny _ X.A.in1 (updateSeq S (λ_=>#[u,v]) >>= _) _ _ _;refine B60 (B92 a3 rfl ?_);rw[j];have I3:Inv X Ab σ H2 {s2 with heap:=s2.heap.update S (G5 λ_=>#[u,v])}:=I2.turned (t':=s2.toks) (λb o y e=>(C0 _ _ (F6 y)).trans e) a.1 a.2.1 a.2.2.2.1 a.2.2.2.2.1 a.2.2.2.2.2;exact B61 ⟨B76 O8 _,qTI hc rm hA S' g he KC KA hf a2 hl n t _ 1 _ H2 x y2 k u v _ rfl (by simp) I3 a7 aa a ⟨oi,(C0 _ _ (F6 n)).trans ac,a6,ab⟩ (E7 _ a3 rfl) ru r2 k2 hQ⟩
end
def KR1 (H:Hp)(y:V)(k:List Int):Prop:=∃r,y=.ref r/\H r=some (.tup (k.map V.int))
noncomputable def hdIn (K:Ab1)(c P:Addr):Bool:=match K.lookup c with
 |some ⟨.type n,_,.fields vs,_⟩=>decide (n = "code")&&decide (c≠P)&&(match(vs[11]?:Option Value),vs.getD 11 .none with|some (.ref a),.ref b=>decide (a=P)&&decide (b=P)|_,_=>false) &&
   (match vs.getD 18 .none,vs.getD 7 .none,vs.getD 9 .none,vs.getD 10 .none with|.str _ _,.int _ _,.bool _,.int _ _=>true|_,_,_,_=>false)
 |_=>false
theorem qP4 {K:Ab1} {h:Heap} {c P:Addr} (X:K.In h)(d:hdIn K c P=true):PySem.W.CodeHd h c P:=by
 unfold hdIn at d
 split at d
 ·rename_i n dd vs sl hl
  rw[L4,L4,L4] at d;obtain⟨⟨⟨i,j⟩,e⟩,g⟩:=d
  split at e
  ·rename_i a b e1 e2
   rw[L4,decide_eq_true_eq,decide_eq_true_eq] at e;obtain⟨rfl,rfl⟩:=e
   split at g
   ·rename_i f t fl tg inF text tt g1 g2 g3 g4
    exact⟨_,vs,_,_,_,_,_,_,_,X _ _ hl,by rw[of_decide_eq_true i],rfl,e1,e2,g1,g2,g3,g4,of_decide_eq_true j⟩
   ·cases g
  ·cases e
 ·cases d
theorem Fun.okL {K:Ab1} {mg:Ab0} {base:Heap} {x a:Str} {st:Stmt} {f:Addr} {j:B77} {N ps:List Str} {k:Nat} {sp:Sp} {c:Addr} (F:Fun K x a st f j)(r:j.code=.ref c)(S:FnScope N ps (qA8 st))(g:∀vs H Q E,sp vs H Q E->vs.length=ps.length)
  (b:∀ (A:Around) (outer:List Env) (s:Shared) (H:Hp) (vs:List V) (Q:VK) (E:XK),Room k (A.deeper (envOfC a (qA8 st) s.heap.objs.size f (.ref c)))->sp vs H Q E->
   ∃t,PSs (cxOf CX0 P w K mg base N a (qA8 st) f (.ref c) A outer s H E).nox (qAZ st) t/\t {nx:=λ_ H'=>Q .non H',rt:=Q} (start N vs) H):FnOk P w K mg base CX0 (k+1) f j ps sp:=by
 obtain⟨oc,od,kV,o,pm,z,d,ct,n,rfl,v,m⟩:=F.ex;have e:d=.ref c:=r;subst e;refine qcM v m S g λA outer s H vs Q E u l=>?_;obtain⟨t,h,q⟩:=b A outer s H vs Q E u l;exact⟨t,h.nox,q⟩
noncomputable def qW3 (scope:Scope)(p:Str)(fv:List Nat)(osc:Scope)(N:List Str):Bool:=
 decide (scope.kind=.function)&&decide (scope.isCoroutine=false)&&decide (scope.isGenerator=false)&&scope.names.all (λy=>decide (y.2≠.cell))&&decide (scope.names.lookup p=some .local) &&
 scope.names.all (λy=>decide (y.2≠.free)||(decide (osc.names.lookup y.1=some .cell)||decide (osc.names.lookup y.1=some .free)))&&fv.all λi=>decide (i<N.length)&&decide (scope.names.lookup (N.getD i T6)=some .free)
theorem lms {X:Cx} {a:Scope} {p:Str} {fv:List Nat} (h:qW3 a p fv X.env.scope X.N=true):LmScope X a p fv:=by
 unfold qW3 at h;simp only[L4,decide_eq_true_eq,R3,b8] at h;obtain⟨⟨⟨⟨⟨⟨i,j⟩,g⟩,b⟩,d⟩,k⟩,f⟩:=h;refine⟨i,j,g,b,d,λy e c=>?_,f⟩;rcases k y e with z|z
 ·exact absurd c z
 ·exact z
structure LTab where
 x:Str
 c:Addr
 P:Addr
 q:Str
def qeX (tabs:List LTab)(H:Hp):Prop:=∀t∈tabs,H t.P=some (.tbl (.tab t.q))
noncomputable def entH (a:Addr)(o:Obj)(xs:List V)(ina:Bool)(tabs:List LTab):Hp:=λb=>if ina=true/\b=a then some (.frz o (.lst xs)) else(tabs.find? λt=>decide (t.P=b)).map λt=>.tbl (.tab t.q)
theorem qW6 {K:Ab1} {mg mb:Ab0} {k:Nat} {fa a:Addr} {fd:B77} {x:Str} {sp:Sp} {vs:List Value} {ns:List Int} (f:List LTab)
  (KX:K.In g.heap) (ag:g.heap.Ns B74 mg) (hb:g.heap.Ns C45 mb) (al:∀x:Str,x ≠ "__name__"->mb x=B72 x) (ae:g.heap.NoLimit) (hg:g.gens=#[])
  (ha:g.heap.get? a=some {cls:=.type "list",data:=.seq vs.toArray}) (hi:B68 vs ns) (hl:ns.length<=B62) (hr:Room k callerA) (ai:BM mg g.heap)
  (l:∀t∈f,PySem.W.CodeHd g.heap t.c t.P/\g.heap.get? t.P=some (B34 #[])) (hK:A61 K=true) (af:∀t∈f,∀t'∈f,t.P=t'.P->t.q=t'.q)
  (F:∀base:Heap,K.In base->base.Ns B74 mg->BM mg base->FnOk P w K mg base CX0 k fa fd [x] sp) (a7:∀(s:Shared) (u:Value),BindsTo s fd ⟨[u],[]⟩ [(x,u)])
  (ak:∀H:Hp,qeX f H->SqL K H a (ns.map V.int)->sp [.ref a] H (λv _=>v=.bl true) λ_ _ _=>False):
  B86 (model P w) callerA (.call (.ref fa) ⟨[.ref a],[]⟩) (λr s'=>r=.ok (.ret (.bool true))/\OldK g.heap s'.heap/\s'.os=g.os/\C29 s'.gens) g:=by
 have rv:=qJ4 hi;have ab:=hi.length;have aj:∀t∈f,t.P≠a:=λt i z=>by
  have:=(l t i).2;rw[z,ha] at this;cases this
 have am:∀t∈f,K.lookup t.P=none:=λt i=>by
  cases e:K.lookup t.P with
  |none=>rfl
  |some o=>
   have y:=KX _ _ e;rw[(l t i).2] at y;cases y;have h2:=R3.mp hK _ (PySem.W.mem_of_lookupK e);exact absurd (show false=true from h2) C3
 obtain⟨a1,a4⟩:∃a1:Bool,(a1=true↔K.lookup a=none):=by
  cases e:K.lookup a with
  |none=>exact⟨true,by simp⟩
  |some o=>exact⟨false,by simp⟩
 -- the heap's description
 let o0:Obj:={cls:=.type "list",data:=.seq vs.toArray}
 have a0:∀b u,entH a o0 (ns.map V.int) a1 f b=some u->(a1=true/\b=a/\u=.frz o0 (.lst (ns.map V.int)))\/∃t∈f,t.P=b/\u=.tbl (.tab t.q):=λb u e=>by
  unfold entH at e
  split at e
  ·rename_i c
   cases e;exact .inl ⟨c.1,c.2,rfl⟩
  ·cases y:f.find? (λt=>decide (t.P=b)) with
   |none=>rw[y] at e;cases e
   |some t=>
    rw[y] at e;cases e;exact .inr ⟨t,Z0 y,of_decide_eq_true (A39 (p:=λt:LTab=>decide (t.P=b)) y),rfl⟩
 have a8:∀t∈f,entH a o0 (ns.map V.int) a1 f t.P=some (.tbl (.tab t.q)):=λt i=>by
  unfold entH;rw[if_neg λz=>aj t i z.2];cases y:f.find? (λt'=>decide (t'.P=t.P)) with
  |none=>exact absurd (decide_eq_true (rfl:t.P=t.P)) (A82.mp y t i)
  |some t'=>
   have h1:=Z0 y;have h2:t'.P=t.P:=of_decide_eq_true (A39 (p:=λt':LTab=>decide (t'.P=t.P)) y);rw[T0,af t' h1 t i h2]
 generalize hH:entH a o0 (ns.map V.int) a1 f=H at a0 a8;have hS:SqL K H a (ns.map V.int):=by
  cases e:K.lookup a with
  |none=>
   refine .inl (.inr ⟨o0,?_⟩);rw[<- hH];unfold entH;rw[if_pos ⟨a4.mpr e,rfl⟩]
  |some o=>
   have y:=KX a o e;rw[ha] at y;cases y;exact .inr ⟨_,vs.toArray,_,e,rfl,rfl,rfl,by rw[B5,ab];exact hl,by simpa using rv⟩
 have ad:HOk P w H g.heap:=λb u e=>by
  rcases a0 b u e with⟨_,rfl,rfl⟩|⟨t,i,rfl,rfl⟩
  ·exact⟨ha,by rw[A0];exact hl,vs,_,rv,ha⟩
  ·exact⟨#[],(l t i).2,trivial,λan cv z=>by cases z⟩
 have j:∀{b:Addr} {o:Obj},g.heap.get? b=some o->H b=none->(hidT g.heap H).get? b=some o:=λe n=>qZS e n;have aa:∀{b:Addr} {o:Obj},g.heap.get? b=some o->(∀xs n,o.data≠.seq xs n)->(∀ps,o.data≠.fields ps)->H b=none:=λ{b o} e d1 d2=>by
  cases q:H b with
  |none=>rfl
  |some u=>
   rcases a0 b u q with⟨_,rfl,_⟩|⟨t,i,rfl,_⟩
   ·rw[ha] at e;cases e;exact absurd rfl (d1 _ _)
   ·rw[(l t i).2] at e;cases e;exact absurd rfl (d2 _)
 have a2:∀{b:Addr} {m:Ab0},g.heap.Ns b m->(hidT g.heap H).Ns b m:=λ{b m} ⟨o,es,ep,e,d,r⟩=>⟨o,es,ep,j e (aa e (λ_ _ z=>by rw[d] at z;cases z) λ_ z=>by rw[d] at z;cases z),d,r⟩
 have a9:K.In (hidT g.heap H):=fun b o e=>j (KX b o e) (by
  cases q:H b with
  |none=>rfl
  |some u=>
   rcases a0 b u q with⟨h1,rfl,_⟩|⟨t,i,rfl,_⟩
   ·rw[a4.mp h1] at e;cases e
   ·rw[am t i] at e;cases e)
 have ah:BM mg (hidT g.heap H):=by
  obtain⟨bm,ob,b1,b2,b3,b4,b5,b6⟩:=ai;exact⟨bm,ob,b1,b2,j b3 (aa b3 (λ_ _ z=>by rw[b6] at z;cases z) λ_ z=>by rw[b6] at z;cases z),b4,b5,b6⟩
 have hM:Mod K mg (hidT g.heap H):=⟨a9,a2 ag,⟨mb,a2 hb,al⟩,let⟨mc,h1,h2⟩:=ae;⟨mc,a2 h1,h2⟩⟩
 have e0:Env0 P w K mg (hidT g.heap H) callerA [] g H:=⟨rfl,hM,λb o e=>qc4 e,Nat.le_of_eq (qWM _ _),trivial,λb hb=>absurd (show b∈([]:List Addr) from hb) (by simp),ad,.of_eq hg⟩
 refine B81 ((F _ a9 (a2 ag) ah).run callerA [] g H ⟨[.ref a],[]⟩ [.ref a] [.ref a] _ _ hr e0 (a7 g (.ref a)) (.cons rfl .nil) (ak H a8 hS)) λr s' h=>?_;cases r with
 |error e=>exact P9 h
 |ok fl=>
  cases fl with
  |next=>exact P9 h
  |brk=>exact P9 h
  |cont=>exact P9 h
  |ret u=>
   obtain⟨v,H',os,ac,un,a6,r',q⟩:=h;have q':v=.bl true:=q;subst q';obtain rfl:u=n4 true:=r';have a3:∀b o,g.heap.get? b=some o->s'.heap.get? b=some o\/∃t∈f,t.P=b:=λb o e=>by
    cases q:H b with
    |none=>exact .inl (un.keep b o e q (by intro z;exact absurd (show b∈([]:List Addr) from z) (by simp)) (by simp))
    |some u=>
     rcases a0 b u q with⟨_,rfl,rfl⟩|⟨t,i,e1,_⟩
     ·have z2:=un.frzs b o0 _ q;obtain⟨e1,_⟩:=ad b _ q;obtain⟨y,_⟩:=a6 b _ z2;rw[e] at e1;cases e1;exact .inl y
     ·exact .inr ⟨t,i,e1⟩
   have a5:∀t∈f,∃more,s'.heap.get? t.P=some (B34 more):=λt i=>by
    obtain⟨more,e,_⟩:=(show ObjOk P w H' s'.heap t.P (.tbl (.tab t.q)) from a6 t.P _ (un.tbls t.P _ (a8 t i)));exact⟨more,e⟩
   refine⟨rfl,⟨λb o e=>?_,λb o e=>?_⟩,os,ac⟩
   ·rcases a3 b o e with z|⟨t,i,rfl⟩
    ·exact .inl z
    ·obtain⟨more,em⟩:=a5 t i;have y:=(l t i).2;rw[e] at y;cases y;exact .inr (.inl ⟨((l t i).1.tab (l t i).2).isCodeTable,rfl,#[],more,rfl,by rw[em];simp⟩)
   ·rcases a3 b o e with z|⟨t,i,rfl⟩
    ·exact⟨_,z⟩
    ·obtain⟨more,em⟩:=a5 t i;exact⟨_,em⟩
theorem walk_ofT {l:PySem.W.OpenLaw} {n k:Nat} {m:List Str} {XP:(Ab0)->Heap->Prop} {YP:World->Heap->Prop} {d:DefRec} {K:Params->Ab1} {sp:World->Sp} {x:Str} (i:List LTab)
  (hn:l.most=some n) (a3:n<=B62) (a1:d.params.defaults=[]) (hr:Room k callerA)
  (hY:∀(w:World) (h:Heap),YP w h->(K w.params).In h)
  (r:∀t∈i,((recsOf q).find? λe=>e.name==t.x).isSome=true) (z:∀(w:World),∀t∈i,B47 (K w.params) t.x=some (t.c,t.P)) (hK:∀w:World,A61 (K w.params)=true) (a0:∀t∈i,∀t'∈i,t.P=t'.P->t.q=t'.q)
  (F:∀ (w:World) (mg:Ab0) (fa:Addr) (h:Heap),(K w.params).In h->h.Ns B74 mg->mg d.name=some (.ref fa)->
   ∃fd:B77,(∀(s:Shared) (u:Value),BindsTo s fd ⟨[u],[]⟩ [(x,u)])/\
    ∀base:Heap,(K w.params).In base->base.Ns B74 mg->BM mg base->FnOk l.prog w (K w.params) mg base CX0 k fa fd [x] (sp w))
  (a2:∀(w:World) (H:Hp) (a:Addr) (ns:List Int),ns.length<=n->qeX i H->SqL (K w.params) H a (ns.map V.int)->sp w [.ref a] H (λv _=>v=.bl true) λ_ _ _=>False):
  PySem.W.WalkO q m XP YP l.row.toRowW d [] (λf vs=>B38 f vs):=by
 refine Att.attach_call hn a1 λw s₀ s₁ mg mb fa o pm cd a7 a vs ns G Y ho hd a6 a5 y p j hg=>?_;have KX:=hY w _ Y;obtain⟨fd,hb,hF⟩:=F w mg fa _ KX G.T.g a5;refine qW6 i KX G.T.g G.T.b G.T.builtins G.T.nolimit hg y p (F3 j a3) hr G.T.bmain (λt ht=>?_) (hK w) a0 hF hb λH hO hS=>a2 w H a ns j hO hS;obtain⟨dd,a4⟩:=Z5.mp (r t ht);exact PySem.W.tab_of G.T KX a4 (z w t ht)
section
open PySem.SeqAt
open PySem.AutoSeq1 (wpAny_loadPart')
open PySem.MeetsSeq PySem.MeetsSeq2 PySem.MeetsSeq3
theorem qQK:∀ns:List Int,HT.lexLt ns ns=false
 |[]=>rfl
 |x::ns=>by rw[HT.lexLt_cons,if_pos rfl];exact qQK ns
theorem qK3:∀{vs:List Value} {ns ms:List Int},B68 vs ns->B68 vs ms->ns=ms
 |_,_,_,.nil,.nil=>rfl
 |_,_,_,.cons a t h,.cons _ _ h'=>by rw[qK3 h h']
theorem qGI:∀{vs:List Value} {ns:List Int},B68 vs ns->∀(j:Nat) (hj:j<vs.length),∃n t,ns[j]?=some n/\vs[j]=.int n t
 |_,_,.cons a t h,0,_=>⟨a,t,rfl,rfl⟩
 |_,_,.cons a t h,j+1,hj=>qGI h j (Nat.lt_of_succ_lt_succ hj)
theorem qX5 {A:Around} {s:Shared} {l b:Addr} {d a:Array Value} {ns f:List Int} (w:IsTup s.heap l d)(p:IsTup s.heap b a)(hi:B68 d.toList ns)(h:B68 a.toList f)(z:A.units<cLine):EqAt A s (.ref l) (.ref b) (decide (ns=f)):=by
 by_cases e:l=b
 ·subst e;obtain⟨o,g1,_,n1,d1⟩:=w;obtain⟨o',x,_,n2,v⟩:=p;rw[g1] at x;cases x;rw[d1] at v;cases v;rw[decide_eq_true (qK3 hi h)];exact EqAt.same _
 ·refine EqAt.of_refs e ?_;have z1:d.size=ns.length:=by rw[<- hi.length];simp
  have z2:a.size=f.length:=by rw[<- h.length];simp
  have:=RcAt.tuples (A:=A) (s:=s) (e:=fun j=>decide (ns[j]?=f[j]?)) w p z (fun j i r=>by
   obtain⟨n,t,y,g⟩:=qGI hi j (by simpa using i)
   obtain⟨m,u,e3,k⟩:=qGI h j (by simpa using r)
   have g:d[j]=.int n t:=by simpa using g
   have k:a[j]=.int m u:=by simpa using k
   rw[y,e3,g,k];have q:=EqAt.int_int (A:=A.in1) (s:=s) n t m u
   rwa[show(n==m)=decide (some n=some m) by simp[BEq.beq]] at q)
  rwa[show((F5 (min d.size a.size)).all (λj=>decide (ns[j]?=f[j]?))&&d.size==a.size)=decide (ns=f) by
   rw[U2,L4,R3,decide_eq_true_eq,beq_iff_eq]
   constructor
   ·rintro⟨i,r⟩;refine A04 λj=>?_;by_cases c:j<ns.length
    ·exact of_decide_eq_true (i j (E5.mpr (by lia)))
    ·rw[K0 (by lia),K0 (by lia)]
   ·rintro rfl;exact⟨λj _=>decide_eq_true rfl,by lia⟩] at this
theorem qM8 (l b x y:Addr)(a c:Int)(t u:Tok)(n n2:Nat)(dd a1:Option Addr)(sl a2:Array (Option Value))(i1 i2:Array Value)(ns ms:List Int)(hi:B68 i1.toList ns)(hj:B68 i2.toList ms):
  Meets (Builtin.«tuple.__lt__» ⟨[.ref l,.ref b],[]⟩)
   (fun A R s=>s.heap.get? l=some { cls:=.type "tuple",dict:=dd,data:=.seq #[.int a t,.ref x] n,slots:=sl }/\s.heap.get? b=some { cls:=.type "tuple",dict:=a1,data:=.seq #[.int c u,.ref y] n2,slots:=a2 }/\
    IsTup s.heap x i1/\IsTup s.heap y i2/\A.units+1<cLine/\R (.ok (.ret (.bool (HT.lexLt (a::ns) (c::ms))))) s):=
 .of_wp λf w A R s h=>by
  obtain⟨k,g,d,m,o⟩:=s;obtain⟨hl,hb,hx,hy,hu,h⟩:=h;have f2:=A00
  wp_walk using C47 hl,C47 hb,wpAny_forIn_list _ (fun i b s'=>b.1=none/\s'=⟨k,g,d,m,o⟩/\((i=[(O9 a t,O9 c u),(D4 x,D4 y)]/\R (.ok (.ret (.bool (HT.lexLt (a::ns) (c::ms))))) ⟨k,g,d,m,o⟩)\/
   (i=[(D4 x,D4 y)]/\R (.ok (.ret (.bool (HT.lexLt ns ms)))) ⟨k,g,d,m,o⟩)\/(i=[]/\R (.ok (.ret (.bool false))) ⟨k,g,d,m,o⟩))) _
  case turn=>
   rintro⟨p,q⟩ i b s' ⟨a0,rfl,⟨hz,j⟩|⟨hz,j⟩|⟨hz,j⟩⟩
   ·cases hz;rw[HT.lexLt_cons] at j;obtain⟨e,he,r⟩:=HT.eqAt_int A.in1 ⟨k,g,d,m,o⟩ a t c u;refine B60 (he f w _ _ ?_);cases e with
    |true=>
     rw[if_pos (r.mp rfl)] at j
     wp_walk
     exact⟨rfl,rfl,.inr (.inl ⟨rfl,j⟩)⟩
    |false=>
     rw[if_neg (λq=>absurd (r.mpr q) C3)] at j;have v:=HT.rcLt_int A.in1 ⟨k,g,d,m,o⟩ a t c u f w
     wp_walk using v
     exact⟨_,rfl,by simpa using j⟩
   ·cases hz;have he:=qX5 (A:=A.in1) (s:=⟨k,g,d,m,o⟩) hx hy hi hj hu;refine B60 (he f w _ _ ?_);by_cases e:ns=ms
    ·rw[decide_eq_true e];subst e;rw[qQK] at j
     wp_walk
     exact⟨rfl,rfl,.inr (.inr ⟨rfl,j⟩)⟩
    ·rw[decide_eq_false e];have v:∀(E:Aa1) (Q:Aa1),Q (.bool (HT.lexLt ns ms)) ⟨k,g,d,m,o⟩->wpAny (model f w) A.in1 (C37 .Lt (.ref x) (.ref y)) Q E ⟨k,g,d,m,o⟩:=λE Q hq=>HT.lt_tupInts hx hy hi hj hu hq
     wp_walk using v
     exact⟨_,rfl,by simpa using j⟩
   ·cases hz
  case fin=>
   rintro⟨b1,b2⟩ s' ⟨a0,rfl,hh⟩;simp only at a0;subst a0;have j:R (.ok (.ret (.bool false))) ⟨k,g,d,m,o⟩:=by
    rcases hh with⟨z,_⟩|⟨z,_⟩|⟨_,z⟩
    ·cases z
    ·cases z
    ·exact z
   wp_walk
   exact⟨_,rfl,by simpa[d7] using j⟩
  case h=>
   exact⟨rfl,rfl,.inl ⟨rfl,h⟩⟩
end
def KR2 (H:Hp)(y:V)(k:List Int):Prop:=∃r q a ns,y=.ref r/\k=a::ns/\H r=some (.tup [.int a,.ref q])/\H q=some (.tup (ns.map V.int))
theorem qg5 {X:Cx} (hu:X.A.in1.units+1<cLine):KCmp X KR2:=by
 refine⟨λH H' y k sm ⟨r,q,a,ns,e1,e2,g1,g2⟩=>⟨r,q,a,ns,e1,e2,sm _ _ g1,sm _ _ g2⟩,?_⟩;intro Ab σ s H y y' u u' k k' Q E I ry ry' ⟨r,q,a,ns,e1,e2,g1,g2⟩ ⟨r',q',a',ns',e1',e2',g1',g2'⟩ h;subst e1 e2 e1' e2';cases ry;cases ry';obtain⟨a2,r1,p1,_⟩:=I.tuple (Ac0 g1);obtain⟨a0,i,m,_⟩:=I.tuple (Ac0 g1');obtain⟨z,r2,p2,_⟩:=I.tuple (Ac0 g2);obtain⟨e,f,g,_⟩:=I.tuple (Ac0 g2');obtain⟨v1,v2,rfl,⟨t,rfl⟩,c2⟩:=Vals.two r1;obtain⟨a4,a3,rfl,⟨t',rfl⟩,p⟩:=Vals.two i;cases c2;cases p;have i1:B68 z.toArray.toList ns:=qG8 r2;have i2:B68 e.toArray.toList ns':=qG8 f;obtain⟨⟨a5,dd,a1,sl⟩,ho,w,n,hd⟩:=id p1;obtain⟨⟨v,j,o,l⟩,b,d,n2,c⟩:=id m;simp only at w hd d c;subst w hd d c;exact richCompare_meets_room (op:=.Lt) ⟨_,ho,rfl⟩ ⟨_,b,rfl⟩ A28 A22 (A08 _ _) (qM8 r r' q q' a a' t t' n n2 dd j sl l z.toArray e.toArray ns ns' i1 i2)
  ⟨ho,b,p2,g,hu,show n4 (HT.lexLt (a::ns) (a'::ns'))≠A50/\Q (.bool (HT.lexLt (a::ns) (a'::ns'))) s from⟨(λx=>nomatch x),h⟩⟩ (by lia)
def qdG (P:Addr)(q:Str)(fv:List Nat)(te:TE)(KR:Hp->V->List Int->Prop)(ta:TA):TE:=λσ H Q=>ta σ H λvs H1=>H1 P=some (.tbl (.tab q))/\
 ∃l xs ks m,vs=[.ref l]/\H1 l=some (.lst xs)/\ks.length=xs.length/\(∀(i:Nat) (x:V) (k:List Int),xs[i]?=some x->ks[i]?=some k->∀Hc,Sm0 H1 Hc->te (qGH fv σ x) Hc λy H'=>Sm0 Hc H'/\KR H' y k)/\
  qe2 (some .non) (xs.zip ks)=some m/\∀H',Sm0 H1 H'->Q m H'
theorem qYU {e:Expr} {ta:TA} {np pos kpos j r n:Pos} {a:B95} {body:Expr} {d:Scope} {c P:Addr} {q:Str} {p:Str} {fv:List Nat} {te:TE} {KR:Hp->V->List Int->Prop} {nn:Nat} 
  (rm:Room 1 X.A) (hc:X.calm=true) (hg:Gl X "min") (hm:X.mg "min" = none) (hv:B72 "min" = some (.builtin "min")) (hb:BM X.mg X.base) (t:X.env.code=.ref c) (hd:hdIn X.K c P=true) (hq:X.env.qual ++ "<lambda>" = q)
  (S:LmScope X d p fv) (a0:defaultsOf a X.env=([],[])) (v:∀(cl:List (Str×Addr)) (pm cd ct u:Value),C04 (S0 "<lambda>" q a body d cl pm cd ct) ⟨[u],[]⟩=pure [(p,u)])
  (KC:KCmp X KR) (ha:PA X [e] ta) (he:∀z,PE (lmCx X d p fv q z) body te) (hn:PE X (.Constant .none nn n) (tC .non)) (hs:B66 [e] X.env=[(false,eval e X.env)]:=by rfl):
  PE X (.Call (.Name "min" np) [e] [⟨some "key",.Lambda a body d r,kpos⟩,⟨some "default",.Constant .none nn n,j⟩] pos) (qdG P q fv te KR ta):=by
 intro Ab s σ H Q I h;refine B87 (qGZ I hg hm hv ?_ (by decide) (by decide))
 refine a8 (thn (ha pos Ab s σ H _ I h) λus s1 ⟨vs,H1,I1,r1,q1⟩=>?_) (by rw[hs];rfl) (by rw[hs];rfl)
 obtain⟨hP,l,xs,ks,m,rfl,hl,lk,hk,em,q2⟩:=q1;obtain⟨u,rfl,rx⟩:=qDR r1;cases rx;have C:=qP4 (c:=c) (P:=P) I1.ok.mod.kin hd;have pl:=qaM (X:=X) (pos:=r) (body:=body) hb t C hq S a0;refine thn (qMP (kpos:=kpos) (nm:=some "key") pl (qMP (kpos:=j) (nm:=some "default") hn qV8) pos Ab s1 σ H1 (λzs H2=>∃f cc ctv,zs=[.ref f,.non]/\Sm0 H1 H2/\H2 f=some (LamF X q a body d cc ctv f)/\H2 cc=some (.tbl (.cod q))) I1 ⟨hP,λf cc ctv H' y h0 hf w=>⟨f,cc,ctv,rfl,y,hf,w⟩⟩) λws s2 ⟨zs,H2,I2,rz,f,cc,ctv,ez,y,hf,w⟩=>?_;subst ez;obtain⟨u2,u3,rfl,r2,r3⟩:=Vals.two rz;cases r2;cases r3;have hA:X.A.in1.frames=some X.stack:=I2.ok.frames;exact qQH (H:=H2) hc rm hA S v he KC ⟨lk,λi x k hx a1 Hc g=>hk i x k hx a1 Hc λb o e=>g b o (y b o e)⟩ hf w (Ab2 (y _ _ hl)) (λH' g=>Ab2 (g _ _ (y _ _ hl))) I2
  (by unfold argsOk;kernel_rfl) (some .none) rfl (some .non) (.inr ⟨.non,.none,rfl,rfl,rfl⟩) m em λH' g=>q2 H' λb o e=>g b o (y b o e)
end L2
namespace L2.G
open PySem PySem.Spec PyProof.Rows
theorem qLU:∀a:List Int,HT.lexLt a a=false
 |[]=>rfl
 |x::a=>by rw[HT.lexLt_cons,if_pos rfl];exact qLU a
theorem qJV:∀a b c:List Int,HT.lexLt a b=true->HT.lexLt b c=true->HT.lexLt a c=true
 |[],[],_,h,_=>by cases h
 |[],_::_,[],_,h=>by cases h
 |[],_::_,_::_,_,_=>rfl
 |_::_,[],_,h,_=>by cases h
 |_::_,_::_,[],_,h=>by cases h
 |x::a,y::b,z::c,h1,h2=>by
  rw[HT.lexLt_cons] at h1 h2 ⊢;by_cases e1:x=y
  ·subst e1;rw[if_pos rfl] at h1;by_cases e2:x=z
   ·rw[if_pos e2] at h2 ⊢;exact qJV a b c h1 h2
   ·rw[if_neg e2] at h2 ⊢;exact h2
  ·rw[if_neg e1] at h1;have h1:=of_decide_eq_true h1;by_cases e2:y=z
   ·subst e2;rw[if_neg e1];exact decide_eq_true h1
   ·rw[if_neg e2] at h2;have h2:=of_decide_eq_true h2;rw[if_neg (by lia)]
    exact decide_eq_true (by lia)
theorem qOK:∀a b:List Int,HT.lexLt a b=false->HT.lexLt b a=false->a=b
 |[],[],_,_=>rfl
 |[],_::_,h,_=>by cases h
 |_::_,[],_,h=>by cases h
 |x::a,y::b,h1,h2=>by
  rw[HT.lexLt_cons] at h1 h2;by_cases e:x=y
  ·subst e;rw[if_pos rfl] at h1 h2;rw[qOK a b h1 h2]
  ·rw[if_neg e] at h1;rw[if_neg (λz=>e z.symm)] at h2;have:=of_decide_eq_false h1;have:=of_decide_eq_false h2
   lia
noncomputable def qIB (L:Aa0)(a:List Int):Int:=(((L.filter λx=>HT.lexLt x a).length:Nat):Int)
theorem qGY {α:Type} {p q:α->Bool} :∀{L:List α},(∀x∈L,p x=true->q x=true)->(∃x∈L,p x=false/\q x=true)->(L.filter p).length<(L.filter q).length
 |[],_,⟨x,hx,_⟩=>nomatch hx
 |y::L,h,⟨x,hx,h1,h2⟩=>by
  have le:∀{M:List α},(∀x∈M,p x=true->q x=true)->(M.filter p).length<=(M.filter q).length:=by
   intro M hM
   induction M with
   |nil=>exact A7 _
   |cons z M ih=>
    have i:=ih λx hx=>hM x (A8 _ hx);rw[L5,L5];cases ep:p z
    ·cases q z
     ·simpa using i
     ·simp;lia
    ·rw[hM z (by simp) ep]
     simpa using i
  rw[L5,L5];rcases B1.mp hx with e|e
  ·subst e;have:=le λx hx=>h x (A8 _ hx);rw[h1,h2];simp
   lia
  ·have i:=qGY (λx hx=>h x (A8 _ hx)) ⟨x,e,h1,h2⟩;cases ep:p y
   ·cases q y
    ·simpa using i
    ·simp;lia
   ·rw[h y (by simp) ep]
    simpa using i
theorem qV3 {L:Aa0} {a b:List Int} (c:a∈L)(h:HT.lexLt a b=true):qIB L a<qIB L b:=by
 unfold qIB;have:=qGY (p:=λx=>HT.lexLt x a) (q:=λx=>HT.lexLt x b) (L:=L) (λx _ d=>qJV _ _ _ d h) ⟨a,c,qLU a,h⟩
 lia
theorem qRT {L:Aa0} {a b:List Int} (c:a∈L)(d:b∈L):decide (qIB L a<qIB L b)=HT.lexLt a b:=by
 cases h:HT.lexLt a b with
 |true=>exact decide_eq_true (qV3 c h)
 |false=>
  refine decide_eq_false λz=>?_;cases h2:HT.lexLt b a with
  |true=>have:=qV3 d h2;lia
  |false=>rw[qOK a b h h2] at z;lia
noncomputable def qZN (xs:List V):List Int:=xs.map fun|.int i=>i|_=>0
theorem qWK (t:List Int):qZN (t.map V.int)=t:=by
 unfold qZN;rw[Z8];exact(L3 λx _=>rfl).trans (List.map_id _)
noncomputable def keyH (H:Hp):Value->List Int
 |.ref r=>match H r with
  |some (.tup xs)=>qZN xs
  |_=>[]
 |_=>[]
@[reducible] def tupNM (H:Hp)(L:Aa0):NM:=⟨λv=>qIB L (keyH H v),λv=>∃r t,v=.ref r/\H r=some (.tup (t.map V.int))/\t∈L⟩
theorem qJZ {H:Hp} {r:Addr} {t:List Int} (h:H r=some (.tup (t.map V.int))):keyH H (.ref r)=t:=by
 show(match H r with|some (.tup xs)=>qZN xs|_=>[])=t
 rw[h];exact qWK t
section
variable{prog:B63}{w:World}{A:Around}{E:Aa1}{s:Shared}
theorem qK0 {b:Bool} {Q:Bool->Shared->Prop} :∀{vs ws:List Value} {ns ms:List Int} {i:Nat} {fin:Bool},B68 vs ns->B68 ws ms->
  (fin=decide (vs.length<ws.length))->Q (HT.lexLt ns ms) s->PySem.W.KatLex prog w A b fin Q (vs.zip ws) i s
 |_,_,_,_,i,fin,.nil,.nil,ef,h=>by
  rw[ef];exact A40 h
 |_,_,_,_,i,fin,.nil,.cons _ _ _,ef,h=>by
  rw[ef];exact A40 h
 |_,_,_,_,i,fin,.cons _ _ _,.nil,ef,h=>by
  rw[ef];exact A40 h
 |_,_,_,_,i,fin,.cons (vs:=vs) (ns:=ns) x t hv,.cons (vs:=ws) (ns:=ms) y u hw,ef,h=>by
  rw[L8];refine PySem.W.kat_cons (wpAny_eqBool_int ?_);rw[HT.lexLt_cons] at h;by_cases e:x=y
  ·rw[if_pos e] at h;rw[beq_iff_eq.mpr e];refine PySem.W.kat_yes (qK0 hv hw ?_ h);rw[ef];simp
  ·rw[if_neg e] at h;rw[beq_eq_false_iff_ne.mpr e];refine PySem.W.kat_no ?_;cases eb:(b&&i==0) with
   |true=>exact oneLt_int h
   |false=>exact PySem.W.kat_one _ _ (lt_int h)
theorem qTP {x y:Addr} {xs d:Array Value} {ns e:List Int} {b:Bool} {Q:Bool->Shared->Prop} (l:IsTup s.heap x xs)(i:IsTup s.heap y d)(m:B68 xs.toList ns)(k:B68 d.toList e)(h:Q (HT.lexLt ns e) s):wpAny (model prog w) A (keyLt' (tuples' b) (.ref x) (.ref y)) Q E s:=by
 obtain⟨o,f,q,n,g⟩:=id l;obtain⟨p,c,j,r,a⟩:=id i;refine PySem.W.kat_lt f g c a (qK0 m k ?_ h);simp
theorem qWB {rs:List Addr} {ts:Aa0} {Q:C19->Shared->Prop} (h:Paired (λ(r:Addr) (t:List Int)=>∃xs:Array Value,IsTup s.heap r xs/\B68 xs.toList t) rs ts)(b:∀t∈ts,t≠[])(u:2<=rs.length)
  (q:Q (tuples' true) s):wpAny (model prog w) A (keyKind' (rs.map D4).toArray) Q E s:=by
 have j:∃fs,PySem.W.KatTups s.heap (rs.map D4) fs/\fs.length=rs.length/\∀v∈fs,∃n t,v=.int n t:=by
  clear u
  induction h with
  |nil=>exact⟨[],trivial,rfl,λ_ z=>nomatch z⟩
  |@cons r t l1 l2 a _ ih=>
   obtain⟨fs,f,i,g⟩:=ih λt c=>b t (A8 _ c);obtain⟨xs,⟨o,p,m,n,k⟩,l⟩:=a;have c:t≠[]:=b t (by simp)
   obtain⟨xs⟩:=xs;cases l with
   |nil=>exact absurd rfl c
   |cons x tk rest=>
    refine⟨.int x tk::fs,.cons p m k rfl f,by simp[i],λv d=>?_⟩
    rcases B1.mp d with e|e
    ·exact⟨x,tk,e⟩
    ·exact g v e
 obtain⟨fs,f,i,g⟩:=j;refine PySem.W.kat_kind (T:=.type "int") f (by lia) (λv d=>?_) rfl ?_
 ·obtain⟨n,t,rfl⟩:=g v d;exact .now
 ·exact q
end
section
variable{X:Cx}
abbrev qSS (H:Hp)(rs:List Addr)(ts:Aa0):Prop:=Paired (λ(r:Addr) (t:List Int)=>H r=some (.tup (t.map V.int))) rs ts
theorem qRF {H:Hp} :∀{rs:List Addr} {ts:Aa0},qSS H rs ts->∀{r:Addr},r∈rs->∃t,t∈ts/\H r=some (.tup (t.map V.int))
 |_,_,.nil,_,h=>nomatch h
 |_,_,.cons (b:=t) g T,r,h=>by
  rcases B1.mp h with e|e
  ·exact⟨t,by simp,by rw[e];exact g⟩
  ·obtain⟨t,h1,h2⟩:=qRF T e;exact⟨t,A8 _ h1,h2⟩
end
open PySem PySem.Spec PyProof.Rows PySem.W
theorem perm_map_inv {α β:Type} {g:α->β} {a b:List β} (h:a.Perm b):∀L:List α,b=L.map g->∃L':List α,L'.Perm L/\a=L'.map g:=by
 induction h with
 |nil=>
  intro L e;exact⟨[],by rw[o9.mp e.symm],rfl⟩
 |cons x _ ih=>
  intro L e;cases L with
  |nil=>cases e
  |cons y L=>
   rw[C9] at e
   injection e with e1 e2
   obtain⟨L',p,c⟩:=ih L e2;exact⟨y::L',p.cons y,by rw[C9,e1,c]⟩
 |swap x y l=>
  intro L e
  match L,e with
  |p::q::L,e=>
   rw[C9,C9] at e
   injection e with e1 e2
   injection e2 with e2 c
   exact⟨q::p::L,.swap p q L,by rw[C9,C9,e1,e2,c]⟩
 |trans _ _ ih1 ih2=>
  intro L e;obtain⟨j,i,e2⟩:=ih2 L e;obtain⟨d,f,e1⟩:=ih1 j e2;exact⟨d,f.trans i,e1⟩
section
variable{X:Cx}{Ab:Aa2}{σ:St}{params:B95}{body:Expr}{scope:Scope}{p:Str}{fv:List Nat}{q:Str}{te:TE}{l f cc:Addr}{ctv:Value}{H0:Hp}{xs:List V}{ks:Aa0}{Q:VK}
theorem qZJ {A:Around} {H:Hp} {b S:Addr} {i:Nat} {x:V} {k:List Int} {u:Value} (rm:Room 0 A) (hA:A.frames=some X.stack) (S':LmScope X scope p fv) (a:∀(cl:List (Str×Addr)) (pm cd ct u:Value),C04 (S0 "<lambda>" q params body scope cl pm cd ct) ⟨[u],[]⟩=pure [(p,u)])
  (he:∀z,PE (lmCx X scope p fv q z) body te) (KA:KeyAt X σ fv te KR1 H0 xs ks) (hf:H0 f=some (LamF X q params body scope cc ctv f)) (m:H0 cc=some (.tbl (.cod q)))
  (I:Inv X Ab σ H s) (l:Sm0 H0 H) (hx:xs[i]?=some x) (hk:ks[i]?=some k) (rx:RelV x u) (d:FpOk X Ab H b) (c:FpOk X Ab H S) {g j:Obj} (o:s.heap.get? b=some g) (n:s.heap.get? S=some j) {Q':Aa1} {E:Aa1}
  (h:∀v y H' s',Inv X Ab σ H' s'->Sm0 H H'->RelV y v->KR1 H' y k->FpOk X Ab H' b->FpOk X Ab H' S->s'.heap.get? b=some g->s'.heap.get? S=some j->Q' v s'):wpAny (model X.prog X.w) A (call (.ref f) [u]) Q' E s:=by
 have t:s.heap.get? f=some (lamO X q params body scope cc ctv):=(show ObjOk X.prog X.w H s.heap f (LamF X q params body scope cc ctv f) from I.hok f _ (l _ _ hf)).1;refine C06 (B81 (qSA rm I S' hA t (l _ _ m) rx a he (KA.key i x k hx hk H l)) λr s' ⟨v,y,H',e,I',ry,⟨sm',kr⟩,un⟩=>?_);subst e;exact h v y H' s' I' sm' ry kr (d.to (un.free b g o d.1 (by simp))) (c.to (un.free S j n c.1 (by simp))) (un.keep b g o d.1 (I.fpStk d) (by simp)) (un.keep S j n c.1 (I.fpStk c) (by simp))
theorem Inv.off {H:Hp} {s:Shared} {b:Addr} {h':Heap} (I:Inv X Ab σ H s)(f:FpOk X Ab H b)(d:∀c o,c≠b->s.heap.get? c=some o->h'.get? c=some o):Inv X Ab σ H {s with heap:=h'}:=
 I.turned (t':=s.toks) (λc o a e=>d c o a e) f.1 f.2.1 f.2.2.2.1 f.2.2.2.2.1 f.2.2.2.2.2
def qeY (X:Cx)(Ab:Aa2)(σ:St)(H0:Hp)(ks:Aa0)(kS D:Addr)(oD:Obj)(j:Nat)(s:Shared):Prop:=
 ∃(H:Hp) (rs:List Addr) (c:Nat),Inv X Ab σ H s/\Sm0 H0 H/\FpOk X Ab H kS/\FpOk X Ab H D/\s.heap.get? kS=some (seqObj "list" (rs.map D4).toArray c)/\s.heap.get? D=some oD/\qSS H rs (ks.take j)
theorem qT2 {A:Around} {d:List Value} {kS D:Addr} {e1:Nat} {P:Fin->Shared->Prop} (rm:Room 0 A) (hA:A.frames=some X.stack) (S':LmScope X scope p fv) (a4:∀(cl:List (Str×Addr)) (pm cd ct u:Value),C04 (S0 "<lambda>" q params body scope cl pm cd ct) ⟨[u],[]⟩=pure [(p,u)])
  (he:∀z,PE (lmCx X scope p fv q z) body te) (KA:KeyAt X σ fv te KR1 H0 xs ks) (hf:H0 f=some (LamF X q params body scope cc ctv f)) (ah:H0 cc=some (.tbl (.cod q))) (rv:Vals xs d) (hz:d.length<=63) (ag:∀k∈ks,k≠[]) (a8:kS≠D)
  (h0:qeY X Ab σ H0 ks kS D (seqObj "list" #[] e1) 0 s)
  (h:∀(H:Hp) (s':Shared) (zs:List (List Int×V)) (out:List Value) (n:Nat),Inv X Ab σ H s'->Sm0 H0 H->FpOk X Ab H D->zs.Perm (ks.zip xs)->zs.Pairwise (λa b=>HT.lexLt b.1 a.1=false)->Vals (zs.map (·.2)) out->s'.heap.get? D=some (seqObj "list" out.toArray n)->P (.done (.ret .none)) s'):
  wpAny (model X.prog X.w) A (ksk_rest D (.ref f) false d.toArray e1 (.ref kS)) P E s:=by
 have lu:=rv.length;have lk:=KA.len;unfold ksk_rest;refine B60 (C01 ?_)
 first
  |rw[List.forIn_toArray]
  |(rw[<- A88];simp only[o7])
  |rw[<- A88]
 refine B60 (ksk_fold (λj s'=>qeY X Ab σ H0 ks kS D (seqObj "list" #[] e1) j s') d 0 s h0 (λj u s' hu hK=>?_) λs' hK=>?_)
 ·rw[u8] at hK ⊢;obtain⟨H,rs,c,I,sm,fk,fD,gk,gD,T⟩:=hK;have hj:j<d.length:=(A5.mp hu).1;have ac:j<xs.length:=by lia
  have aj:j<ks.length:=by lia
  have hx:=A4 ac;have hk:=A4 aj;obtain⟨u',a5,ru⟩:=rv.get hx;rw[hu] at a5;cases a5;have lT:rs.length=(ks.take j).length:=C2 T;rw[C8] at lT;refine B60 (C21 (qZJ rm hA S' a4 he KA hf ah I sm hx hk ru fk fD gk gD λv y H' s2 I2 sm2 ry ⟨r,ey,gr⟩ fk2 fD2 gk2 gD2=>?_));subst ey;cases ry;have ea:((rs.map D4).toArray).push (.ref r)=((rs++[r]).map D4).toArray:=by simp
  obtain⟨c2,af⟩:∃c2,(s2.heap.update kS (G5 (·.push (.ref r)))).get? kS=some (seqObj "list" ((rs++[r]).map D4).toArray c2):=⟨_,by rw[<- ea];exact get?_update_seq gk2 (·.push (.ref r))⟩
  try dsimp only
  refine B60 (B93 gk2 rfl ?_ (by rw[B5,A0,B64];lia) (F3 (Nat.le_of_eq (Array.size_push ..)) (by rw[B5,A0,B64];lia)))
  refine B61 ⟨rfl,H',rs++[r],c2,Inv.off I2 fk2 (λb o hb e=>(C0 _ _ (F6 hb)).trans e),λb o e=>sm2 b o (sm b o e),fk2,fD2,af,(C0 _ _ a8).trans gD2,?_⟩;rw[D3,hk,D5];have T2:qSS H' rs (ks.take j):=Paired.mapP T λ_ _ z=>sm2 _ _ z;exact U3 T2 gr
 ·rw[u8] at hK;obtain⟨H,rs,c,I,sm,fk,fD,gk,gD,T⟩:=hK;rw[E3 (by lia)] at T
  have lr:rs.length=ks.length:=C2 T
  try dsimp only
  refine B60 (listItems_at gk rfl ?_);unfold ksk_end;dsimp only;simp only[E8,if_false]
  -- the triples
  have ez:((rs.map D4).toArray.zip d.toArray).toList=(rs.zip (xs.zip d)).map λt=>((D4 t.1,t.2.2):Keyed):=by
   rw[Array.toList_zip];show(rs.map D4).zip d=_;have:∀(rs:List Addr) (xs:List V) (d:List Value),rs.length=xs.length->xs.length=d.length->(rs.map D4).zip d=(rs.zip (xs.zip d)).map λt=>((D4 t.1,t.2.2):Keyed):=by
    intro rs
    induction rs with
    |nil=>intro xs d _ _;rfl
    |cons r rs ih=>
     intro xs d h1 l
     match xs,d,h1,l with
     |x::xs,u::d,h1,l=>
      rw[C9,L8,L8,L8,C9,ih xs d (by simpa using h1) (by simpa using l)]
     |[],_,h1,_=>simp at h1
     |_::_,[],_,l=>simp at l
   exact this rs xs d (by lia) (by lia)
  have tz:(rs.zip (xs.zip d)).map (λt=>(keyH H (.ref t.1),t.2.1))=ks.zip xs:=by
   have:∀(rs:List Addr) (ks:Aa0) (xs:List V) (d:List Value),qSS H rs ks->rs.length=xs.length->xs.length=d.length->(rs.zip (xs.zip d)).map (λt=>(keyH H (.ref t.1),t.2.1))=ks.zip xs:=by
    intro rs ks xs d T
    induction T generalizing xs d with
    |nil=>intro _ _;rfl
    |@cons r k l1 l2 g _ ih=>
     intro h1 l
     match xs,d,h1,l with
     |x::xs,u::d,h1,l=>
      rw[L8,L8,L8,C9,qJZ g,ih xs d (by simpa using h1) (by simpa using l)]
     |[],_,h1,_=>simp at h1
     |_::_,[],_,l=>simp at l
   exact this rs ks xs d T (by lia) (by lia)
  have a9:∀t∈rs.zip (xs.zip d),RelV t.2.1 t.2.2:=by
   intro t ht;obtain⟨i,hi⟩:=D6 ht;rw[V9] at hi;have l:=hi.2;rw[V9] at l;obtain⟨u,hu,ru⟩:=rv.get l.1;rw[hu] at l;have:=D1 l.2;rw[<- this];exact ru
  have m:∀t∈rs.zip (xs.zip d),∃k,k∈ks/\H t.1=some (.tup (k.map V.int)):=λt ht=>qRF T (n6 ht).1
  letI:NM:=tupNM H ks
  have ak:∀arr:Array Keyed,arr.Perm ((rs.map D4).toArray.zip d.toArray)->gSortedTo arr arr.size->wpAny (model X.prog X.w) A (ksk_tail D false e1 (.ref kS) (SortSt.mk' (tuples' true) arr #[] 7 none)) P E s'->True:=λ_ _ _ _=>trivial;have a1:∀(st:SortSt),(arrOf st).Perm ((rs.map D4).toArray.zip d.toArray)->gSortedTo (arrOf st) (arrOf st).size->failedOf st=none->wpAny (model X.prog X.w) A (ksk_tail D false e1 (.ref kS) st) P E s':=by
   intro st pm so fl;obtain⟨L',p1,p2⟩:=perm_map_inv (Y5.mp pm) (rs.zip (xs.zip d)) ez;unfold ksk_tail;dsimp only;refine B60 (B93 gk rfl ?_ (by rw[B5,A0,B64];lia) (E2 _))
   refine B60 (B88 ?_);have gD2:(s'.heap.update kS (G5 λ_=>(#[]:Array Value))).get? D=some (seqObj "list" #[] e1):=(C0 _ _ a8).trans gD;have I2:=Inv.off (h':=s'.heap.update kS (G5 λ_=>(#[]:Array Value))) I fk (λb o hb e=>(C0 _ _ (F6 hb)).trans e);refine B60 (C11 gD2 rfl ?_);have la:(arrOf st).size=d.length:=by
    have:=pm.size_eq;rw[this];simp
    lia
   refine B60 (B93 gD2 rfl ?_ (E2 _) (by simp only[E8,if_false];rw[j6,la,B64];lia))
   simp only[E8,if_false];rw[fl];simp only[bne_self_eq_false,E8,if_false];obtain⟨n2,a6⟩:∃n2,((s'.heap.update kS (G5 λ_=>(#[]:Array Value))).update D (G5 λ_=>(arrOf st).map (·.2))).get? D=some (seqObj "list" ((arrOf st).map (·.2)) n2):=⟨_,get?_update_seq gD2 λ_=>(arrOf st).map (·.2)⟩;have eo:(arrOf st).map (·.2)=(L'.map (·.2.2)).toArray:=by
    apply Array.toList_inj.mp;rw[Array.toList_map,p2,Z8]
    rfl
   rw[show seqObj "list" ((arrOf st).map (·.2)) n2=seqObj "list" (L'.map (·.2.2)).toArray n2 by rw[eo]] at a6
   have I3:=Inv.off (s:={s' with heap:=s'.heap.update kS (G5 λ_=>(#[]:Array Value))}) (h':=(s'.heap.update kS (G5 λ_=>(#[]:Array Value))).update D (G5 λ_=>(arrOf st).map (·.2))) I2 fD (λb o hb e=>(C0 _ _ (F6 hb)).trans e);refine B61 (h H _ (L'.map λt=>(keyH H (.ref t.1),t.2.1)) (L'.map (·.2.2)) n2 I3 sm fD ?_ ?_ ?_ a6)
   ·rw[<- tz];exact p1.map _
   ·rw[G6];have aa:(arrOf st).toList.Pairwise (λa b=>gkv a<=gkv b):=by
     rw[P5];intro i j hi hj ab;have ai:i<(arrOf st).size:=by simpa using hi
     have a7:j<(arrOf st).size:=by simpa using hj
     have a:=so i j (V2 ab) a7;rw[qeN ai,qeN a7] at a;rw[A55,A55];exact a
    rw[p2,G6] at aa;refine aa.imp_of_mem λ{a b} ha hb le=>?_;obtain⟨k1,m1,g1⟩:=m a (p1.mem_iff.mp ha);obtain⟨k2,m2,g2⟩:=m b (p1.mem_iff.mp hb);have le:qIB ks (keyH H (.ref a.1))<=qIB ks (keyH H (.ref b.1)):=le;rw[qJZ g1,qJZ g2] at le ⊢;dsimp only;rw[<- qRT m2 m1];exact decide_eq_false (by lia)
   ·have:∀L:List (Addr×V×Value),(∀t∈L,RelV t.2.1 t.2.2)->Vals ((L.map λt=>(keyH H (.ref t.1),t.2.1)).map (·.2)) (L.map (·.2.2)):=by
     intro L
     induction L with
     |nil=>intro _;exact .nil
     |cons t L ih=>intro hL;exact .cons (hL t (by simp)) (ih λt ht=>hL t (A8 _ ht))
    exact this L' λt ht=>a9 t (p1.mem_iff.mp ht)
  by_cases a3:d.toArray.size<2
  ·simp only[if_pos a3];refine B60 (B61 ?_);rw[A35];refine B60 (B61 (a1 _ (.refl _) (λi j ab hj=>?_) rfl));have sz:(arrOf (SortSt.mk' general' ((rs.map D4).toArray.zip d.toArray) #[] 7 none)).size<=1:=by
    show((rs.map D4).toArray.zip d.toArray).size<=1;rw[B35]
    lia
   have al:j<(arrOf (SortSt.mk' general' ((rs.map D4).toArray.zip d.toArray) #[] 7 none)).size:=hj;have ij:i=j:=by lia
   rw[ij];exact L7 _
  ·simp only[if_neg a3];rw[B5] at a3;have a2:∀(r:Addr) (t:List Int),H r=some (.tup (t.map V.int))->∃ys:Array Value,IsTup s'.heap r ys/\B68 ys.toList t:=by
    intro r t g;obtain⟨ad,r1,pt,_⟩:=I.tuple (Ac0 g);exact⟨ad.toArray,pt,qG8 r1⟩
   have ae:LtOk X.prog X.w A s' (tuples' true):=by
    refine⟨λ{x y Q E} hx hy h=>?_⟩;obtain⟨r1,t1,rfl,g1,m1⟩:=hx;obtain⟨r2,t2,rfl,g2,m2⟩:=hy;obtain⟨ya,i1,j1⟩:=a2 r1 t1 g1;obtain⟨yb,i2,j2⟩:=a2 r2 t2 g2;refine qTP i1 i2 j1 j2 ?_;have e1:NM.nm (D4 r1)=qIB ks t1:=by show qIB ks (keyH H (.ref r1))=_;rw[qJZ g1]
    have e2:NM.nm (D4 r2)=qIB ks t2:=by show qIB ks (keyH H (.ref r2))=_;rw[qJZ g2]
    rw[e1,e2,qRT m1 m2] at h;exact h
   have ik:qCU ((rs.map D4).toArray.zip d.toArray):=λpq hp=>by
    rw[ez] at hp;obtain⟨t,ht,rfl⟩:=E1.mp hp;obtain⟨k,mk,g⟩:=m t ht;exact⟨t.1,k,rfl,g,mk⟩
   refine B60 (qWB (rs:=rs) (ts:=ks) (Paired.mapP T λr t g=>a2 r t g) ag (by lia) ?_)
   refine B60 (B69 (gwpS_runs (κ0:=tuples' true) (a₀:=(rs.map D4).toArray.zip d.toArray) (Q:=λ_ a0=>gSG (tuples' true) ((rs.map D4).toArray.zip d.toArray) a0/\gSortedTo (arrOf a0) ((rs.map D4).toArray.zip d.toArray).size) (by rw[B35,B5,B5];lia) ik ⟨.refl _,rfl,rfl⟩ rfl λa0 g u=>⟨g,u⟩) ?_ λ_ _ x=>x)
   rintro⟨_,a0⟩ s2 ⟨es,g,u⟩;cases(show s2=_ from es);exact a1 a0 g.perm (by rw[g.perm.size_eq];exact u) g.failed
theorem qT3 (l:Addr) (v:Value):argsOk "sorted" ⟨[.ref l],[(B6 "key",v)]⟩:=by unfold argsOk;kernel_rfl
theorem sortk_call {H:Hp} (rm:Room 2 X.A) (hA:X.A.in1.in1.frames=some X.stack) (S':LmScope X scope p fv) (x:∀(cl:List (Str×Addr)) (pm cd ct u:Value),C04 (S0 "<lambda>" q params body scope cl pm cd ct) ⟨[u],[]⟩=pure [(p,u)])
  (he:∀z,PE (lmCx X scope p fv q z) body te) (KA:KeyAt X σ fv te KR1 H xs ks) (hf:H f=some (LamF X q params body scope cc ctv f)) (a6:H cc=some (.tbl (.cod q))) (hl:SqT X.K H l xs\/SqL X.K H l xs) (I:Inv X Ab σ H s) (hz:xs.length<=63) (a5:∀k∈ks,k≠[])
  (hQ:∀(H':Hp) (D:Addr) (zs:List (List Int×V)),Sm0 H H'->H' D=none->zs.Perm (ks.zip xs)->zs.Pairwise (λa b=>HT.lexLt b.1 a.1=false)->Q (.ref D) (Ag H' D (.lst (zs.map (·.2))))):
  wpAny (model X.prog X.w) X.A (call (.builtin "sorted") [.ref l] [(B6 "key",.ref f)]) (EP X Ab σ Q) X.xe s:=by
 refine call_function_entry_kw kind_sorted plain_sorted entry_sorted (qT3 _ _) ?_;unfold Builtin.«sorted»;refine B60 (m:=checkCount "sorted" 1 1 _) (B61 ?_);have a7:∃(its:List Value),Vals xs its/\∀(P:List Value->Shared->Prop),(∀h',(∀b o,s.heap.get? b=some o->h'.get? b=some o)->P its {s with heap:=h'})->wpAny (model X.prog X.w) X.A.in1 (collect (.ref l)) P X.xe s:=by
  rcases hl with hl|hl
  ·obtain⟨its,r,⟨o,ho,t,n,hd⟩,a9⟩:=I.tuple hl;refine⟨its,r,λP h=>C12 l (.inr rfl) ho t hd (λh' hk=>h h' hk) ?_⟩;rw[B5,<- r.length,B64]
   lia
  ·obtain⟨its,r,pl,a9⟩:=I.list hl;obtain⟨o,ho,t,n,hd⟩:=pl.isList;refine⟨its,r,λP h=>C12 l (.inl rfl) ho t hd (λh' hk=>h h' hk) ?_⟩;rw[B5,<- r.length,B64]
   lia
 obtain⟨its,r,a8⟩:=a7;have li:=r.length;refine B60 (a8 _ λc k1=>?_);have I1:Inv X Ab σ H {s with heap:=c}:=I.kept (t':=s.toks) k1;refine B60 (C09 ?_ (by show its.length<=_;rw[B64];lia))
 have v:FpOk X Ab H c.objs.size:=I1.fpOk (A7 _) (I1.hok.fresh (A7 _));have g:=I1.sz;have y:(c.push (seqObj "list" its.toArray 0)).get? c.objs.size=some (seqObj "list" its.toArray 0):=B3 _ rfl;have I2:Inv X Ab σ H {s with heap:=c.push (seqObj "list" its.toArray 0)}:=I1.kept (t':=s.toks) λb o e=>A3 _ e;have a0:c.objs.size<(c.push (seqObj "list" its.toArray 0)).objs.size:=B4 y;show wpAny _ _ _ _ _ {s with heap:=c.push (seqObj "list" its.toArray 0)};show wpAny _ _ (B97 [.ref c.objs.size] (call (.builtin "list.sort") [.ref c.objs.size] [(B6 "key",.ref f)]) >>= _) _ _ _;generalize c.push (seqObj "list" its.toArray 0)=h2 at y I2 a0 ⊢;have g:X.s₀.heap.objs.size<=c.objs.size:=g;generalize c.objs.size=D at v g y a0 ⊢;refine B60 (B65 (wpAny_call_entry_kw slot_list_sort ⟨_,y,rfl⟩ entry_list_sort ?_ (ksk_l1 _ _)));show wpAny (model X.prog X.w) X.A.in1.in1 (Builtin.«list.sort» ⟨[.ref D],[(B6 "key",.ref f)]⟩) _ _ _;rw[ksk_t1];unfold ksk_tree;refine B60 (listItems_at y rfl ?_);refine B60 (B93 y rfl ?_ (by rw[B5,B64];lia) (E2 _))
 obtain⟨e1,i⟩:∃e1,(h2.update D (G5 λ_=>(#[]:Array Value))).get? D=some (seqObj "list" #[] e1):=⟨_,get?_update_seq y λ_=>#[]⟩;have I3:=Inv.off (h':=h2.update D (G5 λ_=>(#[]:Array Value))) I2 v (λb o hb e=>(C0 _ _ (F6 hb)).trans e);have j:D<(h2.update D (G5 λ_=>(#[]:Array Value))).objs.size:=B4 i;refine B60 (C11 i rfl ?_);generalize h2.update D (G5 λ_=>(#[]:Array Value))=h3 at i I3 j ⊢;refine B60 (wpAny_newTuple ?_ (by show its.length<=_;rw[B64];lia))
 refine B60 (C09 ?_ (E2 _));refine B65 ?_;have a1:(h3.push (seqObj "tuple" its.toArray 0)).objs.size=h3.objs.size+1:=G9 ..;have I4:Inv X Ab σ H {s with heap:=(h3.push (seqObj "tuple" its.toArray 0)).push (seqObj "list" #[] 0)}:=I3.kept (t':=s.toks) λb o e=>A3 _ (A3 _ e);have fk:FpOk X Ab H (h3.push (seqObj "tuple" its.toArray 0)).objs.size:=by rw[a1];exact I3.fpOk (T5 _) (I3.hok.fresh (T5 _))
 refine qT2 (kS:=(h3.push (seqObj "tuple" its.toArray 0)).objs.size) (D:=D) (rm.in1.in1) hA S' x he KA hf a6 r (by lia) a5 (by rw[a1];exact O3 (G0 j)) ⟨H,[],0,I4,λ_ _ e=>e,fk,v,B3 _ rfl,A3 _ (A3 _ i),?_⟩ λH' s' zs a3 n I5 sm d pm so a4 a2=>⟨_,rfl,?_⟩
 ·rw[A62];exact .nil
 ·refine B61 ⟨_,rfl,.ref D,Ag H' D (.lst (zs.map (·.2))),I5.track d.1 g d.2.1 d.2.2.2.2.1 d.2.2.2.2.2 ⟨?_,a3,n,a4,a2⟩,rfl,hQ H' D zs sm d.1 pm so⟩;have:=pm.length_eq;rw[A0,this,o8,B64]
  lia
end
end L2.G
namespace L2
open PySem PySem.Spec PyProof.Rows
variable{X:Cx}
theorem SqT.sm {K:Ab1} {H H':Hp} {a:Addr} {xs:List V} (h:SqT K H a xs)(b:Sm0 H H'):SqT K H' a xs:=by
 rcases h with(h|⟨o,h⟩)|h
 ·exact .inl (.inl (b _ _ h))
 ·exact .inl (.inr ⟨o,b _ _ h⟩)
 ·exact .inr h
theorem SqL.sm {K:Ab1} {H H':Hp} {a:Addr} {xs:List V} (h:SqL K H a xs)(b:Sm0 H H'):SqL K H' a xs:=by
 rcases h with(h|⟨o,h⟩)|h
 ·exact .inl (.inl (b _ _ h))
 ·exact .inl (.inr ⟨o,b _ _ h⟩)
 ·exact .inr h
def qdE (P:Addr)(K:Ab1)(q:Str)(fv:List Nat)(te:TE)(ta:TA):TE:=λσ H Q=>ta σ H λvs H1=>H1 P=some (.tbl (.tab q))/\
 ∃(l:Addr) (xs:List V) (ks:Aa0),vs=[.ref l]/\(SqT K H1 l xs\/SqL K H1 l xs)/\xs.length<=63/\ks.length=xs.length/\(∀k∈ks,k≠[])/\(∀(i:Nat) (x:V) (k:List Int),xs[i]?=some x->ks[i]?=some k->∀Hc,Sm0 H1 Hc->te (qGH fv σ x) Hc λy H'=>Sm0 Hc H'/\KR1 H' y k)/\
  ∀(H':Hp) (D:Addr) (zs:List (List Int×V)),Sm0 H1 H'->H' D=none->zs.Perm (ks.zip xs)->zs.Pairwise (λa b=>HT.lexLt b.1 a.1=false)->Q (.ref D) (Ag H' D (.lst (zs.map (·.2))))
theorem qYT {e:Expr} {ta:TA} {np pos kpos j:Pos} {d:B95} {body:Expr} {g:Scope} {c P:Addr} {q:Str} {p:Str} {fv:List Nat} {te:TE} 
  (rm:Room 2 X.A) (hg:Gl X "sorted") (hm:X.mg "sorted" = none) (hv:B72 "sorted" = some (.builtin "sorted")) (hb:BM X.mg X.base) (m:X.env.code=.ref c) (hd:hdIn X.K c P=true) (hq:X.env.qual ++ "<lambda>" = q)
  (S:LmScope X g p fv) (w:defaultsOf d X.env=([],[])) (n:∀(cl:List (Str×Addr)) (pm cd ct u:Value),C04 (S0 "<lambda>" q d body g cl pm cd ct) ⟨[u],[]⟩=pure [(p,u)])
  (ha:PA X [e] ta) (he:∀z,PE (lmCx X g p fv q z) body te) (hs:B66 [e] X.env=[(false,eval e X.env)]:=by rfl):
  PE X (.Call (.Name "sorted" np) [e] [⟨some "key",.Lambda d body g j,kpos⟩] pos) (qdE P X.K q fv te ta):=by
 intro Ab s σ H Q I h;refine B87 (qGZ I hg hm hv ?_ (by decide) (by decide))
 refine a8 (thn (ha pos Ab s σ H _ I h) λus s1 ⟨vs,H1,I1,r1,q1⟩=>?_) (by rw[hs];rfl) (by rw[hs];rfl)
 obtain⟨hP,l,xs,ks,rfl,hl,hz,lk,a0,hk,q2⟩:=q1;obtain⟨u,rfl,rx⟩:=qDR r1;cases rx;have C:=qP4 (c:=c) (P:=P) I1.ok.mod.kin hd;have pl:=qaM (X:=X) (pos:=j) (body:=body) hb m C hq S w;refine thn (qMP (kpos:=kpos) (nm:=some "key") pl qV8 pos Ab s1 σ H1 (λy v=>∃f cc ctv,y=[.ref f]/\Sm0 H1 v/\v f=some (LamF X q d body g cc ctv f)/\v cc=some (.tbl (.cod q))) I1 ⟨hP,λf cc ctv H' sm h0 hf t=>⟨f,cc,ctv,rfl,sm,hf,t⟩⟩) λws s2 ⟨y,v,I2,rz,f,cc,ctv,ez,sm,hf,t⟩=>?_;subst ez;obtain⟨u2,rfl,r2⟩:=qDR rz;cases r2;have hA:X.A.in1.in1.frames=some X.stack:=I2.ok.frames;exact G.sortk_call (H:=v) rm hA S n he ⟨lk,λi x k hx a1 Hc r=>hk i x k hx a1 Hc λb o e=>r b o (sm b o e)⟩ hf t (hl.imp (λz=>z.sm sm) λz=>z.sm sm) I2 hz a0
  λH' D y r a b c=>q2 H' D y (λb o e=>r b o (sm b o e)) a b c
theorem qQ7 (j:X.A.units<cLine):OpR X (B80 .Eq) (λx y H Q=>∃(p l:Addr) (zs:List Int),x=.ref p/\y=.ref l/\SqT X.K H p (zs.map V.int)/\SqT X.K H l (zs.map V.int)/\Q (.bl true) H):=by
 intro z s σ H x y v u Q I r m h;obtain⟨p,l,zs,rfl,rfl,o,t,q⟩:=h;cases r;cases m;obtain⟨a,d,k,z1⟩:=I.tuple o;obtain⟨f,c,n,w⟩:=I.tuple t;refine PySem.SeqAt.eq_tupleAt (e:=λ_=>true) k n j (qcJ d c) ⟨.bl true,H,I,?_,q⟩;have g:(F5 (min a.toArray.size f.toArray.size)).all (λ_=>true)=true:=by simp
 have i:(a.toArray.size==f.toArray.size)=true:=by simp[<- d.length,<- c.length]
 rw[g,i]
 rfl
noncomputable def lowI (b:Int)(l:List Int):Int:=l.foldl (λb x=>if x<b then x else b) b
theorem qW2:∀(l:List Int) (b:Int),lowI b l<=b/\(∀x∈l,lowI b l<=x)/\(lowI b l=b\/lowI b l∈l)
 |[],b=>⟨L7 _,(λ_ z=>nomatch z),.inl rfl⟩
 |y::l,b=>by
  obtain⟨h1,h2,h3⟩:=qW2 l (if y<b then y else b)
  have e:lowI b (y::l)=lowI (if y<b then y else b) l:=rfl
  rw[e];have hb:(if y<b then y else b)<=b/\(if y<b then y else b)<=y:=by split<;>lia
  refine⟨by lia,λx hx=>?_,?_⟩
  ·rcases B1.mp hx with hx|hx
   ·lia
   ·exact h2 x hx
  ·rcases h3 with h3|h3
   ·split at h3
    ·rw[if_pos (by assumption)]
     exact .inr (by rw[h3];exact B7)
    ·rw[if_neg (by assumption)]
     exact .inl h3
   ·exact .inr (A8 _ h3)
section
variable{prog:B63}{w:World}{A:Around}{R:Result->Shared->Prop}{I:Addr}{fp wr:List Addr}{n:Nat}{P:Nat->Value->Prop}{St:Nat->Heap->Prop}
theorem qc8 (W:Walks prog w A.in1 I fp wr n P St)(kw:List (Str×Value))(ns:List Int)(hn:ns.length=n)(a3:∀i v,P i v->∃t,v=.int (ns.getD i 0) t)(S:Addr)(a1:S∉fp):
  ∀(k j:Nat) (s:Shared) (b:Int) (t:Tok) (c:Nat),n-j=k->j<=n->St j s.heap->s.heap.get? S=some {cls:=.type "list",dict:=none,data:=.seq #[.int b t,.int b t] c,slots:=#[]}->
  (∀t' h' tk,(∀x o,x∉wr->x≠S->s.heap.get? x=some o->h'.get? x=some o)->R (.ok (.ret (.int (lowI b (ns.drop j)) t'))) {s with heap:=h',toks:=tk})->
  B86 (model prog w) A (.builtin "min.loop" ⟨[.ref I,.none,.ref S],kw⟩) R s:=by
 have a5:S∉wr:=λh=>a1 (W.sub _ h);have f:(toString "min" ++ toString ".loop" : String) = "min.loop":=by decide
 intro k
 induction k with
 |zero=>
  intro j s b t c hk hj st hS l;have e:j=n:=by lia
  refine B71 A18 ?_;rw[E4 V1 _];show wpAny _ A.in1 (seqItems? (.ref S) >>= _) _ _ s;refine B60 (B82 hS rfl ?_);show wpAny _ A.in1 (tryCatch (pyNext (.ref I)) _ >>= _) _ _ s;refine B60 (B75 (W.done s _ _ (e▸st) λh' tk d=>?_));show wpAny _ A.in1 (updateSeq S (λ_=>#[]) >>= _) _ _ _;refine B60 (B92 (d S _ a5 hS) rfl (B60 (B88 (B61 ?_))));rw[R5 (by lia)] at l
  exact l t _ tk λx o g a r=>(C0 _ _ (F6 a)).trans (d x o g r)
 |succ k ih=>
  intro j s b t c hk hj st hS l;have p:j<n:=by lia
  refine B71 A18 ?_;rw[E4 V1 _];show wpAny _ A.in1 (seqItems? (.ref S) >>= _) _ _ s;refine B60 (B82 hS rfl ?_);show wpAny _ A.in1 (tryCatch (pyNext (.ref I)) _ >>= _) _ _ s;refine B60 (B75 (W.item j s _ _ p st λv h' tk hP a2 d=>?_));have a0:=d S _ a5 hS;obtain⟨u,rfl⟩:=a3 j v hP;have ed:ns.drop j=ns.getD j 0::ns.drop (j+1):=by
   have a4:j<ns.length:=by lia
   rw[P6 a4,R4,A4 a4]
   rfl
  rw[ed] at l;generalize ns.getD j 0=y at l hP ⊢;show wpAny _ A.in1 (tryCatch (B97 [O9 y u,O9 y u] (C37 .Lt (.int y u) (.int b t) >>= _)) _ >>= _) _ _ _;refine B60 (B75 (B65 (B60 (richCompare_gives (op:=.Lt) (C31 _ _ u) (C31 _ _ t) F.slot_int_lt F.entry_int_lt (F.args_int_lt_2 _ _) (gives_int_lt _ _ u t) (λx=>nomatch x) ?_))));refine B60 (B65 (B79 (B60 (B88 (B61 ?_)))));by_cases hb:y<b
  ·rw[decide_eq_true hb,if_pos rfl];have et:lowI b (y::ns.drop (j+1))=lowI y (ns.drop (j+1)):=by show lowI (if y<b then y else b) _=_;rw[if_pos hb]
   rw[et] at l;refine B60 (B92 a0 rfl (B60 (B88 ?_)));rw[f];refine B61 ⟨B76 V1 _,ih (j+1) _ y u _ (by lia) p (W.frame _ _ _ a2 λx g o r=>?_) (E7 _ a0 rfl) λt' h2 q m=>?_⟩
   ·exact(C0 _ _ (λz:S=x=>a1 (by rw[z];exact g))).trans r
   ·exact l t' h2 q λx o g a r=>m x o g a ((C0 _ _ (F6 a)).trans (d x o g r))
  ·rw[decide_eq_false hb,if_neg C3];have et:lowI b (y::ns.drop (j+1))=lowI b (ns.drop (j+1)):=by show lowI (if y<b then y else b) _=_;rw[if_neg hb]
   rw[et] at l;refine B60 (B88 ?_);rw[f];exact B61 ⟨B76 V1 _,ih (j+1) _ b t c (by lia) p a2 a0 λt' h2 q m=>l t' h2 q λx o g a r=>m x o g a (d x o g r)⟩
theorem qVZ (W:Walks prog w A.in1 I fp wr n P St)(q:List (Str×Value))(ns:List Int)(l:ns.length=n)(b:∀i v,P i v->∃t,v=.int (ns.getD i 0) t)(S:Addr)(d:S∉fp){s:Shared}{c:Nat}(st:St 0 s.heap)
  (hS:s.heap.get? S=some {cls:=.type "list",dict:=none,data:=.seq #[] c,slots:=#[]})
  (h1:∀y r,ns=y::r->∀t' h' tk,(∀x o,x∉wr->x≠S->s.heap.get? x=some o->h'.get? x=some o)->R (.ok (.ret (.int (lowI y r) t'))) {s with heap:=h',toks:=tk})
  (h2:ns=[]->∃nm dv,q=[(nm,dv)]/\∀h' tk,(∀x o,x∉wr->x≠S->s.heap.get? x=some o->h'.get? x=some o)->R (.ok (.ret dv)) {s with heap:=h',toks:=tk}):
  B86 (model prog w) A (.builtin "min.loop" ⟨[.ref I,.none,.ref S],q⟩) R s:=by
 have a1:S∉wr:=λh=>d (W.sub _ h);have e:(toString "min" ++ toString ".loop" : String) = "min.loop":=by decide
 refine B71 A18 ?_;rw[E4 V1 _];show wpAny _ A.in1 (seqItems? (.ref S) >>= _) _ _ s;refine B60 (B82 hS rfl ?_);show wpAny _ A.in1 (tryCatch (pyNext (.ref I)) _ >>= _) _ _ s;cases ns with
 |nil=>
  obtain⟨nm,dv,rfl,h3⟩:=h2 rfl;refine B60 (B75 (W.done s _ _ (l▸st) λh' tk a=>?_));show wpAny _ A.in1 (rule _ >>= λ_=>ret dv) _ _ _;exact B60 (C01 (B61 (h3 _ tk λx o f _ j=>a x o f j)))
 |cons y r=>
  refine B60 (B75 (W.item 0 s _ _ (by rw[<- l];simp) st λv h' tk hP p a=>?_))
  have k:=a S _ a1 hS;obtain⟨u,rfl⟩:=b 0 v hP;show wpAny _ A.in1 (updateSeq S (λ_=>#[O9 y u,O9 y u]) >>= _) _ _ _;refine B60 (B92 k rfl ?_);rw[e];refine B61 ⟨B76 V1 _,qc8 W q (y::r) l b S d _ 1 _ y u _ rfl (by rw[<- l];simp) (W.frame _ _ _ p λx f o j=>?_) (E7 _ k rfl) λt' h2 a0 m=>?_⟩
  ·exact(C0 _ _ (λz:S=x=>d (by rw[z];exact f))).trans j
  ·exact h1 y r rfl t' h2 a0 λx o f g j=>m x o f g ((C0 _ _ (F6 g)).trans (a x o f j))
end
noncomputable def lowD (dv:Option Int):List Int->Option Int
 |[]=>dv
 |y::r=>some (lowI y r)
theorem qc9 {Ab:Aa2} {σ:St} {H:Hp} {Q:VK} {p:Addr} {ns:List Int} {j:List (Str×Value)} {n:Option Int} (hc:X.calm=true)(I:Inv X Ab σ H s)(hq:SqL X.K H p (ns.map V.int))
  (ok:argsOk "min" ⟨[.ref p],j⟩) (u:Option Value) (hb:M8 "min" ["key","default"] 0 ⟨[],j⟩=pure [none,u]) (z:u=none/\n=none\/∃d t,u=some (.int d t)/\n=some d)
  (m:Int) (k:lowD n ns=some m) (q:Q (.int m) H):wpAny (model X.prog X.w) X.A (call (.builtin "min") [.ref p] j) (EP X Ab σ Q) X.xe s:=by
 obtain⟨l,rv,pl,hz⟩:=I.list hq;have hl:=pl.isList;have h:p<s.heap.objs.size:=by obtain⟨_,e,_⟩:=hl;exact B4 e
 have a:=rv.length;rw[A0] at a;have ia:=qBN rv;have f:(toString "min" ++ toString ".loop" : String) = "min.loop":=by decide
 refine qFW F.kind_min F.plain_min F.entry_min ok ?_;show wpAny _ _ (M8 "min" ["key","default"] 0 ⟨[],j⟩ >>= _) _ _ s;refine B60 (C00 hb ?_);refine B60 (B61 ?_);refine B60 (B84 hl ?_);refine B60 (B67 ?_);rw[f];have w0:X.A.in1.handled=none:=I.ok.hd hc;refine B61 ⟨_,rfl,B76 V1 _,?_⟩;refine qVZ (A46 w0 _ p (C4 h) l.toArray) _ ns (by simpa using a) (λi v hv=>?_) _ ?_ (c:=0) ?_ (B3 _ rfl) ?_ ?_
 ·exact U4 ia i v (by simpa using hv)
 ·simp only[G9,B1,G2,or_false,not_or];exact⟨Z3 _,O3 (G0 h)⟩
 ·exact⟨⟨_,A3 _ (B3 _ rfl),rfl,rfl⟩,(hl.push _).push _⟩
 ·intro y r e t' h' x hk;subst e;cases k;refine⟨_,rfl,.int _,H,I.kept (t':=x) λb o g=>hk b o ?_ ?_ (A3 _ (A3 _ g)),⟨t',rfl⟩,q⟩
  ·simp only[B1,G2,or_false];exact C4 (B4 g)
  ·rw[G9];exact C4 (G0 (B4 g))
 ·intro e;subst e;rcases z with⟨_,e2⟩|⟨d,t,rfl,rfl⟩
  ·rw[e2] at k;cases k
  ·cases k;refine⟨_,_,rfl,λh' x hk=>⟨_,rfl,.int _,H,I.kept (t':=x) λb o g=>hk b o ?_ ?_ (A3 _ (A3 _ g)),⟨t,rfl⟩,q⟩⟩
   ·simp only[B1,G2,or_false];exact C4 (B4 g)
   ·rw[G9];exact C4 (G0 (B4 g))
theorem qXO (c:X.calm=true):qD9 X (.builtin "min") (λxs H Q=>∃p ns m,xs=[.ref p]/\SqL X.K H p (ns.map V.int)/\lowD none ns=some m/\Q (.int m) H):=by
 intro f s σ H xs e Q I r h;obtain⟨p,ns,m,rfl,b,a,q⟩:=h;obtain⟨u,rfl,d⟩:=qDR r;cases d;exact qc9 c I b (F.args_min1 _) none rfl (.inl ⟨rfl,rfl⟩) m a q
structure Clb (P:B63)(w:World)(K:Ab1)(mg:Ab0)(base:Heap)(n:Nat)(f:Addr)(fd:B77)(x:Str)(ps:List Str)(sp:Sp):Prop where
 G:FnOk P w K mg base CX0 n f fd ps sp
 b:Binds K fd ps []
 k:J4 K (.ref f)=true
 m:mg x=some (.ref f)
theorem qAL {X:Cx} {n k:Nat} {f:Addr} {l:B77} {x:Str} {ps:List Str} {sp:Sp} {e:Expr} {es:List Expr} {t:TA} {p pos:Pos} (C:Clb X.prog X.w X.K X.mg X.base n f l x ps sp)(i:Room k X.A)(g:Gl X x)
  (j:PA X (e::es) t) (d:n<=k:=by decide) (a:(x==("__debug__" : Str))=false:=by decide) (h:B66 (e::es) X.env=(false,eval e X.env)::B66 es X.env:=by rfl) (c:(backTo pos (B66 es X.env)).any (·.1)=false:=by rfl):
  PE X (.Call (.Name x p) (e::es) [] pos) (qdK sp [] E0 t):=qQ4 C.G (i.mono d) g C.m C.k C.b .nil qfV j a h c
def Tf (K:Ab1)(x:Str)(s:Stmt)(f:Addr):Prop:=W5 K B74 x=some (some (.ref f))/\∃fd,Fun K x x s f fd
theorem Tf.use {K:Ab1} {h:Heap} {mg:Ab0} {x:Str} {s:Stmt} {f:Addr} (X:K.In h)(G:h.Ns B74 mg)(T:Tf K x s f):∃fd,Fun K x x s f fd/\mg x=some (.ref f):=
 let⟨a,fd,F⟩:=T
 ⟨fd,F,n0 X G a⟩
theorem Tf.clb {K:Ab1} {h base:Heap} {mg:Ab0} {x:Str} {s:Stmt} {f:Addr} {n:Nat} {ps:List Str} {sp:Sp} (X:K.In h)(G:h.Ns B74 mg)(T:Tf K x s f)(a:∀fd,Fun K x x s f fd->FnOk P w K mg base CX0 n f fd ps sp)
  (b:∀(kV doc pm:Value) (an:Option Addr) (cdv ct:Value) (us:List Value),us.length=ps.length->C04 (R0 x x (qDZ s) (qAZ s) (qA8 s) .none kV doc pm an cdv ct) ⟨us,[]⟩=pure (ps.zip us)):∃fd,Clb P w K mg base n f fd x ps sp:=
 let⟨fd,F,m⟩:=T.use X G
 ⟨fd,a fd F,F.binds b,F.kp,m⟩
def Zs (K:Ab1):List Str->Prop
 |[]=>True
 |x::r=>W5 K B74 x=some none/\Zs K r
def Zm (mg:Ab0):List Str->Prop
 |[]=>True
 |x::r=>mg x=none/\Zm mg r
theorem Zs.mg {K:Ab1} {h:Heap} {mg:Ab0} (X:K.In h)(G:h.Ns B74 mg):∀{l:List Str},Zs K l->Zm mg l
 |[],_=>trivial
 |_::_,⟨a,b⟩=>⟨PySem.W.mg_none_of X G a,Zs.mg X G b⟩
theorem qBO {N P:List Str} {a:Scope} (f:a.kind=.function:=by rfl)(g:a.isCoroutine=false:=by rfl)(e:a.isGenerator=false:=by rfl)(b:N.Nodup:=by decide +kernel)(c:N.take P.length=P:=by rfl)(h:∀x∈P,a.names.lookup x=some .local\/a.names.lookup x=some .cell:=by decide +kernel)(d:∀y∈a.names,y.2≠.free:=by decide +kernel):FnScope N P a:=⟨f,g,e,b,c,h,d⟩
section
variable{P:B63}{w:World}{K:Ab1}{mg:Ab0}{base:Heap}
theorem Fun.okA {x a:Str} {st:Stmt} {f:Addr} {d:B77} {N ps:List Str} {k:Nat} {sp:Sp} (F:Fun K x a st f d)(S:FnScope N ps (qA8 st))
  (b:∀ (cdv:Value) (A:Around) (outer:List Env) (s:Shared) (H:Hp) (vs:List V) (Q:VK) (E:XK),Room k (A.deeper (envOfC a (qA8 st) s.heap.objs.size f cdv))->sp vs H Q E->
   ∃t,PSs (cxOf CX0 P w K mg base N a (qA8 st) f cdv A outer s H E).nox (qAZ st) t/\t {nx:=λ_ H'=>Q .non H',rt:=Q} (start N vs) H)
  (c:∀vs H Q E,sp vs H Q E->vs.length=ps.length:=by intro vs H Q E h;(repeat (obtain⟨_,h⟩:=h));subst_vars;rfl):FnOk P w K mg base CX0 (k+1) f d ps sp:=F.ok S c b
@[elab_as_elim] theorem us5 {α:Type}{P:List α->Prop}(f:List α)(g:f.length=5)(h:∀a b c d e,P [a,b,c,d,e]):P f:=by
 match f,g with
 |[a,b,c,d,e],_=>exact h a b c d e
def Bs (P:B63)(w:World)(base:Heap):Prop:=P=P/\w=w/\base=base
theorem Tf.c {h:Heap} {x:Str} {s:Stmt} {f:Addr} {n:Nat} {ps:List Str} {sp:Sp} (X:K.In h)(G:h.Ns B74 mg)(B:Bs P w base)(T:Tf K x s f)(a:∀fd,Fun K x x s f fd->FnOk P w K mg base CX0 n f fd ps sp)
  (b:∀ (kV doc pm:Value) (an:Option Addr) (cdv ct:Value) (us:List Value),us.length=ps.length->C04 (R0 x x (qDZ s) (qAZ s) (qA8 s) .none kV doc pm an cdv ct) ⟨us,[]⟩=pure (ps.zip us):=by
   intro _ _ _ _ _ _ us hl;first|exact us1 us hl (λ_=>rfl)|exact us2 us hl (λ_ _=>rfl)|exact us3 us hl (λ_ _ _=>rfl)|exact us4 us hl (λ_ _ _ _=>rfl)|exact us5 us hl (λ_ _ _ _ _=>rfl)|exact us0 us hl rfl):∃fd,Clb P w K mg base n f fd x ps sp:=T.clb X G a b
end
section
variable{X:Cx}{pos:Pos}
theorem qC0 {x:Str} (i:Nat)(a:X.N.Nodup:=by exact qfY (by kernel_rfl))(hi:X.N[i]?=some x:=by rfl)(b:Loc X.env.scope x:=by exact E9 rfl)(c:X.fn x=true\/X.env.scope.names.lookup x=some .local:=by first|exact .inl rfl|exact .inr rfl|assumption):PG X (.Name x pos) (qa0 i):=qAW a hi b c
end
section
variable{prog:B63}{w:World}{A:Around}{E:Aa1}{s:Shared}
theorem qZL {a:List Value} {b:List Int} (h:B68 a b):a.length=b.length/\∀(i:Nat) (y:Int),b[i]?=some y->∃tk,a[i]?=some (.int y tk):=by
 induction h with
 |nil=>exact⟨rfl,λi y e=>by simp at e⟩
 |cons n tk hm ih=>
  refine⟨by rw[C6,C6,ih.1],λi y e=>?_⟩
  cases i with
  |zero=>cases e;exact⟨_,rfl⟩
  |succ i=>exact ih.2 i y e
theorem qIA {t:Addr} {a:Array Value} {b:List Int} {x:Int} {u:Tok} {j:Nat} {Q:Aa1} (z:IsTup s.heap t a)(hi:B68 a.toList b)(k:b[j]?=some x)(hn:∀i,i<j->b[i]?≠some x)
  (h:Q (.int j s.toks) {s with toks:=s.toks+1}):wpAny (model prog w) A (Builtin.«tuple.index» ⟨[.ref t,.int x u],[]⟩) (λfin s'=>∃v,fin=.done (.ret v)/\Q v s') E s:=by
 obtain⟨hl,q⟩:=qZL hi;have l:a.size=b.length:=by simpa using hl
 have p:j<a.size:=by rw[l];exact(A5.mp k).1
 show wpAny _ _ (Y4 (.ref t) >>= _) _ _ s;refine B60 (tupleItemsOf_ z ?_);refine B60 (B61 ?_);refine B60 (B61 ?_);refine B60 ?_;rw[A47];have en:(A41 [0:min a.size a.size])=a.size:=by simp[A41]
 rw[en];refine wpAny_forIn_list _ (λc r s'=>r.1=none/\s'=s/\∃i,c=List.range' i (a.size-i) 1/\i<=j) _ ?_ ?_ _ _ ⟨rfl,rfl,0,by simp,E2 _⟩
 ·rintro y c r s' ⟨hr,rfl,i,e,hij⟩;obtain⟨m,hm⟩:∃m,a.size-i=m+1:=⟨a.size-i-1,by lia⟩
  rw[hm,List.range'_succ] at e
  injection e with e1 e2
  subst e1;have f:y<b.length:=by lia
  obtain⟨tk,o⟩:=q y _ (A4 f);have n:a[y]?=some (.int b[y] tk):=by simpa using o
  dsimp only;rw[n];dsimp only;refine B60 (wpAny_eqBool_int ?_);by_cases g:b[y]=x
  ·have ey:y=j:=by
    by_cases d:y<j
    ·exact absurd (by rw[A4 f,g]) (hn y d)
    ·lia
   subst ey;rw[show(b[y]==x)=true from by rw[g];exact beq_self_eq_true _]
   refine B60 (B60 (wpAny_mkInt (B61 ?_)));exact B61 (B61 ⟨_,rfl,h⟩)
  ·rw[show(b[y]==x)=false from by simpa using g]
   refine B61 ⟨rfl,rfl,y+1,by rw[e2];congr 1;lia,?_⟩
   rcases Nat.lt_or_ge y j with d|hge
   ·exact d
   ·have:y=j:=by lia
    subst this;rw[A4 f] at k;exact absurd (D1 k) g
 ·rintro⟨b1,b2⟩ s' ⟨hb,rfl,i,e,hij⟩;have:(List.range' i (a.size-i) 1).length=0:=by rw[<- e];rfl
  rw[List.length_range'] at this
  lia
end
def qRU (K:Ab1):V->List V->Hp->VK->Prop:=λx vs H Q=>∃(a:Addr) (ys:List Int) (y:Int) (j:Nat),x=.ref a/\vs=[.int y]/\SqT K H a (ys.map V.int)/\ys[j]?=some y/\(∀i,i<j->ys[i]?≠some y)/\Q (.int j) H
theorem qTG:MtR X "tuple.index" (qRU X.K):=by
 intro m s σ H x o v l Q I i g h;obtain⟨a,n,y,j,rfl,rfl,e,d,k,q⟩:=h;cases i;obtain⟨u,rfl,c⟩:=g.one;obtain⟨t,rfl⟩:=c;obtain⟨f,r,b,z⟩:=I.tuple e;refine B78 F.slot_tuple_index b.typeIs F.entry_tuple_index (qIA b (qG8 (by simpa using r)) d k ?_) (F.args_tuple_index_2 _ _)
 exact⟨.int j,H,I.tok _,⟨_,rfl⟩,q⟩
theorem qQE {K:Ab1} (a:X.K=K):MtR X "tuple.index" (qRU K):=by
 subst a;exact qTG
def tBMT (r:V->List V->Hp->VK->Prop)(to:TE)(t:TA):TE:=λσ H Q=>to σ H λx H1=>(∃a xs,x=.ref a/\BareT H1 a xs)/\t σ H1 λxs H2=>r x xs H2 Q
theorem qe6 {o e:Expr} {es:List Expr} {u:TE} {t:TA} {name:Str} {f c:Pos} {id:String} {r:V->List V->Hp->VK->Prop} (pa:PlainAttrs "tuple") (j:Slot "tuple" name id) (m:typeOf (.builtin id)=pure (.type "method_descriptor")) (hm:MtR X id r) (ho:PE X o u) (ha:PA X (e::es) t)
  (i:C38 o name X.env (eval o X.env)=eval o X.env:=by rfl)
  (k:((backTo c (B66 (e::es) X.env)).all (fun x=>!x.1) && (backToKw c (C36 [] X.env)).all (fun x=>x.1.isSome)
   && decide ((e::es).length+([]:List C30).length+(if([]:List C30).isEmpty then 0 else 1)<30))=true:=by rfl)
  (g:(f.endLine==c.line)=true:=by rfl) (y:B66 (e::es) X.env=(false,eval e X.env)::B66 es X.env:=by rfl) (d:(backTo c (B66 es X.env)).any (·.1)=false:=by rfl):
  PE X (.Call (.Attribute o name f) (e::es) [] c) (tBMT r u t):=by
 intro n s σ H Q I h;refine wpAny_Call_method_late i k g rfl (thn (ho n s σ H _ I h) λv s1 ⟨x,H1,I1,r1,ty,q1⟩=>?_);obtain⟨a,xs,rfl,p,hq,z,hd⟩:=ty;cases r1;obtain⟨l,_⟩:=(show ObjOk X.prog X.w H1 s1.heap a (.frz p (.tup xs)) from I1.hok a _ hq);refine⟨"tuple",id,pa,j,m,⟨p,l,z⟩,λb e=>?_,?_⟩
 ·cases e;exact⟨p,l,hd⟩
 have q:=ha c n s1 σ H1 _ I1 q1;rw[y] at q ⊢;refine X7 (by show(false||(backTo c (B66 es X.env)).any (·.1))=false;rw[d]<;>rfl) (l9 ?_)
 exact thn q λus s2 ⟨vs,H2,I2,r2,q2⟩=>hm n s2 σ H2 (.ref a) vs (.ref a) us Q I2 rfl r2 q2
theorem Rd.same {H H':Hp} {a:Addr} {u:HO} (h:Rd H a u)(s:∀b o,H b=some o->H' b=some o):Rd H' a u:=by
 rcases h with h|⟨o,h⟩
 ·exact .inl (s _ _ h)
 ·exact .inr ⟨o,s _ _ h⟩
end L2
namespace Fw
open PySem L2
theorem qBR:B72 "len" = some (.builtin "len"):=by decide +kernel
theorem qP8:B72 "min" = some (.builtin "min"):=by decide +kernel
theorem qP9:B72 "max" = some (.builtin "max"):=by decide +kernel
theorem qD4:B72 "sorted" = some (.builtin "sorted"):=by decide +kernel
theorem qXS:B72 "divmod" = some (.builtin "divmod"):=by decide +kernel
theorem qb6:B72 "all" = some (.builtin "all"):=by decide +kernel
theorem qXR:B72 "int" = some (.type "int"):=by decide +kernel
theorem qXQ:B72 "list" = some (.type "list"):=by decide +kernel
theorem qAQ:B72 "tuple" = some (.type "tuple"):=by decide +kernel
theorem qSQ:B72 "set" = some (.type "set"):=by decide +kernel
theorem qa8:B72 "range" = some (.type "range"):=by decide +kernel
theorem qD5:B72 "enumerate" = some (.type "enumerate"):=by decide +kernel
structure StAt (H:Hp)(d c:Addr)(t:Int)(ns:List Int):Prop where
 dict:H d=some (.dK [(O0 "cells",.ref c),(O0 "turn",.int t)])
 list:H c=some (.lst (ns.map V.int))
 ne:0<ns.length
 len:ns.length<=63
 pos:0<=t
def Keep (d c:Addr)(H H':Hp):Prop:=∀b o,H b=some o->b≠d->b≠c->H' b=some o
theorem Keep.trans {d c:Addr} {H H1 H2:Hp} (a:Keep d c H H1)(b:Keep d c H1 H2):Keep d c H H2:=λx o h n m=>b x o (a x o h n m) n m
theorem Keep.of_same {d c:Addr} {H H':Hp} (h:Same H H'):Keep d c H H':=λb o e _ _=>h b o e
theorem qA2 {H:Hp} {p:Addr} (h:H p=none)(o:HO):Same H (Ag H p o):=λb u q=>by rw[qA7 (qA5 q h)];exact q
theorem qCC {d c:Addr} {H:Hp} {p:Addr} (h:H p=none)(o:HO):Keep d c H (Ag H p o):=.of_same (qA2 h o)
theorem StAt.ndc {H:Hp} {d c:Addr} {t:Int} {ns:List Int} (S:StAt H d c t ns):d≠c:=qC6 S.dict S.list (by intro z;cases z)
theorem StAt.same {H H':Hp} {d c:Addr} {t:Int} {ns:List Int} (S:StAt H d c t ns)(h:Same H H'):StAt H' d c t ns:=⟨h _ _ S.dict,h _ _ S.list,S.ne,S.len,S.pos⟩
theorem StAt.new {H:Hp} {d c p:Addr} {t:Int} {ns:List Int} (S:StAt H d c t ns)(h:H p=none)(o:HO):StAt (Ag H p o) d c t ns:=S.same (qA2 h o)
theorem s_cs:¬(B6 "cells" = B6 "turn"):=by decide +kernel
theorem s_ct:¬((O0 (B6 "cells"):Key)=O0 (B6 "turn")):=λh=>s_cs (B54 h)
theorem qcU {H:Hp} {d c:Addr} {t:Int} {ns:List Int} (S:StAt H d c t ns):DGet H d (.str "turn") (some (.int t)):=by
 have h:=DGet.k (k:=O0 "turn") S.dict;rw[qB1 s_ct,qB7 rfl] at h;exact h
theorem qNF {H:Hp} {d c:Addr} {t:Int} {ns:List Int} (S:StAt H d c t ns):DGet H d (.str "cells") (some (.ref c)):=by
 have h:=DGet.k (k:=O0 "cells") S.dict;rw[qB7 rfl] at h;exact h
theorem qYK (c:Addr) (t u:Int):putK [((O0 "cells" : Key),V.ref c),(O0 "turn",V.int t)] (O0 "turn") (V.int u)=[((O0 "cells" : Key),V.ref c),(O0 "turn",V.int u)]:=by
 unfold putK;simp[s_cs]
theorem qcS {H:Hp} {d c:Addr} {t u:Int} {ns:List Int} (S:StAt H d c t ns):DPut H d (.str "turn") (.int u) (Ag H d (.dK [(O0 "cells",.ref c),(O0 "turn",.int u)])):=by
 have h:=DPut.k (k:=O0 "turn") (v:=.int u) S.dict (by rw[B64];exact(by decide:2<16777216))
 rw[qYK] at h;exact h
theorem StAt.turn {H:Hp} {d c:Addr} {t u:Int} {ns:List Int} (S:StAt H d c t ns) (h:0<=u):StAt (Ag H d (.dK [(O0 "cells",.ref c),(O0 "turn",.int u)])) d c u ns:=
 ⟨qA1,by rw[qA7 (F6 S.ndc)];exact S.list,S.ne,S.len,h⟩
theorem StAt.put {H:Hp} {d c:Addr} {t:Int} {ns a:List Int} (S:StAt H d c t ns)(h:a.length=ns.length):StAt (Ag H c (.lst (a.map V.int))) d c t a:=
 ⟨by rw[qA7 S.ndc];exact S.dict,qA1,by rw[h];exact S.ne,by rw[h];exact S.len,S.pos⟩
abbrev TB:Int:=1000000000
def qJ9:Sp:=λvs H Q _=>∃d c t ns m,vs=[.ref d,.int m]/\StAt H d c t ns/\t<=TB/\1<=m/\m<=1000000/\∀k ns' H',0<=k->k<m->StAt H' d c (t+1) ns'->Keep d c H H'->Q (.int k) H'
def qUV (K:Ab1):Sp:=λvs H Q _=>∃(a:Addr) (ns:List Int),vs=[.ref a]/\SqL K H a (ns.map V.int)/\ns.length<=63/\∀d c ms H',StAt H' d c 0 ms->Same H H'->H d=none->H c=none->Q (.ref d) H'
noncomputable def cutI {α:Type}(xs:List α)(lo hi:Option Int):List α:=(xs.drop (HT.sIx xs.length 0 lo)).take (HT.sIx xs.length xs.length hi-HT.sIx xs.length 0 lo)
theorem qNG {α:Type} (f:α->V)(xs:List α)(lo hi:Option Int):cutV (xs.map f) lo hi=(cutI xs lo hi).map f:=by
 unfold cutV cutI;rw[A0,<- A89,<- B48]
theorem qa7 {α:Type} (xs:List α)(lo hi:Option Int):(cutI xs lo hi).length<=xs.length:=by
 unfold cutI;rw[C8,R1]
 lia
theorem qaR (c:Addr) (t:Int):qJT [] [((O0 (B6 "cells"):Key),V.ref c),(O0 (B6 "turn"),V.int t)]=[((O0 (B6 "cells"):Key),V.ref c),(O0 (B6 "turn"),V.int t)]:=by
 unfold qJT;simp only[Q4,B32];unfold putK;simp[s_cs]
theorem qQQ {xs:List V} {j:Nat} (h:j<xs.length):ixN xs.length (j:Int)=some j:=by
 unfold ixN;rw[if_pos (by lia),if_pos (by lia),D0]
def qfH (K:Ab1):Sp:=λvs H Q _=>∃(a:Addr) (ns:List Int),vs=[.ref a]/\SqL K H a (ns.map V.int)/\ns.length<=63/\∀H',Q (.bl true) H'
theorem cut {t u:TS} {D:Ends} {σ:St} {H:Hp} (h:∀N:St->Hp->Prop,(∀σ H,u D σ H->N σ H)->t {D with nx:=N} σ H):tSeq t u D σ H:=h _ λ_ _ z=>z
theorem opq {A:Prop} (h:∀G:Prop,(A->G)->G):A:=h A id
structure Rise (k:Int)(zs:List Int):Prop where
 up:zs.Pairwise (·<·)
 in_:∀x∈zs,0<=x/\x<k
theorem Rise.nil {k:Int} :Rise k []:=⟨.nil,λ_ h=>nomatch h⟩
theorem Rise.mono {j k:Int} {zs:List Int} (h:Rise j zs)(l:j<=k):Rise k zs:=⟨h.up,λx a=>⟨(h.in_ x a).1,by have:=(h.in_ x a).2;lia⟩⟩
theorem Rise.sub {k:Int} {zs a:List Int} (h:Rise k zs)(s:a.Sublist zs):Rise k a:=⟨h.up.sublist s,λx b=>h.in_ x (s.subset b)⟩
theorem Rise.snoc {k:Int} {zs:List Int} (h:Rise k zs)(e:0<=k):Rise (k+1) (zs++[k]):=by
 refine⟨Y7.mpr ⟨h.up,W9 _ _,λa c b d=>?_⟩,λx hx=>?_⟩
 ·rw[A6.mp d];exact(h.in_ a c).2
 ·rcases B8.mp hx with hx|hx
  ·have:=h.in_ x hx;lia
  ·rw[A6.mp hx];lia
theorem Rise.shift {k j:Int} {zs:List Int} (h:Rise k zs)(g:0<=j):Rise (k+j) (zs.map (·+j)):=by
 refine⟨G6.mpr (h.up.imp λ{a b} c=>by lia),λx f=>?_⟩
 obtain⟨y,d,e⟩:=E1.mp f;have:=h.in_ y d
 lia
theorem Rise.nodup {k:Int} {zs:List Int} (h:Rise k zs):zs.Nodup:=h.up.imp λ{a b} c=>by lia
theorem Rise.len {zs:List Int} {k:Nat} (h:Rise (k:Int) zs):zs.length<=k:=by
 have a:zs ⊆ (F5 k).map λ(i:Nat)=>(i:Int):=λx b=>by
  have:=h.in_ x b;exact E1.mpr ⟨x.toNat,E5.mpr (by lia),by lia⟩
 have:=O5 h.nodup a;simpa using this
theorem mem_addI {zs:List Int} {k x:Int} :x∈addI zs k↔x∈zs\/x=k:=by
 unfold addI
 split
 ·rename_i h
  constructor
  ·exact .inl
  ·rintro(z|rfl)
   ·exact z
   ·exact h
 ·simp
theorem qc5 {zs:List Int} {k:Int} (h:zs.Nodup):(addI zs k).Nodup:=by
 unfold addI
 split
 ·exact h
 ·rename_i hk
  exact qHS h hk
theorem qXD:∀(l zs:List Int),zs.Nodup->(l.foldl addI zs).Nodup/\∀x,x∈l.foldl addI zs↔x∈zs\/x∈l
 |[],zs,h=>⟨h,λx=>by simp⟩
 |k::r,zs,h=>by
  obtain⟨a,b⟩:=qXD r (addI zs k) (qc5 h);refine⟨a,λx=>?_⟩;rw[Q4,b x,mem_addI,B1,or_assoc]
theorem qU1 (l:List Int):(dedI l).Nodup:=(qXD l [] .nil).1
theorem mem_dedI {l:List Int} {x:Int} :x∈dedI l↔x∈l:=by
 have:=(qXD l [] .nil).2 x;unfold dedI;rw[this];simp
theorem qIT (l:List Int):(dedI l).length<=l.length:=by
 have:=qEH l [];simpa[dedI] using this
theorem qFI {zs:List Int} (d:zs.Pairwise (·<=·))(e:zs.Nodup):zs.Pairwise (·<·):=by
 have c:zs.Pairwise (λa b=>a<=b/\a≠b):=List.pairwise_and_iff.mpr ⟨d,e⟩;exact c.imp λ{a b} ⟨x,y⟩=>by lia
theorem qIN {k:Int} {a zs:List Int} (b:zs.Perm (dedI a))(c:zs.Pairwise (·<=·))(h:∀x∈a,0<=x/\x<k):Rise k zs:=
 ⟨qFI c (b.nodup_iff.mpr (qU1 a)),λx d=>h x (mem_dedI.mp (b.mem_iff.mp d))⟩
noncomputable def qB8 (lo hi:Int):List Int:=(F5 (hi-lo).toNat).map λ(i:Nat)=>lo+i
theorem qQ0 (lo hi:Int):qI3 lo hi=(qB8 lo hi).map V.int:=by
 unfold qI3 qB8;rw[Z8]
 rfl
theorem mem_rangeI {lo hi x:Int} :x∈qB8 lo hi↔lo<=x/\x<hi:=by
 unfold qB8;rw[E1]
 constructor
 ·rintro⟨i,a,e⟩;have:=E5.mp a
  lia
 ·intro h;exact⟨(x-lo).toNat,E5.mpr (by lia),by lia⟩
theorem qG3 (lo hi:Int):(qB8 lo hi).length=(hi-lo).toNat:=by unfold qB8;simp
theorem qD0 (lo hi:Int):(qB8 lo hi).Pairwise (·<·):=by
 unfold qB8;exact G6.mpr (U5.imp λ{a b} h=>by lia)
theorem qJF {lo hi:Int} (h:0<=lo):Rise hi (qB8 lo hi):=⟨qD0 _ _,λx a=>by have:=mem_rangeI.mp a;lia⟩
theorem qXJ {α:Type} (xs:List α)(k:Nat)(h:k<=xs.length):cutI xs (some (k:Int)) none=xs.drop k:=by
 unfold cutI;rw[HT.sIx_nat,HT.sIx_none,p5 h];exact E3 (by rw[R1];exact A7 _)
theorem qcX {α:Type} (xs:List α)(k:Nat):cutI xs none (some (k:Int))=xs.take k:=by
 unfold cutI;rw[HT.sIx_nat,HT.sIx_none,A63,A42];rcases B05 k xs.length with h|h
 ·rw[p5 h]
 ·rw[A19 h,E3 h,E3 (A7 _)]
abbrev NetL (H:Hp):List Addr->Aa0->Prop:=Paired λr zs=>H r=some (.tup (zs.map V.int))
theorem NetL.keep {d c:Addr} {H H':Hp} {rs:List Addr} {Ae:Aa0} (h:NetL H rs Ae)(a:∀r zs,H r=some (.tup zs)->r≠d/\r≠c)(k:Keep d c H H'):NetL H' rs Ae:=by
 induction h with
 |nil=>exact .nil
 |cons r t ih=>exact .cons (k _ _ r (a _ _ r).1 (a _ _ r).2) ih
theorem NetL.same {H H':Hp} {rs:List Addr} {Ae:Aa0} (h:NetL H rs Ae)(k:∀r zs,H r=some (.tup zs)->H' r=some (.tup zs)):NetL H' rs Ae:=by
 induction h with
 |nil=>exact .nil
 |cons r t ih=>exact .cons (k _ _ r) ih
theorem NetL.get {H:Hp} :∀{rs:List Addr} {Ae:Aa0} {i:Nat} {zs:List Int},NetL H rs Ae->Ae[i]?=some zs->∃r,rs[i]?=some r/\H r=some (.tup (zs.map V.int))
 |_,_,_,_,.nil,e=>by simp at e
 |_,_,0,_,.cons r _,e=>by simp at e;subst e;exact⟨_,rfl,r⟩
 |_,_,i+1,zs,.cons _ t,e=>by
  obtain⟨r,h1,h2⟩:=NetL.get (i:=i) (zs:=zs) t (by simpa using e)
  exact⟨r,by simpa using h1,h2⟩
def NetAt (H:Hp)(a:Addr)(Ae:Aa0):Prop:=∃rs:List Addr,H a=some (.tup (rs.map V.ref))/\NetL H rs Ae
theorem StAt.tup {H:Hp} {d c:Addr} {t:Int} {ns:List Int} (S:StAt H d c t ns){r:Addr}{zs:List V}(h:H r=some (.tup zs)):r≠d/\r≠c:=
 ⟨qC6 h S.dict (by intro z;cases z),qC6 h S.list (by intro z;cases z)⟩
theorem NetAt.keep {H H':Hp} {d c:Addr} {t:Int} {ns:List Int} (S:StAt H d c t ns){a:Addr}{Ae:Aa0}(h:NetAt H a Ae)(k:Keep d c H H'):NetAt H' a Ae:=by
 obtain⟨f,b,g⟩:=h;exact⟨f,k _ _ b (S.tup b).1 (S.tup b).2,g.keep (λr i e=>S.tup e) k⟩
theorem NetAt.same {H H':Hp} {a:Addr} {Ae:Aa0} (h:NetAt H a Ae)(k:Same H H'):NetAt H' a Ae:=by
 obtain⟨c,b,d⟩:=h;exact⟨c,k _ _ b,d.same λr f e=>k _ _ e⟩
theorem NetAt.len {H:Hp} {rs:List Addr} {Ae:Aa0} (h:NetL H rs Ae):rs.length=Ae.length:=C2 h
def WFn (Ae:Aa0):Prop:=∀(i:Nat) zs,Ae[i]?=some zs->Rise (i:Int) zs
theorem WFn.snoc {Ae:Aa0} {zs:List Int} (h:WFn Ae)(b:Rise (Ae.length:Int) zs):WFn (Ae++[zs]):=by
 intro i a e;rcases j3 i Ae.length with l|l|l
 ·rw[G4 l] at e;exact h i a e
 ·subst l;simp at e;subst e;exact b
 ·rw[K0 (by rw[A9,B9];lia)] at e
  cases e
theorem WFn.nil:WFn []:=λi a e=>by simp at e
theorem qCT {α β:Type} {F:α->β->Prop} {a:α} {b:β} {l₁:List α} {l₂:List β} (h:Paired F l₁ l₂)(r:F a b):Paired F (l₁++[a]) (l₂++[b]):=U3 h r
def qPS:Sp:=λvs H Q _=>∃d c t ns k,vs=[.ref d,.int k]/\StAt H d c t ns/\t<=TB-20/\0<=k/\k<=63/\
 ∀r zs t' ns' H',StAt H' d c t' ns'->t<=t'->t'<=t+9->Keep d c H H'->H' r=some (.tup (zs.map V.int))->Rise k zs->Q (.ref r) H'
def qdM:Sp:=λvs H Q _=>∃d c t ns m,vs=[.ref d,.int m]/\StAt H d c t ns/\t<=TB-10000/\1<=m/\m<=63/\
 ∀a Ae t' ns' H',StAt H' d c t' ns'->t<=t'->t'<=t+10*m+10->Keep d c H H'->NetAt H' a Ae->WFn Ae->(Ae.length:Int)=m->Q (.ref a) H'
theorem qfU {a b k:Int} (c:0<=k)(d:k<4):∃v,atI [V.int a,V.int b] (k/3)=some (.int v)/\(v=a\/v=b):=by
 rcases(by lia:k=0\/k=1\/k=2\/k=3) with rfl|rfl|rfl|rfl
 ·exact⟨a,rfl,.inl rfl⟩
 ·exact⟨a,rfl,.inl rfl⟩
 ·exact⟨a,rfl,.inl rfl⟩
 ·exact⟨b,rfl,.inr rfl⟩
theorem qfT {k:Int} (a:0<=k)(b:k<6):∃v,atI [V.int 0,V.int 0,V.int 1,V.int 2,V.int 2,V.int 3] k=some (.int v)/\0<=v/\v<=3:=by
 rcases(by lia:k=0\/k=1\/k=2\/k=3\/k=4\/k=5) with rfl|rfl|rfl|rfl|rfl|rfl
 all_goals exact⟨_,rfl,by decide,by decide⟩
theorem qAD {H Hc:Hp} {p:Addr} {o:HO} (h:Same H Hc)(a:H p=none):Same H (Ag Hc p o):=λb u e=>by rw[qA7 (qA5 e a)];exact h b u e
theorem qH0 {d c:Addr} {H Hc:Hp} {p:Addr} {o:HO} (h:Keep d c H Hc)(a:H p=none):Keep d c H (Ag Hc p o):=λb u e f g=>by rw[qA7 (qA5 e a)];exact h b u e f g
theorem qE7 {H:Hp} {p:Addr} {xs:List V} {o:HO} {rs:List Addr} {Ae:Aa0} (h:NetL H rs Ae)(a:H p=some (.lst xs)):NetL (Ag H p o) rs Ae:=
 h.same λr b e=>by rw[qA7 (qC6 e a (by intro z;cases z))];exact e
theorem qB4 (rs:List Addr)(r:Addr):rs.map V.ref++[V.ref r]=(rs++[r]).map V.ref:=by rw[C1];rfl
theorem qdV (b:Bool)(x:Int):(D8 (if b=true then(1:Int) else 0).toNat [V.int x]).flatten=(if b=true then[x] else[]).map V.int:=by cases b<;>rfl
theorem qAY {α β:Type} {F:α->β->Prop} :∀{l₁:List α} {l₂:List β} {i:Nat} {a:α},Paired F l₁ l₂->l₁[i]?=some a->∃b,l₂[i]?=some b/\F a b
 |_,_,_,_,.nil,e=>by simp at e
 |_,_,0,_,.cons r _,e=>by simp at e;subst e;exact⟨_,rfl,r⟩
 |_,_,i+1,a,.cons _ t,e=>by
  obtain⟨b,h1,h2⟩:=qAY (i:=i) (a:=a) t (by simpa using e)
  exact⟨b,by simpa using h1,h2⟩
theorem qEK {α β:Type} {F G:α->β->Prop} {l₁:List α} {l₂:List β} (h:Paired F l₁ l₂)(k:∀a b,F a b->G a b):Paired G l₁ l₂:=by
 induction h with
 |nil=>exact .nil
 |cons r t ih=>exact .cons (k _ _ r) ih
theorem qEG {rs:List Addr} {i:Nat} {x:V} (h:(rs.map V.ref)[i]?=some x):∃r,rs[i]?=some r/\x=.ref r:=by
 rw[C5] at h;cases e:rs[i]? with
 |none=>rw[e] at h;cases h
 |some r=>rw[e] at h;exact⟨r,rfl,(D1 h).symm⟩
theorem qB5 {zs:List Int} {i:Nat} {x:V} (h:(zs.map V.int)[i]?=some x):∃z,zs[i]?=some z/\x=.int z:=by
 rw[C5] at h;cases e:zs[i]? with
 |none=>rw[e] at h;cases h
 |some r=>rw[e] at h;exact⟨r,rfl,(D1 h).symm⟩
theorem qRO {α:Type} {l:List α} {a b:α} {j:Nat} (h:(l++[a])[j]?=some b):l[j]?=some b\/(j=l.length/\b=a):=by
 rcases j3 j l.length with z|z|z
 ·rw[G4 z] at h;exact .inl h
 ·subst z;simp at h;exact .inr ⟨rfl,h.symm⟩
 ·rw[K0 (by rw[A9,B9];lia)] at h
  cases h
theorem qK4 (a:Int)(zs:List Int):inV (.int a) (zs.map V.int)=decide (a∈zs):=by
 unfold inV
 induction zs with
 |nil=>simp
 |cons z r ih=>
  rw[C9,Y3,ih];have e:eqV (.int z) (.int a)=decide (a=z):=by
   by_cases h:z=a
   ·subst h;simp[eqV]
   ·have b:¬a=z:=λq=>h q.symm;simp[eqV,h,b]
  rw[e];simp[B1]
theorem qFM (zs:List Int):(zs.map V.int).all qN3=true:=by
 rw[R3];intro x a;obtain⟨z,_,rfl⟩:=E1.mp a
 rfl
noncomputable def qE0 (ns st:List Int) (Aa wk:Int):V:=if wk∈st then .str "there" else if∀x∈ns,x∈st then(if Aa<=(st.length:Int) then .str "full" else .non) else .str "needs"
noncomputable def qDQ (st:List Int) (wk:Int):V:=if wk∈st then .non else .str "empty"
def qNY:Sp:=λvs H Q _=>∃(a s:Addr) (Ae:Aa0) (st ns:List Int) (Aa wk:Int),vs=[.ref a,.int Aa,.ref s,.int wk]/\NetAt H a Ae/\H s=some (.tup (st.map V.int))/\st.length<=63/\0<=wk/\Ae[wk.toNat]?=some ns/\
 ∀H',Same H H'->Q (qE0 ns st Aa wk) H'
noncomputable def qCA (ns st:List Int) (Aa:Int) (Ac:Str) (wk:Int):V:=if Ac = "do" then qE0 ns st Aa wk else qDQ st wk
def qMG:Sp:=λvs H Q _=>∃(a s mv:Addr) (Ae:Aa0) (st ns:List Int) (Aa wk:Int) (Ac:Str),vs=[.ref a,.int Aa,.ref s,.ref mv]/\NetAt H a Ae/\H s=some (.tup (st.map V.int))/\st.length<=63/\H mv=some (.tup [.str Ac,.int wk])/\(Ac = "do"\/Ac = "clear")/\0<=wk/\Ae[wk.toNat]?=some ns/\ns.length<=63/\
 ∀H',Same H H'->Q (qCA ns st Aa Ac wk) H'
theorem qJ2 (ns st:List Int)(Aa:Int)(Ac:Str)(a:Int):qCA ns st Aa Ac a=.non\/∃y,qCA ns st Aa Ac a=.str y:=by
 unfold qCA qE0 qDQ
 split
 ·split
  ·exact .inr ⟨_,rfl⟩
  ·split
   ·split
    ·exact .inr ⟨_,rfl⟩
    ·exact .inl rfl
   ·exact .inr ⟨_,rfl⟩
 ·split
  ·exact .inl rfl
  ·exact .inr ⟨_,rfl⟩
theorem qAH:¬(B6 "clear" = B6 "do"):=by decide +kernel
theorem qDV {xs:List V} {i:Int} {x:V} (a:0<=i)(h:xs[i.toNat]?=some x):atI xs i=some x:=by
 have e:i=((i.toNat:Nat):Int):=by lia
 rw[e];exact qXX (by simpa using h)
theorem NetAt.get {H:Hp} {a:Addr} {Ae:Aa0} {ns:List Int} {i:Nat} (h:NetAt H a Ae)(e:Ae[i]?=some ns):∃(rs:List Addr) (r:Addr),H a=some (.tup (rs.map V.ref))/\rs.length=Ae.length/\(rs.map V.ref)[i]?=some (.ref r)/\H r=some (.tup (ns.map V.int)):=by
 obtain⟨rs,d,b⟩:=h;obtain⟨r,c,f⟩:=b.get e;exact⟨rs,r,d,C2 b,by rw[C5,c];rfl,f⟩
def qfA (t:TS):TS:=λD σ H=>∃Pm:St->Hp->Prop,t {D with nx:=Pm} σ H/\∀σ' H',Pm σ' H'->D.nx σ' H'
theorem qbR {X:Cx} {st:Stmt} {t:TS} (h:PS X st t):PS X st (qfA t):=by
 intro b s σ H D I a;obtain⟨j,e,g⟩:=a;refine thn (h b s σ H _ I e) λf i q=>?_;cases f with
 |next=>obtain⟨σ',c,d,q⟩:=q;exact⟨σ',c,d,g _ _ q⟩
 |brk=>exact q
 |cont=>exact q
 |ret u=>exact q
theorem qeW {ns st:List Int} :(((ns.map λx=>decide (x∈st)).all id)=true)↔∀x∈ns,x∈st:=by
 rw[R3]
 constructor
 ·intro h x a;have:=h _ (E1.mpr ⟨x,a,rfl⟩);exact of_decide_eq_true this
 ·intro h b c;obtain⟨x,a,rfl⟩:=E1.mp c;exact decide_eq_true (h x a)
def seqO (b:Bool)(xs:List V):HO:=match b with|true=>.tup xs|false=>.lst xs
theorem qDW {α:Type} {p:α->Bool} {l:List α} {i:Nat} {x:α} (h:l[i]?=some x):(l.take (i+1)).filter p=(l.take i).filter p++(if p x then[x] else[]):=by
 rw[D3,h,D5,u9];by_cases a:p x=true
 ·simp[a]
 ·simp[a]
end Fw
namespace L2
open PySem PySem.Spec PyProof.Rows
def SqO (b:Bool)(K:Ab1)(H:Hp)(a:Addr)(xs:List V):Prop:=match b with|true=>SqT K H a xs|false=>SqL K H a xs
def ItO (b:Bool)(K:Ab1)(a:Addr):It:=match b with|true=>Itt K a|false=>Itl K a
def iSeq (K:Ab1)(tl:TE):TI:=λσ H R=>tl σ H λx H1=>∃(b:Bool) (a:Addr),x=.ref a/\(∃xs,SqO b K H1 a xs)/\R (ItO b K a) H1
section
variable{X:Cx}{tg:Expr}
theorem qe3 {l:Expr} {g:TE} (k:PE X l g):PI X tg l (iSeq X.K g):=by
 intro i s σ H R I h;refine thn (k i s σ H _ I h) λv s1 ⟨x,H1,I1,r1,q1⟩=>?_;obtain⟨b,a,e,⟨n,f⟩,q⟩:=q1;subst e;cases r1;cases b with
 |false=>
  obtain⟨c,m,p,j⟩:=I1.list f;refine B84 p.isList ?_;refine⟨s1.heap.objs.size,[s1.heap.objs.size],_,_,H1,rfl,I1.kept (t':=s1.toks) λb o e=>A3 _ e,qNS a _,⟨_,B3 _ rfl,rfl,rfl⟩,λb d=>?_,q⟩;cases A6.mp d;exact I1.fpOk (A7 _) (I1.hok.fresh (A7 _))
 |true=>
  obtain⟨c,m,p,j⟩:=I1.tuple f;refine C26 (show s1.heap.IsTuple a c.toArray from p) ?_;refine⟨s1.heap.objs.size,[s1.heap.objs.size],_,_,H1,rfl,I1.kept (t':=s1.toks) λb o e=>A3 _ e,qLG a _,⟨_,B3 _ rfl,rfl,rfl⟩,λb d=>?_,q⟩;cases A6.mp d;exact I1.fpOk (A7 _) (I1.hok.fresh (A7 _))
end
theorem qeC {b:Bool} {K:Ab1} {a:Addr} {xs:List V} {g:TG} {f:TT} {c:TE} {Kf:Hp->Prop} {σ0:St} {H0:Hp} {p:Addr} (Pv:Nat->St->Hp->Prop)(j:Pv 0 σ0 H0)(h:∀i σ H,i<=xs.length->Pv i σ H->SqO b K H a xs)
  (d:∀i x σ H,xs[i]?=some x->Pv i σ H->g x σ H λσ2 H2=>f σ2 H2 λb H3=>if b=true then c σ2 H3 λy H4=>∃ys,H4 p=some (.lst ys)/\ys.length<B62/\Pv (i+1) σ2 (Ag H4 p (.lst (ys++[y]))) else Pv (i+1) σ2 H3)
  (e:∀σ H,Pv xs.length σ H->Kf H):
  LcG (ItO b K a) g f c Kf σ0 H0 p:=by
 cases b with
 |true=>exact qFJ Pv j h d e
 |false=>exact qHU Pv j h d e
open PySem PySem.Spec PyProof.Rows Fw
section
variable{X:Cx}{e:Expr}{te:TE}{st:Option Expr}{tst:TO}{pos p2:Pos}
def qfN:V->Option Int->Option Int->Hp->VK->Prop:=λx lo hi H Q=>∃a xs,x=.ref a/\H a=some (.tup xs)/\∀p H',Same H H'->H' p=some (.tup (cutV xs lo hi))->Q (.ref p) H'
theorem qPV:SlR X qfN:=by
 intro y s σ H x v vl z k g sl Q I t l n o h;obtain⟨a,c,rfl,j,q⟩:=h;by_cases f:HT.sIx c.length 0 k=0/\HT.sIx c.length c.length g=c.length
 ·cases t;obtain⟨i,r,m,hz⟩:=I.tuple (Ac0 j);have d:i.toArray.size=c.length:=by rw[B5];exact r.length.symm
  refine⟨"tuple",_,J9.lookup,m.typeIs,?_⟩;refine HT.getItem_tuple_whole m l n o (by rw[d];exact f) ⟨.ref a,H,I,rfl,q a H (λ_ _ e=>e) ?_⟩
  have:cutV c k g=c:=by
   unfold cutV;rw[f.1,f.2,A63,A42,X3]
  rw[this];exact j
 ·exact qdO y s σ H (.ref a) v vl z k g sl Q I t l n o ⟨a,c,rfl,Ac0 j,f,λp w=>q p _ (λb u e=>by rw[qA7 (qA5 e w)];exact e) qA1⟩
end
end L2
namespace Fw
open PySem L2
abbrev MovL (H:Hp):List Addr->List (Str×Int)->Prop:=Paired λr m=>H r=some (.tup [.str m.1,.int m.2])
theorem MovL.same {H H':Hp} {rs:List Addr} {a:List (Str×Int)} (h:MovL H rs a)(k:Same H H'):MovL H' rs a:=by
 induction h with
 |nil=>exact .nil
 |cons r t ih=>exact .cons (k _ _ r) ih
theorem MovL.put {H:Hp} {p:Addr} {xs:List V} {o:HO} {rs:List Addr} {a:List (Str×Int)} (h:MovL H rs a)(b:H p=some (.lst xs)):MovL (Ag H p o) rs a:=by
 induction h with
 |nil=>exact .nil
 |cons r t ih=>exact .cons (by rw[qA7 (qC6 r b (by intro z;cases z))];exact r) ih
theorem qLP {α β:Type} {F:α->β->Prop} {a c:List α} {b d:List β} (h:Paired F a b)(k:Paired F c d):Paired F (a++c) (b++d):=by
 induction h with
 |nil=>exact k
 |cons r t ih=>exact .cons r ih
theorem qG5 {α β:Type} {F:α->β->Prop} :∀{l₁:List α} {l₂:List β} {i:Nat} {b:β},Paired F l₁ l₂->l₂[i]?=some b->∃a,l₁[i]?=some a/\F a b
 |_,_,_,_,.nil,e=>by simp at e
 |_,_,0,_,.cons r _,e=>by simp at e;subst e;exact⟨_,rfl,r⟩
 |_,_,i+1,b,.cons _ t,e=>by
  obtain⟨a,h1,h2⟩:=qG5 (i:=i) (b:=b) t (by simpa using e)
  exact⟨a,by simpa using h1,h2⟩
theorem MovL.snoc {H:Hp} {rs:List Addr} {a:List (Str×Int)} {r:Addr} {wo:Str} {x:Int} (h:MovL H rs a)(e:H r=some (.tup [.str wo,.int x])):MovL H (rs++[r]) (a++[(wo,x)]):=U3 h e
theorem MovL.app {H:Hp} {rs b:List Addr} {c a:List (Str×Int)} (h:MovL H rs c)(h':MovL H b a):MovL H (rs++b) (c++a):=qLP h h'
noncomputable def qJS (w:Str)(n:Nat):List (Str×Int):=(F5 n).map λ(i:Nat)=>(w,(i:Int))
theorem qLS (w:Str)(n:Nat):qJS w (n+1)=qJS w n++[(w,0+(n:Int))]:=by
 unfold qJS;rw[B26,C1,B06]
 rfl
theorem qFH (w:Str)(n:Nat):(qJS w n).length=n:=by unfold qJS;simp
noncomputable def wd (Ae:Aa0)(st:List Int)(Aa:Int)(m:Str×Int):V:=qCA ((Ae[m.2.toNat]?).getD []) st Aa m.1 m.2
noncomputable def qND (n:Nat):List (Str×Int):=qJS "do" n++qJS "clear" n
noncomputable def qCG (Ae:Aa0)(st:List Int)(Aa:Int):List (Str×Int):=(qND Ae.length).filter λm=>decide (wd Ae st Aa m=.non)
theorem qOW (n:Nat):(qND n).length=n+n:=by unfold qND;rw[A9,qFH,qFH]
theorem qSK {n:Nat} {m:Str×Int} (h:m∈qND n):(m.1 = "do"\/m.1 = "clear")/\0<=m.2/\m.2<(n:Int):=by
 unfold qND qJS at h;rcases B8.mp h with h|h
 ·obtain⟨i,a,rfl⟩:=E1.mp h;have:=E5.mp a;exact⟨.inl rfl,by simp;lia⟩
 ·obtain⟨i,a,rfl⟩:=E1.mp h;have:=E5.mp a;exact⟨.inr rfl,by simp;lia⟩
def qNX:Sp:=λvs H Q _=>∃(a s:Addr) (Ae:Aa0) (st:List Int) (Aa:Int),vs=[.ref a,.int Aa,.ref s]/\NetAt H a Ae/\WFn Ae/\Ae.length<=63/\H s=some (.tup (st.map V.int))/\st.length<=63/\
 ∀l rs H',Same H H'->H l=none->H' l=some (.lst (rs.map V.ref))->MovL H' rs (qCG Ae st Aa)->Q (.ref l) H'
theorem rep0:∀n:Nat,(D8 n [V.int 0]).flatten=(D8 n (0:Int)).map V.int
 |0=>rfl
 |n+1=>by rw[M5,M5,R6,rep0 n];rfl
theorem qCK {n:Int} {i:Nat} (h:(i:Int)<n):(qB8 0 n)[i]?=some (i:Int):=by
 unfold qB8;rw[C5,A76 (by lia)]
 simp
theorem qB2 {α:Type} {l:List α} {n:Nat} (h:l.length=n):l.take n=l:=E3 (by lia)
theorem qCE {p:Int->Bool} {l:List Int} {i:Nat} :((l.take i).filter p).length<=i:=by
 have:=M6 p (l.take i);rw[C8] at this
 lia
structure Cnt (n:Nat)(cs:List Int)(seen:List Int):Prop where
 len:cs.length=n
 at_:∀x:Nat,x<n->∃c,cs[x]?=some c/\0<=c/\(c=0↔(x:Int)∉seen)
theorem small_n {n:Nat} (h:n<=1000000):n<B62:=by rw[B64];lia
inductive Nd (Ae:Aa0)(Ad:List Int):Int->Prop
 |ask {x:Int}:x∈Ad->Nd Ae Ad x
 |need {w y:Int} {zs:List Int}:Nd Ae Ad w->Ae[w.toNat]?=some zs->y∈zs->Nd Ae Ad y
structure KeysI (Af:List (Key×V))(ks:List Int):Prop where
 keys:Af.map (·.1)=ks.map F4
 nd:ks.Nodup
theorem KeysI.len {Af:List (Key×V)} {ks:List Int} (h:KeysI Af ks):Af.length=ks.length:=by
 have:=congrArg n8 h.keys;simpa using this
theorem KeysI.nil:KeysI [] []:=⟨rfl,.nil⟩
theorem qR6 (k:Key):∀Af:List (Key×V),(Af.any λkv=>decide (kv.1=k))=true↔k∈Af.map (·.1)
 |[]=>by simp
 |p::r=>by
  rw[Y3,C9,b8,qR6 k r,B1,decide_eq_true_eq];exact or_congr_left ⟨Eq.symm,Eq.symm⟩
theorem KeysI.mem {Af:List (Key×V)} {ks:List Int} (h:KeysI Af ks)(x:Int):(F4 x:Key)∈Af.map (·.1)↔x∈ks:=by
 rw[h.keys,E1];exact⟨λ⟨y,a,e⟩=>W6 e▸a,λb=>⟨x,b,rfl⟩⟩
theorem KeysI.has {Af:List (Key×V)} {ks:List Int} (h:KeysI Af ks)(x:Int):(valV Af (F4 x)).isSome=decide (x∈ks):=by
 rw[<- qFY];have:=(qR6 (F4 x) Af).trans (h.mem x);by_cases e:x∈ks
 ·rw[decide_eq_true e];exact this.mpr e
 ·rw[decide_eq_false e];exact R8.mpr λz=>e (this.mp z)
theorem qS8 (k:Key)(v:V):∀Af:List (Key×V),(Af.map λkv=>if kv.1=k then(kv.1,v) else kv).map (·.1)=Af.map (·.1)
 |[]=>rfl
 |p::r=>by
  rw[C9,C9,C9,qS8 k v r];congr 1
  split<;>rfl
theorem KeysI.put {Af:List (Key×V)} {ks:List Int} (h:KeysI Af ks)(x:Int)(v:V):KeysI (putK Af (F4 x) v) (addI ks x):=by
 have a:=(qR6 (F4 x) Af).trans (h.mem x);unfold putK addI;by_cases e:x∈ks
 ·rw[if_pos (a.mpr e),if_pos e];exact⟨by rw[qS8];exact h.keys,h.nd⟩
 ·rw[if_neg λz=>e (a.mp z),if_neg e];refine⟨by rw[C1,C1,h.keys];rfl,qHS h.nd e⟩
theorem qS7 {ks:List Int} {n:Nat} (h:ks.Nodup)(b:∀x∈ks,0<=x/\x<(n:Int)):ks.length<=n:=by
 have a:ks ⊆ (F5 n).map λ(i:Nat)=>(i:Int):=λx c=>by
  have:=b x c;exact E1.mpr ⟨x.toNat,E5.mpr (by lia),by lia⟩
 have:=O5 h a;simpa using this
structure Fnd (Ae:Aa0)(Ad ks:List Int)(j:Int):Prop where
 in_:∀x∈ks,(0<=x/\x<(Ae.length:Int))/\Nd Ae Ad x
 ask:∀x∈Ad,x∈ks
 clo:∀(w:Nat) zs,j<=(w:Int)->(w:Int)∈ks->Ae[w]?=some zs->∀y∈zs,y∈ks
theorem Fnd.all {Ae:Aa0} {Ad ks:List Int} (c:WFn Ae)(h:Fnd Ae Ad ks 0)(x:Int):x∈ks↔Nd Ae Ad x:=by
 refine⟨λa=>(h.in_ x a).2,λa=>?_⟩
 induction a with
 |ask m=>exact h.ask _ m
 |@need w y zs _ e m ih=>
  have b:=(h.in_ w ih).1;exact h.clo w.toNat zs (by lia) (by rw[show((w.toNat:Nat):Int)=w by lia];exact ih) e y m
def qAJ (Ae:Aa0)(Ad zs:List Int):Prop:=Rise (Ae.length:Int) zs/\∀x,x∈zs↔Nd Ae Ad x
theorem qHH:∀{l m:List Int},l.Pairwise (·<·)->m.Pairwise (·<·)->(∀x,x∈l↔x∈m)->l=m
 |[],[],_,_,_=>rfl
 |[],y::m,_,_,h=>absurd ((h y).mpr (by simp)) (by simp)
 |x::l,[],_,_,h=>absurd ((h x).mp (by simp)) (by simp)
 |x::l,y::m,hl,hm,h=>by
  have l1:=O6.mp hl;have m1:=O6.mp hm;have exy:x=y:=by
   rcases B1.mp ((h x).mp (by simp)) with e|e
   ·exact e
   ·rcases B1.mp ((h y).mpr (by simp)) with e2|e2
    ·exact e2.symm
    ·have:=m1.1 x e;have:=l1.1 y e2
     lia
  subst exy;rw[qHH l1.2 m1.2 λz=>?_]
  constructor
  ·intro hz;rcases B1.mp ((h z).mp (by simp[hz])) with e|e
   ·have:=l1.1 z hz;lia
   ·exact e
  ·intro hz;rcases B1.mp ((h z).mpr (by simp[hz])) with e|e
   ·have:=m1.1 z hz;lia
   ·exact e
noncomputable def qGF (ws:List Int)(x:Int):Option Int:=if x∈ws then some (ws.idxOf x:Int) else none
theorem qJI {ws:List Int} {x p:Int} (h:qGF ws x=some p):0<=p/\ws[p.toNat]?=some x:=by
 unfold qGF at h
 split at h
 ·rename_i m
  cases h;have a:=List.idxOf_lt_length_iff.mpr m;refine⟨by lia,?_⟩
  rw[D0,A4 a,List.getElem_idxOf]
 ·cases h
theorem qE6 {ws:List Int} (b:ws.Nodup){x:Int}{i:Nat}(h:ws[i]?=some x):qGF ws x=some (i:Int):=by
 obtain⟨a,e⟩:=A5.mp h;unfold qGF;rw[if_pos (by rw[<- e];exact Z2 a),<- e,b.idxOf_getElem]
theorem qTA {ws:List Int} (d:ws.Nodup){i:Nat}{y:Int}(h:ws[i]?=some y)(x:Int):qGF (ws.take (i+1)) x=if x=y then some (i:Int) else qGF (ws.take i) x:=by
 obtain⟨f,e⟩:=A5.mp h;have c:ws.take (i+1)=ws.take i++[y]:=by rw[D3,h];rfl
 have b:(ws.take (i+1)).Nodup:=d.sublist (Y2 _ _);by_cases a:x=y
 ·subst a;rw[if_pos rfl];exact qE6 b (by rw[J8 (by lia)];exact h)
 ·rw[if_neg a];unfold qGF;rw[c];by_cases m:x∈ws.take i
  ·rw[if_pos (by simp[m]),if_pos m,List.idxOf_append,if_pos m]
  ·rw[if_neg (by simp[m,a]),if_neg m]
noncomputable def qBQ (Ae:Aa0)(ws:List Int):Aa0:=ws.map λw=>((Ae[w.toNat]?).getD []).filterMap (qGF ws)
theorem qBP (Ae:Aa0)(ws:List Int):(qBQ Ae ws).length=ws.length:=by simp[qBQ]
theorem qFG {Ae:Aa0} {ws:List Int} {i:Nat} {w:Int} (h:ws[i]?=some w):(qBQ Ae ws)[i]?=some (((Ae[w.toNat]?).getD []).filterMap (qGF ws)):=by
 unfold qBQ;rw[C5,h]
 rfl
theorem qNR {ws:List Int} (g:ws.Pairwise (·<·)){i j:Nat}{x y:Int}(l:ws[i]?=some x)(k:ws[j]?=some y):i<j↔x<y:=by
 obtain⟨e,n⟩:=A5.mp l;obtain⟨f,m⟩:=A5.mp k;have c:∀a b (ha:a<ws.length) (hb:b<ws.length),a<b->ws[a]<ws[b]:=λa b ha hb d=>P5.mp g a b ha hb d
 constructor
 ·intro h;have:=c i j e f h
  lia
 ·intro h;rcases j3 i j with z|z|z
  ·exact z
  ·subst z
   lia
  ·have:=c j i f e z
   lia
theorem qJ5 {ws zs:List Int} (i:ws.Pairwise (·<·))(h:zs.Pairwise (·<·)):(zs.filterMap (qGF ws)).Pairwise (·<·):=by
 rw[c6];refine h.imp λ{a b} c p f q g=>?_;obtain⟨j,d⟩:=qJI f;obtain⟨k,e⟩:=qJI g;have:=(qNR i d e).mpr c
 lia
theorem qC7 {ws zs:List Int} (d:ws.Nodup){p:Int}:p∈zs.filterMap (qGF ws)↔0<=p/\∃x,ws[p.toNat]?=some x/\x∈zs:=by
 rw[G8]
 constructor
 ·rintro⟨x,b,e⟩;obtain⟨c,a⟩:=qJI e;exact⟨c,x,a,b⟩
 ·rintro⟨c,x,a,b⟩;refine⟨x,b,?_⟩;have:=qE6 d a;rw[this];congr 1
  lia
theorem qGW {Ae:Aa0} (a:WFn Ae)(w:Nat):Rise (w:Int) ((Ae[w]?).getD []):=by
 cases e:Ae[w]? with
 |none=>exact Rise.nil
 |some zs=>exact a w zs e
theorem qDN {Ae:Aa0} {ws:List Int} (e:WFn Ae)(r:Rise (Ae.length:Int) ws):WFn (qBQ Ae ws):=by
 intro i m h;have a:i<ws.length:=by rw[<- qBP Ae ws];exact(A5.mp h).1
 have c:=A4 a;rw[qFG c] at h;cases h;have k:=(r.in_ ws[i] (Z2 a)).1;have b:=qGW e ws[i].toNat;refine⟨qJ5 r.up b.up,λp f=>?_⟩;obtain⟨l,x,d,g⟩:=(qC7 r.nodup).mp f;have j:=b.in_ x g;have:=(qNR r.up d c).mpr (by lia)
 lia
theorem qYW {Ae:Aa0} (j:WFn Ae):qBQ Ae (qB8 0 Ae.length)=Ae:=by
 have d:Rise (Ae.length:Int) (qB8 0 Ae.length):=qJF (L7 0);apply A04;intro i;by_cases f:i<Ae.length
 ·have e:=qCK (n:=(Ae.length:Int)) (i:=i) (by lia)
  rw[qFG e,D0,A4 f];have c:=j i _ (A4 f);congr 1;show Ae[i].filterMap _=Ae[i];refine qHH (qJ5 d.up c.up) c.up λp=>?_;rw[qC7 d.nodup]
  constructor
  ·rintro⟨l,x,a,k⟩;have h:=(A5.mp a).1;rw[qG3] at h;rw[qCK (by lia)] at a
   have:x=p:=by have:=D1 a;lia
   rw[<- this];exact k
  ·intro g;have b:=c.in_ p g;refine⟨b.1,p,?_,g⟩;rw[qCK (by lia)]
   congr 1
   lia
 ·rw[K0 (by rw[qBP,qG3];lia),K0 (by lia)]
def qUX:Sp:=λvs H Q _=>∃(a t:Addr) (Ae:Aa0) (Ad:List Int),vs=[.ref a,.ref t]/\NetAt H a Ae/\WFn Ae/\Ae.length<=63/\H t=some (.tup (Ad.map V.int))/\(∀x∈Ad,0<=x/\x<(Ae.length:Int))/\
 ∀l zs H',Same H H'->H l=none->H' l=some (.lst (zs.map V.int))->qAJ Ae Ad zs->Q (.ref l) H'
def qdL:Sp:=λvs H Q _=>∃(r d:Addr) (zs:List Int) (Af:List (Key×V)) (num:Int->Option Int),vs=[.ref r,.ref d]/\H r=some (.tup (zs.map V.int))/\zs.length<=63/\H d=some (.dK Af)/\(∀x,valV Af (F4 x)=(num x).map V.int)/\
 ∀r' H',Same H H'->H' r'=some (.tup ((zs.filterMap num).map V.int))->Q (.ref r') H'
abbrev Mv:=Str×Int
def nd (Ae:Aa0)(w:Int):List Int:=(Ae[w.toNat]?).getD []
theorem qAS {Ae:Aa0} {w:Int} {zs:List Int} (h:Ae[w.toNat]?=some zs):nd Ae w=zs:=by unfold nd;rw[h];rfl
noncomputable def qaU (Ae:Aa0):List Int->Int->Option Int
 |[],_=>none
 |w::r,y=>match qaU Ae r y with
  |some v=>some v
  |none=>if y∈nd Ae w then some w else none
def later (Ae:Aa0)(zs:List Int)(j:Nat)(x:Int):Prop:=∃v∈zs.drop j,x∈nd Ae v
instance (Ae:Aa0) (zs:List Int) (j:Nat) (x:Int):Decidable (later Ae zs j x):=by unfold later;infer_instance
noncomputable def clrs (Ae:Aa0)(Ad zs:List Int)(w:Int):List Int:=(nd Ae w).filter λy=>decide (qaU Ae zs y=some w/\y∉Ad)
noncomputable def qfW (Ae:Aa0) (Ad zs:List Int) (w:Int):List Mv:=("do",w)::(clrs Ae Ad zs w).map λy=>("clear",y)
noncomputable def qe1 (Ae:Aa0)(Ad zs:List Int):List Mv:=zs.flatMap (qfW Ae Ad zs)
inductive Run (Ae:Aa0)(Aa:Int):List Int->List Mv->List Int->Prop
 |nil {s:List Int}:Run Ae Aa s [] s
 |do_ {s s' t:List Int} {w:Int} {ms:List Mv}:w∉s->(∀y∈nd Ae w,y∈s)->(s.length:Int)<Aa->s'.Perm (s++[w])->s'.Pairwise (·<·)->Run Ae Aa s' ms t->Run Ae Aa s (("do",w)::ms) t
 |clear {s t:List Int} {w:Int} {ms:List Mv}:w∈s->Run Ae Aa (s.filter λx=>decide (x≠w)) ms t->Run Ae Aa s (("clear",w)::ms) t
noncomputable def qCH (ms:List Mv):List Int:=ms.filterMap λ(m:Mv)=>if m.1=B6 "do" then some m.2 else none
theorem qXB (a b:List Mv):qCH (a++b)=qCH a++qCH b:=Y1
theorem qaH:∀{s:List Int} {w:Int},s.Nodup->w∈s->(s.filter λx=>decide (x≠w)).length+1=s.length
 |[],w,_,h=>by cases h
 |x::s,w,n,h=>by
  have n2:=J7.mp n;by_cases e:x=w
  ·subst e;have:s.filter (λy=>decide (y≠x))=s:=X0.mpr λy hy=>decide_eq_true λz=>n2.1 (z▸hy);rw[L5,if_neg (by simp),this,C6]
  ·rw[L5,if_pos (by simpa using e),C6,C6,qaH n2.2 ((B1.mp h).resolve_left λz=>e z.symm)]
section
variable{Ae:Aa0}{Ad zs:List Int}
theorem qEL (f:WFn Ae)(N:qAJ Ae Ad zs){i:Nat}{w y:Int}(h:zs[i]?=some w)(a:y∈nd Ae w):y∈zs.take i/\y<w:=by
 have b:=B0 h;have m:=N.1.in_ w b;have j:w.toNat<Ae.length:=by lia
 have e:=A4 j;rw[qAS e] at a;have l:=(f w.toNat _ e).in_ y a;have g:y∈zs:=(N.2 y).mpr (.need ((N.2 w).mp b) e a);obtain⟨k,c⟩:=D6 g;have d:k<i:=(qNR N.1.up c h).mpr (by lia)
 refine⟨B0 (i:=k) (by rw[J8 d];exact c),by lia⟩
theorem qaA (N:qAJ Ae Ad zs)(c:WFn Ae){i:Nat}{w:Int}(h:zs[i]?=some w):w∈Ad\/later Ae zs (i+1) w:=by
 have b:=B0 h;cases(N.2 w).mp b with
 |ask m=>exact .inl m
 |@need v _ ns hv e hm=>
  have d:=(N.2 v).mpr hv;obtain⟨k,a⟩:=D6 d;have q:=qEL c N a (by rw[qAS e];exact hm)
  have f:i<k:=(qNR N.1.up h a).mpr q.2;refine .inr ⟨v,B0 (i:=k-(i+1)) ?_,by rw[qAS e];exact hm⟩
  rw[A90,show i+1+(k-(i+1))=k by lia]
  exact a
theorem qHI (N:qAJ Ae Ad zs){i:Nat}{w x:Int}(h:zs[i]?=some w)(c:x∈zs.take i):x<w:=by
 obtain⟨k,a⟩:=D6 c;have b:k<i:=by have:=(A5.mp a).1;rw[C8] at this;lia
 rw[J8 b] at a;exact(qNR N.1.up a h).mp b
theorem qfX (a:WFn Ae)(w:Int):(nd Ae w).Pairwise (·<·):=(qGW a w.toNat).up
theorem qHR {c:List Int} (a:qAJ Ae Ad zs)(b:qAJ Ae Ad c):zs=c:=qHH a.1.up b.1.up λx=>(a.2 x).trans (b.2 x).symm
end
def PlanAt (H:Hp)(l:Addr)(ms:List Mv):Prop:=∃rs:List Addr,H l=some (.lst (rs.map V.ref))/\MovL H rs ms
theorem PlanAt.same {H H':Hp} {l:Addr} {a:List Mv} (h:PlanAt H l a)(k:Same H H'):PlanAt H' l a:=by
 obtain⟨c,b,d⟩:=h;exact⟨c,k _ _ b,d.same k⟩
def qD8 (H:Hp)(t:Addr)(Ae:Aa0)(Ad:List Int):Prop:=H t=some (.tup (Ad.map V.int))/\Rise (Ae.length:Int) Ad
def qUW:Sp:=λvs H Q _=>∃d c t ns a Ae,vs=[.ref d,.ref a]/\StAt H d c t ns/\t<=TB-100/\NetAt H a Ae/\WFn Ae/\1<=Ae.length/\Ae.length<=63/\
 ∀r ws t' ns' H',StAt H' d c t' ns'->t<=t'->t'<=t+10->Keep d c H H'->H' r=some (.tup (ws.map V.int))->Rise (Ae.length:Int) ws->1<=ws.length->Q (.ref r) H'
def qRJ:Sp:=λvs H Q _=>∃(a t:Addr) (Ae:Aa0) (Ad:List Int),vs=[.ref a,.ref t]/\NetAt H a Ae/\WFn Ae/\Ae.length<=63/\qD8 H t Ae Ad/\
 ∀l zs H',Same H H'->H l=none->H' l=some (.lst (zs.map V.int))->qAJ Ae Ad zs->Q (.ref l) H'
theorem qXT:B72 "dict" = some (.type "dict"):=by decide +kernel
noncomputable def lv (L:List Int)(x:Int):Int:=(L[x.toNat]?).getD 0
structure Lev (Ae:Aa0)(L:List Int):Prop where
 len:L.length=Ae.length
 at_:∀(i:Nat) zs,Ae[i]?=some zs->∃l,L[i]?=some l/\0<=l/\l<=(i:Int)/\(∀y∈zs,lv L y+1<=l)/\(l=0\/∃y∈zs,lv L y+1=l)
structure Fd (n:Nat)(L:List Int)(S:Int->Prop)(fs:List Int):Prop where
 len:fs.length=n
 at_:∀w:Nat,w<n->(S w->fs[w]?=some (lv L w))/\(¬S w->fs[w]?=some 0)
noncomputable def nds (Ae:Aa0)(ws:List Int):List Int:=(ws.map (nd Ae)).flatten
theorem qZ6 {Ae:Aa0} {ws:List Int} {i:Nat} {x:Int} (h:ws[i]?=some x):nds Ae (ws.take (i+1))=nds Ae (ws.take i)++nd Ae x:=by
 unfold nds;rw[D3,h,D5,C1,p6];simp
structure CntX (n:Nat)(cs:List Int)(seen:List Int):Prop where
 len:cs.length=n
 at_:∀x:Nat,x<n->cs[x]?=some ((seen.count (x:Int):Nat):Int)
theorem CntX.nil (n:Nat):CntX n (D8 n 0) []:=⟨by simp,λx a=>by simp[a]⟩
theorem CntX.bump {n:Nat} {f a:List Int} {z c:Int} (h:CntX n f a)(l:0<=z)(k:z<n)(i:f[z.toNat]?=some c):CntX n (f.set z.toNat (c+1)) (a++[z]):=by
 refine⟨by rw[b7];exact h.len,λx d=>?_⟩
 rw[A98];by_cases e:x=z.toNat
 ·subst e;have q:=h.at_ _ d;rw[i] at q;rw[O7 (by rw[h.len];exact d)]
  have j:((z.toNat:Nat):Int)=z:=by lia
  rw[j] at q ⊢;have g:=D1 q;have b:[z].count z=1:=by simp
  rw[b,g]
  rfl
 ·rw[Q6 (by lia),h.at_ x d]
  have b:[z].count (x:Int)=0:=by
   rw[w5];simp
   lia
  rw[b]
  rfl
theorem CntX.get {n:Nat} {b a:List Int} (h:CntX n b a){x:Int}(c:0<=x)(d:x<n):b[x.toNat]?=some ((a.count x:Nat):Int):=by
 have:=h.at_ x.toNat (by lia)
 rw[show((x.toNat:Nat):Int)=x by lia] at this
 exact this
theorem qTE {Ae:Aa0} (b:WFn Ae){a x:Int}(h:Nd Ae [a] x):x<=a:=by
 induction h with
 |ask m=>rw[A6.mp m];exact L7 _
 |@need w y zs _ e m ih=>
  have:=(b _ _ e).in_ y m
  lia
noncomputable def cI (Ae:Aa0)(zs:List Int)(x:Int):Int:=(((nds Ae zs).count x:Nat):Int)
noncomputable def qUN (Ae:Aa0)(a:Int)(zs:List Int):Bool:=zs.all λx=>decide (x≠a->cI Ae zs x=1)
theorem qYA (Ae:Aa0)(a:Int)(zs:List Int):(((zs.filter λx=>decide (x≠a)).map λx=>decide (V.int (cI Ae zs x)=V.int 1)).all id)=qUN Ae a zs:=by
 unfold qUN;generalize hc:cI Ae zs=c;clear hc
 induction zs with
 |nil=>rfl
 |cons x r ih=>
  rw[L5,A09,<- ih];by_cases e:x=a
  ·rw[if_neg (by simp[e])]
   have:decide (x≠a->c x=1)=true:=decide_eq_true λz=>absurd e z;rw[this]
   rfl
  ·rw[if_pos (by simp[e]),C9,A09]
   congr 1;exact decide_eq_decide.mpr ⟨λz _=>V.int.inj z,λz=>by rw[z e]⟩
noncomputable def qBZ (one other:Aa0):Aa0:=one++other.map λzs=>zs.map (·+(one.length:Int))
theorem qM4 (b a:Aa0):(qBZ b a).length=b.length+a.length:=by simp[qBZ]
theorem qU9 {b a:Aa0} {i:Nat} :(qBZ b a)[b.length+i]?=(a[i]?).map λzs=>zs.map (·+(b.length:Int)):=by
 unfold qBZ;rw[O2 (by lia),C5]
 congr 2
 lia
theorem qUH {b a:Aa0} (f:WFn b)(c:WFn a):WFn (qBZ b a):=by
 intro i d e;by_cases h:i<b.length
 ·unfold qBZ at e;rw[G4 h] at e;exact f i d e
 ·obtain⟨j,rfl⟩:∃j,i=b.length+j:=⟨i-b.length,by lia⟩
  rw[qU9] at e;cases h2:a[j]? with
  |none=>rw[h2] at e;cases e
  |some ys=>
   rw[h2] at e;cases e;have:=(c j ys h2).shift (j:=(b.length:Int)) (by lia)
   exact this.mono (by lia)
def qdN:Sp:=λvs H Q _=>∃(a lw:Addr) (Ae:Aa0) (ws:List Int),vs=[.ref a,.ref lw]/\NetAt H a Ae/\WFn Ae/\Ae.length<=63/\H lw=some (.lst (ws.map V.int))/\(∀x∈ws,0<=x/\x<(Ae.length:Int))/\
 ∀l cs H',Same H H'->H l=none->H' l=some (.lst (cs.map V.int))->CntX Ae.length cs (nds Ae ws)->Q (.ref l) H'
def qRL:Sp:=λvs H Q _=>∃(a:Addr) (Ae:Aa0) (work:Int),vs=[.ref a,.int work]/\NetAt H a Ae/\WFn Ae/\Ae.length<=63/\0<=work/\work<(Ae.length:Int)/\
 ∀zs H',Same H H'->qAJ Ae [work] zs->Q (.bl (qUN Ae work zs)) H'
def qUP:Sp:=λvs H Q _=>∃(r:Addr) (zs:List Int) (k:Int),vs=[.ref r,.int k]/\H r=some (.tup (zs.map V.int))/\zs.length<=63/\∀r' H',Same H H'->H' r'=some (.tup ((zs.map (·+k)).map V.int))->Q (.ref r') H'
def qRN:Sp:=λvs H Q _=>∃(a b:Addr) (one other:Aa0),vs=[.ref a,.ref b]/\NetAt H a one/\WFn one/\NetAt H b other/\WFn other/\1<=one.length/\one.length<=63/\1<=other.length/\other.length<=63/\
 ∀c H',Same H H'->NetAt H' c (qBZ one other)->Q (.ref c) H'
theorem qe7 {X:Cx} :qSU (CX1 P w) X E0:=by
 rintro _ _ _ _ _ _ _ ⟨e,cls,dd,H',B,nt,_,_,_,_,z⟩;exact z.elim
noncomputable def xfs (n w:V):List (Str×V):=putF "word" w [("move",n)]
theorem qRD {H:Hp} {x a:Addr} {o c u:HO} (h:a≠x):Ag (Ag (Ag H x o) a u) x c=Ag (Ag H a u) x c:=by
 funext b
 unfold Ag;by_cases d:b=x
 ·simp[d]
 ·simp[d]
theorem qUK {H:Hp} {x a:Addr} {o u e:HO} (h:a≠x):Ag (Ag (Ag H a u) x o) a e=Ag (Ag H a e) x o:=by
 funext b
 unfold Ag;by_cases c:b=a
 ·subst c;simp[h]
 ·by_cases d:b=x
  ·subst d;simp[c]
  ·simp[c,d]
def qPT (C:Addr):Sp:=λvs H Q _=>∃(x:Addr) (a b:V),vs=[.ref x,a,b]/\H x=some (ExcN x C none)/\∀dx,H dx=none->dx≠x->Q .non (Ag (Ag H dx (XDic dx (xfs a b))) x (ExcN x C (some dx)))
def Beh (st st':List Int) (Ac:Str) (wk:Int):Prop:=(Ac = "do"->st'.Perm (st++[wk])/\st'.Pairwise (·<=·))/\(Ac = "clear"->st'=st.filter λx=>decide (x≠wk))
theorem qLL:∀{l m:List Int},l.Perm m->l.Pairwise (·<=·)->m.Pairwise (·<=·)->l=m:=by
 intro l m d f g;exact d.eq_of_pairwise (λa b _ _ e c=>A43 e c) f g
theorem Beh.one {st a b:List Int} {Ac:Str} {c:Int} (j:Ac = "do"\/Ac = "clear") (d:Beh st a Ac c) (f:Beh st b Ac c):a=b:=by
 rcases j with e|e
 ·obtain⟨g,h⟩:=d.1 e;obtain⟨i,k⟩:=f.1 e;exact qLL (g.trans i.symm) h k
 ·rw[d.2 e,f.2 e]
def qGO:Sp:=λvs H Q _=>∃(s mv:Addr) (st:List Int) (Ac:Str) (wk:Int),vs=[.ref s,.ref mv]/\H s=some (.tup (st.map V.int))/\st.length<=62/\H mv=some (.tup [.str Ac,.int wk])/\(Ac = "do"\/Ac = "clear")/\
 ∀r st' H',Same H H'->H' r=some (.tup (st'.map V.int))->Beh st st' Ac wk->Q (.ref r) H'
def qgG (H:Hp) (a s mv:Addr) (Ae:Aa0) (st ns:List Int) (Aa wk:Int) (Ac:Str):Prop:=NetAt H a Ae/\H s=some (.tup (st.map V.int))/\st.length<=62/\H mv=some (.tup [.str Ac,.int wk])/\(Ac = "do"\/Ac = "clear")/\0<=wk/\Ae[wk.toNat]?=some ns/\ns.length<=63
def qUS (C:Addr):Sp:=λvs H Q E=>∃(a s mv:Addr) (Ae:Aa0) (st ns:List Int) (Aa wk:Int) (Ac:Str),vs=[.ref a,.int Aa,.ref s,.ref mv]/\qgG H a s mv Ae st ns Aa wk Ac/\
 (qCA ns st Aa Ac wk=.non->∀r st' H',Same H H'->H' r=some (.tup (st'.map V.int))->Beh st st' Ac wk->Q (.ref r) H')/\
 (∀w0,qCA ns st Aa Ac wk=.str w0->∀dx H',Same H H'->H' dx=some (XDic dx (xfs (.int 0) (.str w0)))->E (.ref C) (some dx) H')
inductive Play (Ae:Aa0)(Aa:Int):List Int->List Mv->Aa0->V->Prop
 |nil {st}:Play Ae Aa st [] [] .non
 |stop {st m ms w0}:wd Ae st Aa m=.str w0->Play Ae Aa st (m::ms) [] (.str w0)
 |go {st st' m ms sts v}:wd Ae st Aa m=.non->Beh st st' m.1 m.2->Play Ae Aa st' ms sts v->Play Ae Aa st (m::ms) (st'::sts) v
def MvOk (Ae:Aa0) (ms:List Mv):Prop:=∀m∈ms,(m.1 = "do"\/m.1 = "clear")/\0<=m.2/\m.2<(Ae.length:Int)
theorem Play.one {Ae:Aa0} {Aa:Int} {st:List Int} {d:List Mv} {a b:Aa0} {v u:V} (g:MvOk Ae d)(h:Play Ae Aa st d a v)(f:Play Ae Aa st d b u):a=b/\v=u:=by
 induction h generalizing b u with
 |nil=>cases f;exact⟨rfl,rfl⟩
 |stop e=>
  cases f with
  |stop e2=>rw[e] at e2;exact⟨rfl,e2⟩
  |go e2 _ _=>rw[e] at e2;cases e2
 |go e bh p ih=>
  cases f with
  |stop e2=>rw[e] at e2;cases e2
  |go e2 bh2 p2=>
   have:=bh.one (g _ (by simp)).1 bh2
   subst this;obtain⟨x,y⟩:=ih (λm c=>g m (A8 _ c)) p2;exact⟨by rw[x],y⟩
theorem Beh.fits {Ae:Aa0} {Aa:Int} {st a:List Int} {m:Mv} (c:m.1 = "do"\/m.1 = "clear") (e:wd Ae st Aa m=.non) (b:Beh st a m.1 m.2) (h:(st.length:Int)<=Aa):(a.length:Int)<=Aa:=by
 rcases c with d|d
 ·have l:=(b.1 d).1.length_eq;rw[A9,B9] at l;unfold wd qCA qE0 at e;rw[if_pos d] at e
  split at e
  ·cases e
  ·split at e
   ·split at e
    ·cases e
    ·lia
   ·cases e
 ·rw[b.2 d];have:=M6 (λx=>decide (x≠m.2)) st
  lia
def qST (H:Hp)(l:Addr)(sts:Aa0):Prop:=∃rs:List Addr,H l=some (.lst (rs.map V.ref))/\NetL H rs sts
theorem NetL.sm {H H':Hp} {rs:List Addr} {a:Aa0} (h:NetL H rs a)(s:Same H H'):NetL H' rs a:=h.same λr b e=>s _ _ e
theorem NetL.put {H:Hp} {p:Addr} {xs:List V} {o:HO} {rs:List Addr} {a:Aa0} (h:NetL H rs a)(b:H p=some (.lst xs)):NetL (Ag H p o) rs a:=h.same λr c e=>by
 rw[qA7 (qC6 e b (by intro z;cases z))]
 exact e
def qY1 (H:Hp)(a l:Addr)(Ae:Aa0)(ms:List Mv)(Aa:Int):Prop:=NetAt H a Ae/\WFn Ae/\Ae.length<=63/\PlanAt H l ms/\ms.length<=10000/\MvOk Ae ms/\0<=Aa/\Aa<=60
def qUQ (C:Addr):Sp:=λvs H Q E=>∃(a l:Addr) (Ae:Aa0) (ms:List Mv) (Aa:Int),vs=[.ref a,.int Aa,.ref l]/\qY1 H a l Ae ms Aa/\
 (∀ls sts H',Same H H'->Play Ae Aa [] ms sts .non->H ls=none->qST H' ls ([]::sts)->Q (.ref ls) H')/\
 (∀sts w0 dx H',Same H H'->Play Ae Aa [] ms sts (.str w0)->H' dx=some (XDic dx (xfs (.int (sts.length:Int)) (.str w0)))->E (.ref C) (some dx) H')
theorem qJO {α β:Type} {F:α->β->Prop} :∀{l₁:List α} {l₂:List β} (k:Nat),Paired F l₁ l₂->Paired F (l₁.drop k) (l₂.drop k)
 |_,_,0,h=>h
 |_,_,_+1,.nil=>.nil
 |_,_,k+1,.cons _ t=>qJO k t
theorem qJM {α β:Type} {F:α->β->Prop} :∀{l₁:List α} {l₂:List β} (k:Nat),Paired F l₁ l₂->Paired F (l₁.take k) (l₂.take k)
 |_,_,0,_=>.nil
 |_,_,_+1,.nil=>.nil
 |_,_,k+1,.cons r t=>.cons r (qJM k t)
theorem StAt.put' {H:Hp} {d c l:Addr} {t:Int} {ns:List Int} {o:HO} (S:StAt H d c t ns)(a:l≠d)(b:l≠c):StAt (Ag H l o) d c t ns:=⟨by rw[qA7 (F6 a)];exact S.dict,by rw[qA7 (F6 b)];exact S.list,S.ne,S.len,S.pos⟩
theorem qNU {α:Type} {l:List α} {i:Nat} {x:α} (h:l[i]?=some x):l.take (i+1)=l.take i++[x]:=by
 rw[List.take_succ,h]
 rfl
noncomputable def lens (sts:Aa0):List Int:=sts.map λz=>(z.length:Int)
structure YNa (K:Ab1)(C:Addr):Prop where
 Ae:qSV K C "net"
 Aa:qSV K C "rooms"
 made:qSV K C "made"
 stands:qSV K C "stands"
noncomputable def yfs (a:Addr) (Aa:Int) (lm ls:Addr):List (Str×V):=putF "stands" (.ref ls) (putF "made" (.ref lm) (putF "rooms" (.int Aa) (putF "net" (.ref a) [])))
noncomputable def qLV (st:List Int):Aa0->List Int
 |[]=>st
 |s::r=>qLV s r
theorem qW8:∀{rs:List Addr} {st:List Int} {sts:Aa0} {H:Hp},NetL H rs (st::sts)->∃ss r,rs=ss++[r]/\H r=some (.tup ((qLV st sts).map V.int)):=by
 intro rs st sts
 induction sts generalizing rs st with
 |nil=>
  intro H h;cases h with
  |cons a b=>cases b;exact⟨[],_,rfl,a⟩
 |cons s r ih=>
  intro H h;cases h with
  |cons a b=>
   obtain⟨ss,q,rfl,g⟩:=ih b;exact⟨_::ss,q,rfl,g⟩
structure YardAt (C:Addr)(H:Hp)(y a lm ls:Addr)(Ae:Aa0)(Aa:Int)(ms:List Mv)(sts:Aa0):Prop where
 obj:∃dx,H y=some (.ins C dx (yfs a Aa lm ls))
 nat:NetAt H a Ae
 wf:WFn Ae
 n400:Ae.length<=63
 r0:0<=Aa
 r62:Aa<=62
 made:PlanAt H lm ms
 ok:MvOk Ae ms
 len:ms.length<=10000
 stands:qST H ls ([]::sts)
 play:Play Ae Aa [] ms sts .non
 ne:lm≠ls
section
variable{Ae:Aa0}
noncomputable def qcY (Ae:Aa0):Nat->List Int
 |0=>[]
 |i+1=>qcY Ae i++[if nd Ae (i:Int)=[] then 1 else((nd Ae (i:Int)).map λz=>(qcY Ae i).getD z.toNat 0).sum]
noncomputable def cn (Ae:Aa0)(z:Int):Int:=(qcY Ae (z.toNat+1)).getD z.toNat 0
def hd (p:List Int):Int:=p.headD 0
noncomputable def apF (Ae:Aa0):Nat->List Int->Aa0
 |0,p=>[p]
 |n+1,p=>if nd Ae (hd p)=[] then[p] else((nd Ae (hd p)).reverse.map λz=>apF Ae n (z::p)).flatten
noncomputable def aP (Ae:Aa0)(p:List Int):Aa0:=apF Ae ((hd p).toNat+1) p
structure POk (Ae:Aa0)(p:List Int):Prop where
 ne:p≠[]
 h0:0<=hd p
 h1:hd p<(Ae.length:Int)
 len:(p.length:Int)+hd p<=(Ae.length:Int)
structure PWay (Ae:Aa0)(work:Int)(fs st:Aa0):Prop where
 all:fs++(st.map (aP Ae)).flatten=aP Ae [work]
 ok:∀p∈st,POk Ae p
 fok:∀p∈fs,POk Ae p
end
noncomputable def off (n:Nat):Nat->Nat
 |0=>0
 |r+1=>off n r+(n-r)
noncomputable abbrev keyOf (s:Nat×Nat):List Key:=[F4 (s.1:Int),F4 (s.2:Int)]
theorem Paired.app {α β:Type} {F:α->β->Prop} {l₁ a:List α} {l₂ b:List β} (h:Paired F l₁ l₂)(c:Paired F a b):Paired F (l₁++a) (l₂++b):=by
 induction h with
 |nil=>exact c
 |cons r t ih=>exact .cons r ih
structure NumP (rs:List Addr)(ss:List (Nat×Nat))(j:Nat)(ps:List (List Key×Addr×V)):Prop where
 keys:ps.map (·.1)=(ss.take j).map keyOf
 at_:∀(k:Nat) (s:Nat×Nat),k<j->ss[k]?=some s->∃a,ps[k]?=some (keyOf s,a,.int (k:Int))
noncomputable def qcK (ins:List (Int×Int))(x:Int):Option Int:=(ins.find? λq=>decide (q.1=x)).map (·.2)
noncomputable def qfM (ins:List (Int×Int))(i:Nat):Nat:=((F5 i).filter λ(x:Nat)=>(qcK ins (x:Int)).isNone).length
noncomputable def numO (m:Nat)(ins:List (Int×Int))(x:Nat):Int:=match qcK ins (x:Int) with|some v=>v|none=>((m+qfM ins x:Nat):Int)
structure InsAt (H:Hp)(i:Addr)(ins:List (Int×Int)):Prop where
 at_:∃rs:List Addr,BareT H i (rs.map V.ref)/\Paired (λr (q:Int×Int)=>H r=some (.tup [.int q.1,.int q.2])) rs ins
 nodup:(ins.map (·.1)).Nodup
structure InsOk (m:Nat)(other:Aa0)(k:Nat)(ins:List (Int×Int))(fs:List Int):Prop where
 st:∀q∈ins,(0<=q.1/\q.1<(k:Int))/\other[q.1.toNat]?=some []/\0<=q.2/\q.2<(m:Int)
 nd1:(ins.map (·.1)).Nodup
 nd2:(ins.map (·.2)).Nodup
 fr:fs.Nodup
 fin:∀x∈fs,(0<=x/\x<(m:Int))/\x∉ins.map (·.2)
 len:ins.length<=k
noncomputable def pm (m:Mv):Int:=if m.1 = "do" then 1 else -1
noncomputable def peak:Int->List Mv->Int
 |n,[]=>n
 |n,m::ms=>max n (peak (n+pm m) ms)
theorem qfS (w:Int):pm ("do",w)=1:=rfl
theorem qYM (w:Int):pm ("clear",w) = -1:=if_neg (qAH)
theorem qVE:∀(n:Int) (ms:List Mv),n<=peak n ms
 |n,[]=>L7 _
 |n,m::ms=>by show n<=max n _;lia
theorem Run.app {Ae:Aa0} {Aa:Int} {s t u:List Int} {a b:List Mv} (h:Run Ae Aa s a t)(k:Run Ae Aa t b u):Run Ae Aa s (a++b) u:=by
 induction h with
 |nil=>exact k
 |do_ h1 h2 h3 h4 h5 _ ih=>exact .do_ h1 h2 h3 h4 h5 (ih k)
 |clear h1 _ ih=>exact .clear h1 (ih k)
theorem qRE {s:List Int} (h:s.Pairwise (·<·)):s.Nodup:=h.imp λ{a b} c=>by lia
noncomputable def less (th s:List Int):List Int:=s.filter λx=>decide (x∉th)
noncomputable def qg4 (th:List Int)(ms:List Mv):List Mv:=ms.filter λm=>decide (m.2∉th)
theorem Run.play {Ae:Aa0} {Aa:Int} {s t:List Int} {c:List Mv} (h:Run Ae Aa s c t):s.Pairwise (·<·)->∃sts,Play Ae Aa s c sts .non/\qLV s sts=t/\topD none (lens (s::sts))=some (peak (s.length:Int) c)/\∀z∈sts,(z.length:Int)<=peak (s.length:Int) c:=by
 induction h with
 |nil=>intro _;exact⟨[],.nil,rfl,rfl,λ_ z=>nomatch z⟩
 |@do_ s s' t w c h1 h2 h3 h4 h5 h6 ih=>
  intro n;obtain⟨sts,p,l,d,j⟩:=ih h5;have u:=h4.length_eq;rw[A9,B9] at u;have g:peak (s.length:Int) (("do",w)::c)=max (s.length:Int) (peak (s'.length:Int) c):=by
   show max _ (peak ((s.length:Int)+pm ("do",w)) c)=_
   rw[qfS,show((s.length:Int)+1)=(s'.length:Int) by lia]
  have pg:=qVE (s'.length:Int) c;refine⟨s'::sts,.go ?_ ⟨λ_=>⟨h4,h5.imp λ{a b} y=>by lia⟩,λz=>absurd z.symm qAH⟩ p,l,?_,λz o=>?_⟩
  ·unfold wd qCA qE0;rw[if_pos rfl,if_neg h1,if_pos (show∀x∈(Ae[w.toNat]?).getD [],x∈s from h2),if_neg (by lia)]
  ·unfold lens at d ⊢;rw[C9] at d;rw[C9,C9,g];show some (topI _ _)=_;have e:topI (s'.length:Int) (sts.map λz=>(z.length:Int))=peak (s'.length:Int) c:=D1 d;have i:=qEQ ((s'.length:Int)::sts.map λz=>(z.length:Int)) (s.length:Int);have f:=qEQ (sts.map λz=>(z.length:Int)) (s'.length:Int);rw[e] at f;congr 1;have v:∀x∈(s'.length:Int)::sts.map (λz=>(z.length:Int)),x<=peak (s'.length:Int) c:=λx r=>by
    rcases B1.mp r with q|q
    ·lia
    ·exact f.2.1 x q
   have k:peak (s'.length:Int) c∈(s'.length:Int)::sts.map (λz=>(z.length:Int)):=by
    rcases f.2.2 with q|q
    ·rw[q];exact B7
    ·exact A8 _ q
   have b3:=i.2.1 _ k;rcases i.2.2 with q|q
   ·lia
   ·have:=v _ q
    lia
  ·rw[g];rcases B1.mp o with q|q
   ·rw[q];lia
   ·have:=j z q;lia
 |@clear s t w c h1 h2 ih=>
  intro n;obtain⟨sts,p,l,d,j⟩:=ih (n.filter _);have u:=qaH (qRE n) h1;generalize hs':(s.filter λx=>decide (x≠w))=s' at p l d j u;have g:peak (s.length:Int) (("clear",w)::c)=max (s.length:Int) (peak (s'.length:Int) c):=by
   show max _ (peak ((s.length:Int)+pm ("clear",w)) c)=_;rw[qYM,show((s.length:Int) + -1)=(s'.length:Int) by lia]
  have pg:=qVE (s'.length:Int) c;refine⟨s'::sts,.go ?_ ⟨λz=>absurd z qAH,λ_=>hs'.symm⟩ p,l,?_,λz o=>?_⟩
  ·unfold wd qCA qDQ;rw[if_neg (show¬(("clear",w):Mv).1 = "do" fromλz=>qAH z),if_pos h1]
  ·unfold lens at d ⊢;rw[C9] at d;rw[C9,C9,g];show some (topI _ _)=_;have e:topI (s'.length:Int) (sts.map λz=>(z.length:Int))=peak (s'.length:Int) c:=D1 d;have i:=qEQ ((s'.length:Int)::sts.map λz=>(z.length:Int)) (s.length:Int);have f:=qEQ (sts.map λz=>(z.length:Int)) (s'.length:Int);rw[e] at f;congr 1;have v:∀x∈(s'.length:Int)::sts.map (λz=>(z.length:Int)),x<=peak (s'.length:Int) c:=λx r=>by
    rcases B1.mp r with q|q
    ·lia
    ·exact f.2.1 x q
   have k:peak (s'.length:Int) c∈(s'.length:Int)::sts.map (λz=>(z.length:Int)):=by
    rcases f.2.2 with q|q
    ·rw[q];exact B7
    ·exact A8 _ q
   have b3:=i.2.1 _ k;rcases i.2.2 with q|q
   ·lia
   ·have:=v _ q
    lia
  ·rw[g];rcases B1.mp o with q|q
   ·rw[q];lia
   ·have:=j z q;lia
noncomputable def pbGo (num:Int->Int)(jn:Int->Bool)(pl:Int->List Mv):List Int->List Mv->List Mv
 |_,[]=>[]
 |th,m::c=>if m.1 = "clear" then("clear",num m.2)::pbGo num jn pl (th.filter λx=>decide (x≠num m.2)) c else(if jn m.2 then qg4 th (pl (num m.2)) else[("do",num m.2)])++pbGo num jn pl (th++[num m.2]) c
structure ThOk (n:Nat)(num:Int->Int)(th s:List Int):Prop where
 perm:th.Perm (s.map num)
 rise:Rise (n:Int) s
structure TopO (Ae:Aa0)(zs:List Int):Prop where
 nodup:zs.Nodup
 in_:∀x∈zs,0<=x/\x<(Ae.length:Int)
 bef:∀(p:Nat) (o:Int),zs[p]?=some o->∀x∈nd Ae o,x∈zs.take p
 aft:∀(p:Nat) (o:Int),zs[p]?=some o->p+1<zs.length->later Ae zs (p+1) o
structure Begun (Ae:Aa0)(some_ ord:List Int):Prop where
 nodup:ord.Nodup
 sub:∀x∈ord,x∈some_
 bef:∀(p:Nat) (o:Int),ord[p]?=some o->∀x∈nd Ae o,x∈ord.take p
noncomputable def ndOf (Ae:Aa0)(Ad:List Int):List Int:=by
 classical
 exact if h:∃zs,qAJ Ae Ad zs then B15 h else[]
noncomputable def qaK (Ae:Aa0)(w:Int):List Mv:=qe1 Ae [w] (ndOf Ae [w])
def numF (m:Nat)(ins:List (Int×Int))(x:Int):Int:=numO m ins x.toNat
noncomputable def qg7 (ins:List (Int×Int))(x:Int):Bool:=(qcK ins x).isSome
noncomputable def qgM (one:Aa0)(ins:List (Int×Int))(ms:List Mv):List Mv:=pbGo (numF one.length ins) (qg7 ins) (qaK one) [] ms
noncomputable def qfZ (one:Aa0)(ins:List (Int×Int)):Int:=(topD (some 1) (ins.map λq=>peak 0 (qaK one q.2))).getD 0
noncomputable def qgL (one:Aa0)(ins:List (Int×Int))(ms:List Mv):Int:=match ins with|[]=>peak 0 ms|_::_=>qfZ one ins+peak 0 ms-1
structure BehIn (H:Hp)(a b i l:Addr)(one other:Aa0)(ins:List (Int×Int))(ms:List Mv)(st:List Int):Prop where
 gA:NetAt H a one
 wf1:WFn one
 gB:NetAt H b other
 wf2:WFn other
 gI:InsAt H i ins
 ok:∃fs,InsOk one.length other other.length ins fs
 plan:PlanAt H l ms
 mv:MvOk other ms
 len:ms.length<=63
 run:Run other (other.length:Int) [] ms st
 o1:1<=one.length
 o2:one.length<=60
 o3:1<=other.length
 o4:other.length<=60
theorem qZ9 {Ae:Aa0} {Ad:List Int} (a:WFn Ae)(r:Rise (Ae.length:Int) Ad){x:Int}(h:Nd Ae Ad x):0<=x/\x<(Ae.length:Int):=by
 induction h with
 |ask m=>exact r.in_ _ m
 |need _ e hy ih=>
  have c:=(a _ _ e).in_ _ hy;have b:=(A5.mp e).1
  lia
theorem qOJ {Ae:Aa0} {Ad:List Int} (a:WFn Ae)(r:Rise (Ae.length:Int) Ad):∃zs,qAJ Ae Ad zs:=by
 classical
 refine⟨(qB8 0 Ae.length).filter λx=>decide (Nd Ae Ad x),⟨(qD0 _ _).filter _,λx b=>?_⟩,λx=>?_⟩
 ·have:=mem_rangeI.mp (C7.mp b).1
  lia
 ·rw[C7,decide_eq_true_eq,mem_rangeI];exact⟨λh=>h.2,λh=>⟨qZ9 a r h,h⟩⟩
def qPU:Sp:=λvs H Q _=>∃(a l t:Addr) (Ae:Aa0) (ms:List Mv) (Aa:Int) (Ad:List Int),vs=[.ref a,.int Aa,.ref l,.ref t]/\qY1 H a l Ae ms Aa/\H t=some (.tup (Ad.map V.int))/\Ad.length<=63/\
 (∀sts H',Same H H'->Play Ae Aa [] ms sts .non->Q (.bl (decide (∀x∈Ad,x∈qLV [] sts))) H')/\(∀sts w0 H',Same H H'->Play Ae Aa [] ms sts (.str w0)->Q (.bl false) H')
structure TwoIn (H:Hp)(a b i:Addr)(one other:Aa0)(ins:List (Int×Int)):Prop where
 gA:NetAt H a one
 wf1:WFn one
 gB:NetAt H b other
 wf2:WFn other
 gI:InsAt H i ins
 ok:∃fs,InsOk one.length other other.length ins fs
 o1:1<=one.length
 o2:one.length<=40
 o3:1<=other.length
 o4:other.length<=7
theorem qdA {Ae:Aa0} {st:List Int} {Aa:Int} {Ac:Str} {b:Int} (c:Ac = "do"\/Ac = "clear") (e:wd Ae st Aa (Ac,b)=.non):(Ac = "do"->b∉st/\(∀y∈nd Ae b,y∈st)/\(st.length:Int)<Aa)/\(Ac = "clear"->b∈st):=by
 rcases c with d|d
 ·subst d;refine⟨λ_=>?_,λz=>absurd z.symm qAH⟩;have a:qE0 ((Ae[b.toNat]?).getD []) st Aa b=.non:=by
   have:=e;unfold wd qCA at this;rw[if_pos rfl] at this;exact this
  unfold qE0 at a
  split at a
  ·cases a
  rename_i hn
  split at a
  ·rename_i hall
   split at a
   ·cases a
   ·exact⟨hn,hall,by lia⟩
  ·cases a
 ·subst d;refine⟨λz=>absurd z qAH,λ_=>?_⟩;have a:qDQ st b=.non:=by
   have:=e;unfold wd qCA at this;rw[if_neg (show¬B6 "clear" = B6 "do" from qAH)] at this
   exact this
  unfold qDQ at a
  split at a
  ·rename_i hin;exact hin
  ·cases a
theorem qa9 {n:Nat} {st a:List Int} {Ac:Str} {c:Int} (r:Rise (n:Int) st) (j:Ac = "do"\/Ac = "clear") (g:0<=c) (k:c<(n:Int)) (h:Ac = "do"->c∉st) (b:Beh st a Ac c):Rise (n:Int) a:=by
 rcases j with d|d
 ·obtain⟨f,i⟩:=b.1 d;refine⟨qFI i (f.nodup_iff.mpr (qHS r.nodup (h d))),λx e=>?_⟩;rcases B8.mp (f.mem_iff.mp e) with q|q
  ·exact r.in_ x q
  ·rw[A6.mp q];exact⟨g,k⟩
 ·rw[b.2 d];exact⟨r.up.filter _,λx e=>r.in_ x (C7.mp e).1⟩
structure Ord (Ae:Aa0)(Ad os:List Int):Prop where
 nodup:os.Nodup
 in_:∀w∈os,0<=w/\w<(Ae.length:Int)
 has:∀(i:Nat) (w y:Int),os[i]?=some w->y∈nd Ae w->y∈os.take i
 used:∀(i:Nat) (w:Int),os[i]?=some w->w∈Ad\/later Ae os (i+1) w
 ask:∀x∈Ad,x∈os
structure Span (Ae:Aa0)(Ad os:List Int)(K:Nat):Prop where
 near:∀(q r:Nat) (x v:Int),os[q]?=some x->os[r]?=some v->x∈nd Ae v->r<=q+K
 last:∀x∈Ad,∀q:Nat,os[q]?=some x->q+1=os.length
structure Told (Ae:Aa0)(R:Int)(ms:List Mv):Prop where
 run:Run Ae R [] ms [(Ae.length:Int)-1]
 top:peak 0 ms=R
 ok:MvOk Ae ms
 once:(qCH ms).Perm (qB8 0 (Ae.length:Int))
 len:ms.length<=2*Ae.length
noncomputable def mskN (zs:List Int):Nat:=(zs.map λz=>2^z.toNat).sum
noncomputable def cntN (n b:Nat):Nat:=((F5 n).map λk=>b/2^k%2).sum
def clrb (b k:Nat):Nat:=b-2^k*(b/2^k%2)
noncomputable def nxt (Ae:Aa0)(k:Nat):Nat:=mskN ((Ae[k]?).getD [])
def can (Ae:Aa0)(Aa:Int)(b k:Nat):Prop:=(cntN Ae.length b:Int)<Aa/\k<Ae.length/\b &&& nxt Ae k=nxt Ae k
inductive Rm (Ae:Aa0)(Aa:Int):Nat->Nat->Prop
 |zero:Rm Ae Aa 0 0
 |clr {m b k:Nat}:Rm Ae Aa m b->k<Ae.length->Rm Ae Aa m (clrb b k)
 |do_ {m b k:Nat}:Rm Ae Aa m b->can Ae Aa b k->Rm Ae Aa (m+1) (b ||| 2^k)
def Mn (Ae:Aa0)(Aa:Int)(m b:Nat):Prop:=Rm Ae Aa m b/\∀m',m'<m->¬Rm Ae Aa m' b
theorem qGE {α:Type} [DecidableEq α]:∀{l r:List α},l.Nodup->(∀x∈l,x∈r)->l.length<=r.length
 |[],r,_,_=>E2 _
 |a::l,r,nd,h=>by
  have nd':=J7.mp nd;have ha:=h a (B7 ..);have:=qGE (r:=r.erase a) nd'.2 λx hx=>(List.mem_erase_of_ne (λ(e:x=a)=>nd'.1 (e▸hx))).mpr (h x (A8 _ hx));rw[A05 ha] at this;have:0<r.length:=U6 ha;rw[C6]
  lia
theorem qKP {ks:List Nat} {n:Nat} (c:ks.Nodup)(h:∀b∈ks,b<n):ks.length<=n:=by
 have:=qGE (r:=F5 n) c λx a=>E5.mpr (h x a)
 rwa[A06] at this
structure FdC (Ae:Aa0)(Aa:Int)(many:Nat)(ks:List Nat)(f:Nat->Nat):Prop where
 nd:ks.Nodup
 snd:∀b∈ks,f b<=many/\Mn Ae Aa (f b) b
 zero:0∈ks
 full:∀m,m<many->∀b,Rm Ae Aa m b->b∈ks
section
variable{Ae:Aa0}{Aa:Int}{many:Nat}{ks cl ly:List Nat}{f:Nat->Nat}{at_ wk:Nat}
structure A1 (Ae:Aa0)(Aa:Int)(many:Nat)(ks:List Nat)(f:Nat->Nat)(cl:List Nat)(at_ wk:Nat):Prop where
 fd:FdC Ae Aa many ks f
 dos:∀m b k,m+1=many->Rm Ae Aa m b->can Ae Aa b k->b ||| 2^k∈ks
 clm:∀b,b∈cl↔b∈ks/\f b=many
 nd:cl.Nodup
 done:∀i b,cl[i]?=some b->i<at_->∀k,k<Ae.length->clrb b k∈ks
 dk:∀b,cl[at_]?=some b->∀k,k<wk->clrb b k∈ks
structure A2 (Ae:Aa0)(Aa:Int)(many:Nat)(ks:List Nat)(f:Nat->Nat)(cl ly:List Nat)(at_ wk:Nat):Prop where
 fd:FdC Ae Aa (many+1) ks f
 clm:∀b,b∈cl↔b∈ks/\f b=many
 lym:∀b,b∈ly↔b∈ks/\f b=many+1
 nd:ly.Nodup
 done:∀i b,cl[i]?=some b->i<at_->∀k,can Ae Aa b k->b ||| 2^k∈ks
 dk:∀b,cl[at_]?=some b->∀k,k<wk->can Ae Aa b k->b ||| 2^k∈ks
structure Come (Ae:Aa0)(Aa:Int)(ks:List Nat)(f:Nat->Nat):Prop where
 nd:ks.Nodup
 snd:∀b∈ks,Mn Ae Aa (f b) b
 all:∀m b,Rm Ae Aa m b->b∈ks
end
noncomputable def qUJ (ws Ad:List Int):Nat:=mskN ((qB8 0 ws.length).filter λp=>decide ((ws[p.toNat]?).getD 0∈Ad))
def qGD (Ae:Aa0)(ws Ad:List Int)(r:Int):Prop:=∃m b,Rm (qBQ Ae ws) r m b/\b &&& qUJ ws Ad=qUJ ws Ad
def qPI (Ae:Aa0)(ws Ad:List Int)(r:Int):Prop:=1<=r/\qGD Ae ws Ad r/\∀r',1<=r'->r'<r->¬qGD Ae ws Ad r'
theorem qVW {k:Nat} :∀{st:List Int},(∀x∈st,(k:Int)<=x)->∃a,mskN st=2^k*a
 |[],_=>⟨0,rfl⟩
 |z::st,h=>by
  obtain⟨a,ha⟩:=qVW (st:=st) λx hx=>h x (A8 _ hx);have hz:=h z (by simp)
  refine⟨2^(z.toNat-k)+a,?_⟩;show 2^z.toNat+mskN st=_;rw[ha,i0,<- Nat.pow_add,show k+(z.toNat-k)=z.toNat by lia]
theorem qMV:∀{st:List Int},st.Pairwise (·<·)->(∀x∈st,0<=x)->∀j:Nat,(mskN st).testBit j=decide ((j:Int)∈st)
 |[],_,_,j=>by show(0:Nat).testBit j=_;simp
 |z::st,up,nn,j=>by
  have up':=O6.mp up;have hz:=nn z (by simp)
  obtain⟨a,ha⟩:=qVW (k:=z.toNat+1) (st:=st) λx hx=>by have:=up'.1 x hx;lia
  have ih:=qMV up'.2 (λx hx=>nn x (A8 _ hx)) j;have e:mskN (z::st)=2^(z.toNat+1)*a+2^z.toNat:=by show 2^z.toNat+mskN st=_;rw[ha,u7]
  rw[e,Nat.testBit_two_pow_mul_add a (Nat.pow_lt_pow_right (by decide) (by lia)) j]
  by_cases c:j<z.toNat+1
  ·rw[if_pos c,Z4];refine decide_eq_decide.mpr ⟨λh=>?_,λh=>?_⟩
   ·rw[B1];left;lia
   ·rcases B1.mp h with h|h
    ·lia
    ·have:=up'.1 _ h;lia
  ·rw[if_neg c];rw[ha,Nat.testBit_two_pow_mul] at ih;have:decide (j>=z.toNat+1)=true:=decide_eq_true (by lia)
   rw[this,m7] at ih;rw[ih];refine decide_eq_decide.mpr ⟨λh=>A8 _ h,λh=>?_⟩;rcases B1.mp h with h|h
   ·lia
   ·exact h
theorem Rise.nn {n:Int} {st:List Int} (r:Rise n st):∀x∈st,0<=x:=λx a=>(r.in_ x a).1
theorem qB3 {n:Int} {st:List Int} (r:Rise n st)(j:Nat):(mskN st).testBit j=decide ((j:Int)∈st):=qMV r.up r.nn j
theorem qVX {n:Int} {st a:List Int} (r:Rise n st)(c:Rise n a)(h:mskN st=mskN a):st=a:=by
 refine qHH r.up c.up λx=>?_
 constructor
 ·intro b;have e:=qB3 r x.toNat;rw[h,qB3 c x.toNat] at e;have d:=r.nn x b;rw[show((x.toNat:Nat):Int)=x by lia,decide_eq_true b] at e
  exact of_decide_eq_true e
 ·intro b;have e:=qB3 r x.toNat;rw[h,qB3 c x.toNat] at e;have d:=c.nn x b;rw[show((x.toNat:Nat):Int)=x by lia,decide_eq_true b] at e
  exact of_decide_eq_true e.symm
theorem qR3 (b k:Nat):b/2^k%2=if b.testBit k=true then 1 else 0:=by
 rw[Nat.testBit_eq_decide_div_mod_eq];by_cases h:b/2^k%2=1
 ·rw[decide_eq_true h,if_pos rfl,h]
 ·rw[decide_eq_false h,if_neg C3]
  lia
theorem qZC {a b:List Int} (h:a.Perm b):mskN a=mskN b:=by
 induction h with
 |nil=>rfl
 |cons x _ ih=>show 2^x.toNat+mskN _=2^x.toNat+mskN _;rw[ih]
 |swap x y l=>show 2^y.toNat+(2^x.toNat+mskN l)=2^x.toNat+(2^y.toNat+mskN l);lia
 |trans _ _ h1 h2=>exact h1.trans h2
theorem qK9 {st:List Int} (a:st.Nodup){k:Int}(h:k∈st):st.Perm (k::st.filter λx=>decide (x≠k)):=by
 have e:(st.filter λx=>decide (x≠k))=st.erase k:=by
  rw[a.erase_eq_filter];exact R9 λx _=>by simp[bne,BEq.beq]
 rw[e];exact List.perm_cons_erase h
theorem qQZ {n:Int} {st:List Int} (r:Rise n st)(k:Nat):clrb (mskN st) k=mskN (st.filter λx=>decide (x≠(k:Int))):=by
 unfold clrb;rw[qR3,qB3 r];by_cases h:(k:Int)∈st
 ·rw[decide_eq_true h,if_pos rfl,Nat.mul_one,qZC (qK9 r.nodup h)];show 2^((k:Int)).toNat+mskN _-_=_;rw[D0,A13]
 ·rw[decide_eq_false h,if_neg C3,Nat.mul_zero,A42];congr 1;exact(X0.mpr λx a=>by rw[decide_eq_true_eq];intro e;exact h (e▸a)).symm
theorem qKS {n:Int} {st ns:List Int} (r:Rise n st)(a:Rise n ns):mskN st &&& mskN ns=mskN ns↔∀y∈ns,y∈st:=by
 constructor
 ·intro h y d;have e:=congrArg (λb=>Nat.testBit b y.toNat) h;simp only[d0,qB3 r,qB3 a] at e;have f:=a.nn y d;rw[show((y.toNat:Nat):Int)=y by lia,decide_eq_true d,B49] at e
  exact of_decide_eq_true e
 ·intro h;refine Q9 λj=>?_;rw[d0,qB3 r,qB3 a];by_cases c:(j:Int)∈ns
  ·rw[decide_eq_true c,decide_eq_true (h _ c)];rfl
  ·rw[decide_eq_false c,X5]
noncomputable def insL:List Int->Int->List Int
 |[],k=>[k]
 |x::r,k=>if k<x then k::x::r else x::insL r k
theorem qFL:∀(st:List Int) (k:Int),(insL st k).Perm (st++[k])
 |[],k=>.refl _
 |x::r,k=>by
  unfold insL
  split
  ·exact(List.perm_append_comm (l₁:=x::r) (l₂:=[k])).symm
  ·exact(qFL r k).cons x
theorem mem_insL {st:List Int} {k x:Int} :x∈insL st k↔x∈st\/x=k:=by
 rw[(qFL st k).mem_iff,B8,A6]
theorem qWL:∀{st:List Int} {k:Int},st.Pairwise (·<=·)->(insL st k).Pairwise (·<=·)
 |[],k,_=>by simp[insL]
 |x::r,k,h=>by
  have h':=O6.mp h;unfold insL
  split
  ·rename_i c
   refine O6.mpr ⟨λy hy=>?_,h⟩;rcases B1.mp hy with e|e
   ·lia
   ·have:=h'.1 y e;lia
  ·rename_i c
   refine O6.mpr ⟨λy hy=>?_,qWL h'.2⟩;rcases mem_insL.mp hy with e|e
   ·exact h'.1 y e
   ·lia
theorem qSD (st:List Int)(k:Int):(insL st k).length=st.length+1:=by rw[(qFL st k).length_eq,A9];rfl
noncomputable def behL (st:List Int) (m:Mv):List Int:=if m.1=B6 "do" then insL st m.2 else st.filter λx=>decide (x≠m.2)
theorem qHB {n:Int} {st:List Int} {m:Mv} (r:Rise n st) (a:m.1 = "do"\/m.1 = "clear"):Beh st (behL st m) m.1 m.2:=by
 refine⟨λe=>?_,λe=>?_⟩
 ·unfold behL;rw[if_pos e];exact⟨qFL _ _,qWL (r.up.imp λh=>A34 h)⟩
 ·unfold behL;rw[if_neg (λz=>by rw[e] at z;exact qAH z)]
theorem qeV {n:Int} {st a:List Int} {m:Mv} (r:Rise n st) (b:m.1 = "do"\/m.1 = "clear") (h:Beh st a m.1 m.2):a=behL st m:=Beh.one b h (qHB r b)
theorem qaQ {n:Int} {st:List Int} (r:Rise n st){k:Nat}(b:(k:Int)∉st)(a:Rise n (insL st (k:Int))):mskN st ||| 2^k=mskN (insL st (k:Int)):=by
 refine Q9 λj=>?_;rw[A64,qB3 r,qB3 a,Z4,U2,b8,decide_eq_true_eq,decide_eq_true_eq,decide_eq_true_eq,mem_insL]
 constructor
 ·rintro(h|h)
  ·exact .inl h
  ·exact .inr (by lia)
 ·rintro(h|h)
  ·exact .inl h
  ·exact .inr (by lia)
theorem qJ7 (p:Nat->Bool):∀l:List Nat,(l.map λk=>if p k=true then 1 else 0).sum=(l.filter p).length
 |[]=>rfl
 |k::l=>by
  rw[C9,List.sum_cons,qJ7 p l,L5];cases p k
  ·simp
  ·simp;lia
theorem qXK {n:Nat} {st:List Int} (r:Rise (n:Int) st):cntN n (mskN st)=st.length:=by
 unfold cntN;have e:((F5 n).map λk=>mskN st/2^k%2)=(F5 n).map λ(k:Nat)=>if(decide ((k:Int)∈st))=true then 1 else 0:=L3 λk _=>by rw[qR3,qB3 r]
 rw[e,qJ7 (λ(k:Nat)=>decide ((k:Int)∈st))];have b:(((F5 n).filter λ(k:Nat)=>decide ((k:Int)∈st)).map λ(k:Nat)=>(k:Int))=st:=by
  refine qHH ?_ r.up λx=>?_
  ·refine G6.mpr ?_;exact(U5.filter _).imp λh=>by lia
  ·rw[E1]
   constructor
   ·rintro⟨k,c,rfl⟩;exact of_decide_eq_true (C7.mp c).2
   ·intro a;have d:=r.in_ x a;exact⟨x.toNat,C7.mpr ⟨E5.mpr (by lia),decide_eq_true (by rw[show((x.toNat:Nat):Int)=x by lia];exact a)⟩,by lia⟩
 have:=congrArg n8 b
 rwa[A0] at this
section
variable{Ae:Aa0}{Aa:Int}
theorem due_iff {st:List Int} {m:Mv} :m∈qCG Ae st Aa↔((m.1 = "do"\/m.1 = "clear")/\0<=m.2/\m.2<(Ae.length:Int))/\(m.1 = "do"->m.2∉st/\(∀y∈nd Ae m.2,y∈st)/\(st.length:Int)<Aa)/\(m.1 = "clear"->m.2∈st):=by
 unfold qCG;rw[C7,decide_eq_true_eq]
 constructor
 ·rintro⟨f,d⟩;have a:=qSK f;exact⟨a,qdA a.1 d⟩
 ·rintro⟨⟨f,d,h⟩,i,k⟩;obtain⟨j,g⟩:=m;refine⟨?_,?_⟩
  ·unfold qND qJS;rw[B8,E1,E1];rcases f with e|e
   ·exact .inl ⟨g.toNat,E5.mpr (by dsimp only at d h;lia),by dsimp only at e d ⊢;rw[e];congr 1;lia⟩
   ·exact .inr ⟨g.toNat,E5.mpr (by dsimp only at d h;lia),by dsimp only at e d ⊢;rw[e];congr 1;lia⟩
  ·show qCA _ st Aa j g=.non;unfold qCA;rcases f with e|e
   ·obtain⟨a,b,c⟩:=i e;dsimp only at e;rw[if_pos e];unfold qE0;rw[if_neg a,if_pos (show∀y∈(Ae[g.toNat]?).getD [],y∈st from b),if_neg (by lia)]
   ·have a:=k e;dsimp only at e;rw[if_neg (λz=>by rw[e] at z;exact qAH z)]
    unfold qDQ;rw[if_pos a]
inductive Pt (Ae:Aa0)(Aa:Int):Nat->List Int->Prop
 |zero:Pt Ae Aa 0 []
 |step {t:Nat} {st:List Int} {m:Mv}:Pt Ae Aa t st->m∈qCG Ae st Aa->Pt Ae Aa (t+1) (behL st m)
theorem Pt.rise {t:Nat} {st:List Int} (h:Pt Ae Aa t st):Rise (Ae.length:Int) st:=by
 induction h with
 |zero=>exact .nil
 |step _ hm ih=>
  obtain⟨⟨a,b,c⟩,d,e⟩:=due_iff.mp hm;exact qa9 ih a b c (λz=>(d z).1) (qHB ih a)
theorem qKQ {st:List Int} (r:Rise (Ae.length:Int) st) {m:Mv} (f:m∈qCG Ae st Aa):(m.1 = "do"/\(behL st m).length=st.length+1)\/(m.1 = "clear"/\(behL st m).length+1=st.length):=by
 obtain⟨⟨a,b,c⟩,d,e⟩:=due_iff.mp f;rcases a with a|a
 ·refine .inl ⟨a,?_⟩;unfold behL;rw[if_pos a,qSD]
 ·refine .inr ⟨a,?_⟩;unfold behL;rw[if_neg (λz=>by rw[a] at z;exact qAH z)]
  have:=(qK9 r.nodup (e a)).length_eq;rw[C6] at this
  lia
theorem qVU (a:WFn Ae){w:Int}(h:w<(Ae.length:Int)):Rise (Ae.length:Int) (nd Ae w):=by
 by_cases b:0<=w
 ·exact(qGW a w.toNat).mono (by lia)
 ·have:=qGW a w.toNat;rw[show w.toNat=0 by lia] at this
  unfold nd;rw[show w.toNat=0 by lia]
  exact this.mono (by lia)
theorem Pt.bits (j:WFn Ae){t:Nat}{st:List Int}(h:Pt Ae Aa t st):∃m,2*m=t+st.length/\Rm Ae Aa m (mskN st):=by
 induction h with
 |zero=>exact⟨0,rfl,.zero⟩
 |@step t st m h hm ih=>
  obtain⟨d,e,R⟩:=ih;have r:=h.rise;have i:=(Pt.step h hm).rise;obtain⟨⟨a,b,c⟩,q,u⟩:=due_iff.mp hm;have f:((m.2.toNat:Nat):Int)=m.2:=by lia
  rcases qKQ r hm with⟨w,l⟩|⟨w,l⟩
  ·refine⟨d+1,by lia,?_⟩
   obtain⟨n,s,p⟩:=q w;have g:behL st m=insL st m.2:=by unfold behL;rw[if_pos w]
   rw[g] at i ⊢;have:=qaQ (k:=m.2.toNat) r (by rw[f];exact n) (by rw[f];exact i)
   rw[f] at this;rw[<- this];refine .do_ R ⟨by rw[qXK r];exact p,by lia,?_⟩
   have o:Rise (Ae.length:Int) (nd Ae m.2):=qVU j c;exact(qKS r o).mpr s
  ·refine⟨d,by lia,?_⟩
   have g:behL st m=st.filter λx=>decide (x≠m.2):=by unfold behL;rw[if_neg (λz=>by rw[w] at z;exact qAH z)]
   rw[g];have:=qQZ r m.2.toNat;rw[f] at this;rw[<- this];exact .clr R (by lia)
theorem qc1 {b k:Nat} (h:b.testBit k=true):b ||| 2^k=b:=by
 refine Q9 λj=>?_;rw[A64,Z4];by_cases e:k=j
 ·subst e;simp[h]
 ·simp[e]
theorem Rm.path (n:WFn Ae){m b:Nat}(h:Rm Ae Aa m b):∃st t,b=mskN st/\Pt Ae Aa t st/\t+st.length<=2*m:=by
 induction h with
 |zero=>exact⟨[],0,rfl,.zero,by simp⟩
 |@clr m b k _ hk ih=>
  obtain⟨st,t,rfl,P,l⟩:=ih;have r:=P.rise;by_cases c:(k:Int)∈st
  ·have a:((B6 "clear",(k:Int)):Mv)∈qCG Ae st Aa:=due_iff.mpr ⟨⟨.inr rfl,by show(0:Int)<=(k:Int);lia,by show(k:Int)<_;lia⟩,λz=>absurd z qAH,λ_=>c⟩
   refine⟨_,t+1,?_,.step P a,?_⟩
   ·rw[qQZ r];unfold behL;rw[if_neg qAH]
   ·rcases qKQ r a with⟨w,_⟩|⟨_,s⟩
    ·exact absurd w qAH
    ·lia
  ·refine⟨st,t,?_,P,l⟩;rw[qQZ r];congr 1;exact X0.mpr λx q=>by rw[decide_eq_true_eq];intro e;exact c (e▸q)
 |@do_ m b k _ hc ih=>
  obtain⟨st,t,rfl,P,l⟩:=ih;have r:=P.rise;by_cases c:(k:Int)∈st
  ·exact⟨st,t,qc1 (by rw[qB3 r];exact decide_eq_true c),P,by lia⟩
  ·obtain⟨i,u,g⟩:=hc;rw[qXK r] at i;have p:Rise (Ae.length:Int) (nd Ae (k:Int)):=qVU n (by lia)
   have o:nxt Ae k=mskN (nd Ae (k:Int)):=by unfold nxt nd;rw[D0]
   rw[o] at g;have a:((B6 "do",(k:Int)):Mv)∈qCG Ae st Aa:=due_iff.mpr ⟨⟨.inl rfl,by show(0:Int)<=(k:Int);lia,by show(k:Int)<_;lia⟩,λ_=>⟨c,(qKS r p).mp g,i⟩,λz=>absurd z.symm qAH⟩
   have d:=Pt.step P a;have j:behL st ((B6 "do",(k:Int)):Mv)=insL st (k:Int):=by unfold behL;rw[if_pos rfl]
   refine⟨_,t+1,?_,d,?_⟩
   ·have f:=d.rise;rw[j] at f ⊢;exact qaQ r c f
   ·rw[j,qSD]
    lia
def Mt (Ae:Aa0)(Aa:Int)(t:Nat)(st:List Int):Prop:=Pt Ae Aa t st/\∀u,u<t->¬Pt Ae Aa u st
theorem Mt.one {t u:Nat} {st:List Int} (h:Mt Ae Aa t st)(h':Mt Ae Aa u st):t=u:=by
 rcases j3 t u with c|c|c
 ·exact absurd h.1 (h'.2 t c)
 ·exact c
 ·exact absurd h'.1 (h.2 u c)
structure BF (Ae:Aa0)(Aa:Int)(t:Nat)(ks due ly:Aa0)(f:List Int->Nat)(i k:Nat):Prop where
 nd:ks.Nodup
 snd:∀s∈ks,∃u,u<=t+1/\Mt Ae Aa u s/\2*f s=u+s.length
 full:∀u s,u<=t->Pt Ae Aa u s->s∈ks
 duem:∀s,s∈due↔Mt Ae Aa t s
 lym:∀s,s∈ly↔s∈ks/\Mt Ae Aa (t+1) s
 done:∀j s,due[j]?=some s->j<i->∀m∈qCG Ae s Aa,behL s m∈ks
 dk:∀s,due[i]?=some s->∀m∈(qCG Ae s Aa).take k,behL s m∈ks
theorem BF.start:BF Ae Aa 0 [[]] [[]] [] (λ_=>0) 0 0:=by
 have z:∀s,Pt Ae Aa 0 s->s=[]:=λs h=>by cases h;rfl
 have a:Mt Ae Aa 0 []:=⟨.zero,λu b=>absurd b (p7 _)⟩;refine⟨by simp,λs c=>?_,λu s b p=>?_,λs=>?_,λs=>?_,λj s _ f=>absurd f (p7 _),λs _ m d=>by simp at d⟩
 ·rw[A6.mp c];exact⟨0,by lia,a,rfl⟩
 ·have:u=0:=by lia
  subst this;rw[z s p];simp
 ·rw[A6];exact⟨λe=>e▸a,λh=>z s h.1⟩
 ·constructor
  ·intro h;cases h
  ·rintro⟨h,m⟩;rw[A6.mp h] at m;exact absurd (Mt.one m a) (by lia)
section
variable{t:Nat}{ks due ly:Aa0}{f:List Int->Nat}{i k:Nat}
theorem BF.hit (h:BF Ae Aa t ks due ly f i k){s:List Int}{m:Mv}(b:due[i]?=some s)(d:(qCG Ae s Aa)[k]?=some m)(g:behL s m∈ks):BF Ae Aa t ks due ly f i (k+1):=by
 refine⟨h.nd,h.snd,h.full,h.duem,h.lym,h.done,λj e c a=>?_⟩;rw[b] at e;cases e;rw[D3,d,D5,B8,A6] at a;rcases a with z|z
 ·exact h.dk s b c z
 ·rw[z];exact g
noncomputable def qIE (f:List Int->Nat)(x:List Int)(v:Nat):List Int->Nat:=λy=>if y=x then v else f y
theorem qLY (f:List Int->Nat)(x:List Int)(v:Nat):qIE f x v x=v:=if_pos rfl
theorem qIS {f:List Int->Nat} {x y:List Int} {v:Nat} {ks:Aa0} (h:y∈ks)(a:x∉ks):qIE f x v y=f y:=if_neg λe=>a (by rw[<- e];exact h)
theorem qJB {ks:Aa0} {x:List Int} (f:ks.Nodup)(h:x∉ks):(ks++[x]).Nodup:=by
 rw[W3];exact⟨f,by simp,λa c b d e=>h (by rw[A6.mp d] at e;exact e▸c)⟩
theorem BF.val (h:BF Ae Aa t ks due ly f i k){s:List Int}(c:s∈due):s∈ks/\2*f s=t+s.length:=by
 have m:=(h.duem s).mp c;have a:=h.full t s (A7 _) m.1;obtain⟨u,_,b,e⟩:=h.snd s a;rw[Mt.one b m] at e;exact⟨a,e⟩
theorem BF.add (h:BF Ae Aa t ks due ly f i k){s:List Int}{m:Mv}(c:due[i]?=some s)(q:(qCG Ae s Aa)[k]?=some m)(d:behL s m∉ks):
  BF Ae Aa t (ks++[behL s m]) due (ly++[behL s m]) (qIE f (behL s m) (f s+if m.1=B6 "do" then 1 else 0)) i (k+1):=by
 have b:=B0 c;have v:=(h.duem s).mp b;obtain⟨y,ev⟩:=h.val b;have r:=B0 q;have n:Mt Ae Aa (t+1) (behL s m):=⟨.step v.1 r,λu o p=>d (h.full u _ (by lia) p)⟩
 refine⟨qJB h.nd d,λx hx=>?_,λu x o p=>B8.mpr (.inl (h.full u x o p)),h.duem,λx=>?_,λj x e hj g a=>B8.mpr (.inl (h.done j x e hj g a)),λx e g a=>?_⟩
 ·rcases B8.mp hx with z|z
  ·rw[qIS z d];exact h.snd x z
  ·rw[A6.mp z,qLY];refine⟨t+1,A7 _,n,?_⟩;rcases qKQ v.1.rise r with⟨w,l⟩|⟨w,l⟩
   ·rw[if_pos w];lia
   ·rw[if_neg (λz=>by rw[w] at z;exact qAH z)];lia
 ·rw[B8,B8,A6,h.lym x]
  constructor
  ·rintro(z|z)
   ·exact⟨.inl z.1,z.2⟩
   ·exact⟨.inr z,z▸n⟩
  ·rintro⟨z|z,e⟩
   ·exact .inl ⟨z,e⟩
   ·exact .inr z
 ·rw[c] at e;cases e;rw[D3,q,D5,B8,A6] at a;rcases a with z|z
  ·exact B8.mpr (.inl (h.dk s c g z))
  ·rw[z];simp
theorem BF.next (h:BF Ae Aa t ks due ly f i k){s:List Int}(b:due[i]?=some s)(d:(qCG Ae s Aa).length<=k):BF Ae Aa t ks due ly f (i+1) 0:=by
 refine⟨h.nd,h.snd,h.full,h.duem,h.lym,λj x e g m a=>?_,λs _ m a=>by simp at a⟩
 by_cases c:j=i
 ·subst c;rw[b] at e;cases e;exact h.dk s b m (by rw[E3 d];exact a)
 ·exact h.done j x e (by lia) m a
theorem BF.level (h:BF Ae Aa t ks due ly f i k)(hi:due.length<=i):BF Ae Aa (t+1) ks ly [] f 0 0:=by
 have full:∀u s,u<=t+1->Pt Ae Aa u s->s∈ks:=λu s g p=>by
  cases p with
  |zero=>exact h.full 0 [] (by lia) .zero
  |@step u st m p hm=>
   have b:=h.full u st (by lia) p
   obtain⟨v,q,c,_⟩:=h.snd st b;have n:v<=u:=by
    apply L6;intro z;exact c.2 u (by lia) p
   by_cases e:v=t
   ·subst e;obtain⟨j,d,l⟩:=List.getElem_of_mem ((h.duem st).mpr c);exact h.done j st (by rw[A4 d,l]) (by lia) m hm
   ·exact h.full (v+1) _ (by lia) (.step c.1 hm)
 refine⟨h.nd,λs a=>?_,full,λs=>?_,λs=>?_,λj s _ d=>absurd d (p7 _),λs _ m hm=>by simp at hm⟩
 ·obtain⟨u,g,r⟩:=h.snd s a;exact⟨u,by lia,r⟩
 ·rw[h.lym s];exact⟨λz=>z.2,λz=>⟨full _ _ (A7 _) z.1,z⟩⟩
 ·constructor
  ·intro z;cases z
  ·rintro⟨a,m⟩;obtain⟨u,g,o,_⟩:=h.snd s a;exact absurd (Mt.one o m) (by lia)
structure Rch (Ae:Aa0)(Aa:Int)(ks:Aa0)(f:List Int->Nat):Prop where
 nd:ks.Nodup
 snd:∀s∈ks,∃u,Mt Ae Aa u s/\2*f s=u+s.length
 all:∀u s,Pt Ae Aa u s->s∈ks
theorem BF.rch (h:BF Ae Aa t ks [] [] f i k):Rch Ae Aa ks f:=by
 have c:∀s∈ks,∃u,u<t/\Mt Ae Aa u s:=λs a=>by
  obtain⟨u,g,b,_⟩:=h.snd s a;have l:u≠t:=λe=>nomatch(h.duem s).mpr (e▸b);have m:u≠t+1:=λe=>nomatch(h.lym s).mpr ⟨a,e▸b⟩;exact⟨u,by lia,b⟩
 refine⟨h.nd,λs a=>let⟨u,_,r⟩:=h.snd s a;⟨u,r⟩,λu s p=>?_⟩
 induction p with
 |zero=>exact h.full 0 [] (by lia) .zero
 |step p hm ih=>
  obtain⟨v,j,d⟩:=c _ ih;exact h.full (v+1) _ (by lia) (.step d.1 hm)
theorem BF.len (h:BF Ae Aa t ks due ly f i k):ks.length<=2^Ae.length:=by
 have d:∀s∈ks,Rise (Ae.length:Int) s:=λs c=>let⟨_,_,m,_⟩:=h.snd s c;m.1.rise
 have nd:(ks.map mskN).Nodup:=by
  refine G6.mpr (h.nd.imp_of_mem λ{a b} o l g e=>g (qVX (d a o) (d b l) e))
 have:=qKP (n:=2^Ae.length) nd λb l=>by
  obtain⟨s,c,rfl⟩:=E1.mp l;refine y9 _ λj p=>?_;rw[qB3 (d s c)];refine decide_eq_false λz=>?_;have:=((d s c).in_ _ z).2
  lia
 rwa[A0] at this
end
theorem Rch.le {ks:Aa0} {f:List Int->Nat} (h:Rch Ae Aa ks f){s:List Int}(a:s∈ks){t:Nat}(p:Pt Ae Aa t s):2*f s<=t+s.length:=by
 obtain⟨u,m,e⟩:=h.snd s a;have:u<=t:=by
  apply L6;intro z;exact m.2 t (by lia) p
 lia
end
theorem _root_.L2.lm_hu {X:Cx} {a:Scope} {p:Str} {fv:List Nat} {q:Str} (z:LmZ):(lmCx X a p fv q z).A.units+1<cLine:=by
 have:=z.rm.un;show z.A.units+3+1<cLine
 lia
theorem _root_.L2.hu2_of {k:Nat} {A:Around} (a:Room k A):A.in1.units+1<cLine:=by
 have:=a.units;show A.units+1+1<cLine
 lia
noncomputable def keyS (s:List Int):List Key:=s.map F4
theorem qFK (s:List Int):(keyS s).map kV=s.map V.int:=by unfold keyS;rw[Z8];rfl
theorem qN1 {s s':List Int} (h:keyS s=keyS s'):s=s':=by
 unfold keyS at h;exact List.map_inj_right (λa b e=>W6 e) |>.mp h
def Val3 (H:Hp)(v:V)(n:Nat):Prop:=∃r x y,v=.ref r/\H r=some (.tup [.int (n:Int),x,y])
theorem Val3.same {H H':Hp} {v:V} {n:Nat} (h:Val3 H v n)(a:Same H H'):Val3 H' v n:=let⟨r,x,y,e,g⟩:=h;⟨r,x,y,e,a _ _ g⟩
def Ent (H:Hp)(Af:List (List Key×V))(ks:Aa0)(f:List Int->Nat):Prop:=Paired (λ(kv:List Key×V) s=>kv.1=keyS s/\Val3 H kv.2 (f s)) Af ks
section
variable{H H':Hp}{Af:List (List Key×V)}{ks:Aa0}{f:List Int->Nat}
theorem Ent.same (h:Ent H Af ks f)(a:Same H H'):Ent H' Af ks f:=Paired.mapP h λ_ _ z=>⟨z.1,z.2.same a⟩
theorem Ent.val:∀{Af:List (List Key×V)} {ks:Aa0},Ent H Af ks f->∀{s:List Int},s∈ks->∃v,valV Af (keyS s)=some v/\Val3 H v (f s)
 |_,_,.nil,s,hs=>nomatch hs
 |_,_,.cons (a:=kv) (b:=s0) ⟨e,v3⟩ t,s,hs=>by
  by_cases c:s0=s
  ·subst c;exact⟨kv.2,qB7 e,v3⟩
  ·rw[qB1 (λz=>c (qN1 (e.symm.trans z)))];exact Ent.val t ((B1.mp hs).resolve_left λz=>c z.symm)
theorem Ent.none:∀{Af:List (List Key×V)} {ks:Aa0},Ent H Af ks f->∀{s:List Int},s∉ks->valV Af (keyS s)=none
 |_,_,.nil,s,hs=>rfl
 |_,_,.cons (a:=kv) (b:=s0) ⟨e,v3⟩ t,s,hs=>by
  rw[qB1 (λz=>hs (by rw[qN1 (e.symm.trans z)];simp))]
  exact Ent.none t λz=>hs (A8 _ z)
theorem Ent.len (h:Ent H Af ks f):Af.length=ks.length:=C2 h
end
def StL (H:Hp)(rs:List Addr)(ss:Aa0):Prop:=Paired (λ(r:Addr) (s:List Int)=>H r=some (.tup (s.map V.int))) rs ss
theorem StL.same {H H':Hp} {rs:List Addr} {a:Aa0} (h:StL H rs a)(b:Same H H'):StL H' rs a:=Paired.mapP h λ_ _ z=>b _ _ z
theorem StL.put {H:Hp} {rs:List Addr} {a:Aa0} {d:Addr} {o u:HO} (h:StL H rs a)(b:H d=some o)(c:∀xs,o≠.tup xs):StL (Ag H d u) rs a:=Paired.mapP h λr s z=>by
 rw[qA7 (qC6 z b λe=>c _ e.symm)];exact z
theorem StL.snoc {H:Hp} {rs:List Addr} {b:Aa0} {r:Addr} {s:List Int} (h:StL H rs b)(g:H r=some (.tup (s.map V.int))):StL H (rs++[r]) (b++[s]):=by
 induction h with
 |nil=>exact .cons g .nil
 |cons a _ ih=>exact .cons a ih
theorem MovL.putG {H:Hp} {rs:List Addr} {a:List Mv} {d:Addr} {o u:HO} (h:MovL H rs a)(b:H d=some o)(c:∀xs,o≠.tup xs):MovL (Ag H d u) rs a:=Paired.mapP h λr s z=>by
 rw[qA7 (qC6 z b λe=>c _ e.symm)];exact z
theorem qHT:∀a b c:List Int,HT.lexLt a b=false->HT.lexLt b c=false->HT.lexLt a c=false
 |[],[],c,_,h=>h
 |[],_::_,c,h,_=>by cases h
 |x::a,[],[],_,_=>rfl
 |x::a,[],_::_,_,h=>by cases h
 |x::a,y::b,[],_,_=>rfl
 |x::a,y::b,z::c,h1,h2=>by
  rw[HT.lexLt_cons] at h1 h2 ⊢;by_cases e1:x=y
  ·subst e1;rw[if_pos rfl] at h1;by_cases e2:x=z
   ·rw[if_pos e2] at h2 ⊢;exact qHT a b c h1 h2
   ·rw[if_neg e2] at h2 ⊢;exact h2
  ·rw[if_neg e1] at h1;have h1:=of_decide_eq_false h1;by_cases e2:y=z
   ·subst e2;rw[if_neg e1];exact decide_eq_false h1
   ·rw[if_neg e2] at h2;have h2:=of_decide_eq_false h2;rw[if_neg (by lia)]
    exact decide_eq_false (by lia)
theorem qS9:∀a b:List Int,HT.lexLt a b=true->HT.lexLt b a=false
 |[],[],_=>rfl
 |[],_::_,_=>rfl
 |_::_,[],h=>by cases h
 |x::a,y::b,h=>by
  rw[HT.lexLt_cons] at h ⊢;by_cases e:x=y
  ·subst e;rw[if_pos rfl] at h ⊢;exact qS9 a b h
  ·rw[if_neg e] at h;have h:=of_decide_eq_true h;rw[if_neg (by lia)]
   exact decide_eq_false (by lia)
theorem qJJ:∀(r:List (V×List Int)) (b:V×List Int),∃k,(qF7 b r,k)∈b::r/\∀q∈b::r,HT.lexLt q.2 k=false
 |[],b=>⟨b.2,by simp[qF7],λq hq=>by rw[A6.mp hq];exact qQK _⟩
 |x::r,b=>by
  by_cases e:HT.lexLt x.2 b.2=true
  ·obtain⟨k,h1,h2⟩:=qJJ r x;have ep:qF7 b (x::r)=qF7 x r:=by rw[qF7,if_pos e]
   rw[ep];refine⟨k,A8 _ h1,λq hq=>?_⟩;rcases B1.mp hq with z|z
   ·rw[z];exact qHT _ _ _ (qS9 _ _ e) (h2 x (by simp))
   ·exact h2 q z
  ·obtain⟨k,h1,h2⟩:=qJJ r b;have ep:qF7 b (x::r)=qF7 b r:=by rw[qF7,if_neg e]
   rw[ep];refine⟨k,?_,λq hq=>?_⟩
   ·rcases B1.mp h1 with z|z
    ·rw[z];simp
    ·exact A8 _ (A8 _ z)
   ·rcases B1.mp hq with z|z
    ·exact h2 q (by rw[z];simp)
    ·rcases B1.mp z with z|z
     ·rw[z];exact qHT _ _ _ (R8.mpr e) (h2 b (by simp))
     ·exact h2 q (A8 _ z)
def TabB (H:Hp) (Pt:Addr):Prop:=H Pt=some (.tbl (.tab "best_end.<locals>.<lambda>"))
def qUU (Pt:Addr):Sp:=λvs H Q _=>∃(d t:Addr) (o:Obj) (Af:List (List Key×V)) (ks:Aa0) (f:List Int->Nat) (Ad:List Int),vs=[.ref d,.ref t]/\TabB H Pt/\H d=some (.frz o (.dT Af))/\Ent H Af ks f/\ks.length<=4096/\H t=some (.tup (Ad.map V.int))/\Ad.length<=63/\
 ∀H',Same H H'->((∀s∈ks,¬ ∀x∈Ad,x∈s)->Q .non H')/\∀r s,H' r=some (.tup (s.map V.int))->s∈ks->(∀x∈Ad,x∈s)->(∀s'∈ks,(∀x∈Ad,x∈s')->f s<=f s')->Q (.ref r) H'
def LB (Ae:Aa0)(Aa:Int)(Ad:List Int):Option Nat->Prop
 |none=>∀m b,Rm Ae Aa m b->¬b &&& mskN Ad=mskN Ad
 |some k=>(∃b,Rm Ae Aa k b/\b &&& mskN Ad=mskN Ad)/\∀m b,Rm Ae Aa m b->b &&& mskN Ad=mskN Ad->k<=m
section
variable{Ae:Aa0}{Aa:Int}{Ad:List Int}
theorem qXV (i:WFn Ae)(j:Rise (Ae.length:Int) Ad){ks:Aa0}{f:List Int->Nat}(h:Rch Ae Aa ks f){s:List Int}(n:s∈ks)(r:∀x∈Ad,x∈s)(le:∀s'∈ks,(∀x∈Ad,x∈s')->f s<=f s'):LB Ae Aa Ad (some (f s)):=by
 obtain⟨u,m,e⟩:=h.snd s n;obtain⟨d,w,R⟩:=m.1.bits i;have o:d=f s:=by lia
 subst o;refine⟨⟨_,R,(qKS m.1.rise j).mpr r⟩,λy b p q=>?_⟩;obtain⟨k,t,v,P,l⟩:=p.path i;subst v;have g:=h.all t k P;have a:=le k g ((qKS P.rise j).mp q);have c:=h.le g P
 lia
theorem qPE (c:WFn Ae)(d:Rise (Ae.length:Int) Ad){ks:Aa0}{f:List Int->Nat}(h:Rch Ae Aa ks f)(g:∀s∈ks,¬ ∀x∈Ad,x∈s):LB Ae Aa Ad none:=λm b R e=>by
 obtain⟨a,t,i,P,l⟩:=R.path c;subst i;exact g a (h.all t a P) ((qKS P.rise d).mp e)
theorem qaG {a:List Mv} {s t:List Int} (h:Run Ae Aa s a t):∀{u:Nat},(∀m∈a,0<=m.2/\m.2<(Ae.length:Int))->Pt Ae Aa u s->Pt Ae Aa (u+a.length) t:=by
 induction h with
 |nil=>exactλ_ p=>p
 |@do_ s s' t w a h1 h2 h3 h4 h5 h6 ih=>
  intro u c p;have d:((B6 "do",w):Mv)∈qCG Ae s Aa:=due_iff.mpr ⟨⟨.inl rfl,(c _ (by simp)).1,(c _ (by simp)).2⟩,λ_=>⟨h1,h2,h3⟩,λz=>absurd z.symm qAH⟩
  have e:s'=behL s (B6 "do",w):=by
   unfold behL;rw[if_pos rfl];refine qHH h5 ((Pt.step p d).rise.up |> λz=>by unfold behL at z;rw[if_pos rfl] at z;exact z) λx=>?_
   rw[h4.mem_iff,mem_insL,B8,A6]
  have:=ih (u:=u+1) (λm b=>c m (A8 _ b)) (by rw[e];exact .step p d)
  rw[C6,show u+(a.length+1)=u+1+a.length by lia]
  exact this
 |@clear s t w a h1 h2 ih=>
  intro u c p;have d:((B6 "clear",w):Mv)∈qCG Ae s Aa:=due_iff.mpr ⟨⟨.inr rfl,(c _ (by simp)).1,(c _ (by simp)).2⟩,λz=>absurd z qAH,λ_=>h1⟩
  have:=ih (u:=u+1) (fun m b=>c m (A8 _ b)) (by
   have q:=Pt.step p d;unfold behL at q;rw[if_neg qAH] at q;exact q)
  rw[C6,show u+(a.length+1)=u+1+a.length by lia]
  exact this
theorem qZF {P:Nat->Prop} :∀n,P n->∃k,P k/\∀m,P m->k<=m:=by
 intro n
 induction n using d3 with
 |_ n ih=>
  intro h;by_cases c:∃m,m<n/\P m
  ·obtain⟨m,a,b⟩:=c;exact ih m a b
  ·exact⟨n,h,λm d=>Z1 λz=>c ⟨m,z,d⟩⟩
theorem qg2 (Ae:Aa0)(Aa:Int)(Ad:List Int):∃o,LB Ae Aa Ad o:=by
 by_cases c:∃m b,Rm Ae Aa m b/\b &&& mskN Ad=mskN Ad
 ·obtain⟨m,b,R,e⟩:=c;obtain⟨k,⟨d,f,a⟩,l⟩:=qZF (P:=λm=>∃b,Rm Ae Aa m b/\b &&& mskN Ad=mskN Ad) m ⟨b,R,e⟩;exact⟨some k,⟨d,f,a⟩,λm b R e=>l m ⟨b,R,e⟩⟩
 ·exact⟨none,λm b R e=>c ⟨m,b,R,e⟩⟩
noncomputable def lstO (Ae:Aa0)(Aa:Int)(Ad:List Int):Option Nat:=B15 (qg2 Ae Aa Ad)
noncomputable def upS (Ae:Aa0)(Ad:List Int)(r:Nat):List (Nat×Nat):=(F5 r).filterMap λi=>(lstO Ae ((i+1:Nat):Int) Ad).map λk=>(i+1,k)
end
theorem Rch.len {Ae:Aa0} {Aa:Int} {ks:Aa0} {f:List Int->Nat} (h:Rch Ae Aa ks f):ks.length<=2^Ae.length:=by
 have d:∀s∈ks,Rise (Ae.length:Int) s:=λs c=>let⟨_,m,_⟩:=h.snd s c;m.1.rise
 have nd:(ks.map mskN).Nodup:=G6.mpr (h.nd.imp_of_mem λ{a b} k i g e=>g (qVX (d a k) (d b i) e));have:=qKP (n:=2^Ae.length) nd λb i=>by
  obtain⟨s,c,rfl⟩:=E1.mp i;refine y9 _ λj l=>?_;rw[qB3 (d s c)];refine decide_eq_false λz=>?_;have:=((d s c).in_ _ z).2
  lia
 rwa[A0] at this
abbrev Prv:=Option (List Int×Mv)
def ValX (H:Hp)(v:V)(n:Nat):Prv->Prop
 |none=>∃r,v=.ref r/\H r=some (.tup [.int (n:Int),.non,.non])
 |some (p,m)=>∃r rp rm,v=.ref r/\H r=some (.tup [.int (n:Int),.ref rp,.ref rm])/\H rp=some (.tup (p.map V.int))/\H rm=some (.tup [.str m.1,.int m.2])
theorem ValX.same {H H':Hp} {v:V} {n:Nat} {o:Prv} (h:ValX H v n o)(a:Same H H'):ValX H' v n o:=by
 cases o with
 |none=>obtain⟨r,e,g⟩:=h;exact⟨r,e,a _ _ g⟩
 |some pm=>obtain⟨r,b,c,e,i,f,d⟩:=h;exact⟨r,b,c,e,a _ _ i,a _ _ f,a _ _ d⟩
theorem ValX.put {H:Hp} {v:V} {n:Nat} {q:Prv} {d:Addr} {o u:HO} (h:ValX H v n q)(c:H d=some o)(i:∀xs,o≠.tup xs):ValX (Ag H d u) v n q:=by
 have k:∀(r:Addr) (xs:List V),H r=some (.tup xs)->(Ag H d u) r=some (.tup xs):=λr xs g=>by
  rw[qA7 (qC6 g c λz=>i _ z.symm)];exact g
 cases q with
 |none=>obtain⟨r,e,g⟩:=h;exact⟨r,e,k _ _ g⟩
 |some pm=>obtain⟨r,a,b,e,l,j,f⟩:=h;exact⟨r,a,b,e,k _ _ l,k _ _ j,k _ _ f⟩
theorem ValX.val3 {H:Hp} {v:V} {n:Nat} {o:Prv} (h:ValX H v n o):Val3 H v n:=by
 cases o with
 |none=>obtain⟨r,e,g⟩:=h;exact⟨r,_,_,e,g⟩
 |some pm=>obtain⟨r,b,a,e,g,_⟩:=h;exact⟨r,_,_,e,g⟩
def EntX (H:Hp)(Af:List (List Key×V))(ks:Aa0)(f:List Int->Nat)(g:List Int->Prv):Prop:=Paired (λ(kv:List Key×V) s=>kv.1=keyS s/\ValX H kv.2 (f s) (g s)) Af ks
noncomputable def gset (g:List Int->Prv)(x:List Int)(v:Prv):List Int->Prv:=λy=>if y=x then v else g y
section
variable{H H':Hp}{Af:List (List Key×V)}{ks:Aa0}{f:List Int->Nat}{g:List Int->Prv}
theorem EntX.same (h:EntX H Af ks f g)(a:Same H H'):EntX H' Af ks f g:=Paired.mapP h λ_ _ z=>⟨z.1,z.2.same a⟩
theorem EntX.put {d:Addr} {o u:HO} (h:EntX H Af ks f g)(a:H d=some o)(b:∀xs,o≠.tup xs):EntX (Ag H d u) Af ks f g:=Paired.mapP h λ_ _ z=>⟨z.1,z.2.put a b⟩
theorem EntX.ent (h:EntX H Af ks f g):Ent H Af ks f:=Paired.mapP h λ_ _ z=>⟨z.1,z.2.val3⟩
theorem EntX.val:∀{Af:List (List Key×V)} {ks:Aa0},EntX H Af ks f g->∀{s:List Int},s∈ks->∃v,valV Af (keyS s)=some v/\ValX H v (f s) (g s)
 |_,_,.nil,s,hs=>nomatch hs
 |_,_,.cons (a:=kv) (b:=s0) ⟨e,v3⟩ t,s,hs=>by
  by_cases c:s0=s
  ·subst c;exact⟨kv.2,qB7 e,v3⟩
  ·rw[qB1 (λz=>c (qN1 (e.symm.trans z)))];exact EntX.val t ((B1.mp hs).resolve_left λz=>c z.symm)
theorem EntX.snoc (h:EntX H Af ks f g){s:List Int}(c:s∉ks){v:V}{n:Nat}{o:Prv}(d:ValX H v n o):EntX H (putK Af (keyS s) v) (ks++[s]) (qIE f s n) (gset g s o):=by
 rw[qMN v (h.ent.none c)];have e:EntX H Af ks (qIE f s n) (gset g s o):=by
  have:∀{Af:List (List Key×V)} {ks:Aa0},EntX H Af ks f g->s∉ks->EntX H Af ks (qIE f s n) (gset g s o):=by
   intro Af ks h
   induction h with
   |nil=>exactλ_=>.nil
   |@cons kv s0 l1 l2 a t ih=>exactλb=>.cons ⟨a.1,by rw[show qIE f s n s0=f s0 from if_neg λz=>b (by rw[z];simp),show gset g s o s0=g s0 from if_neg λz=>b (by rw[z];simp)];exact a.2⟩ (ih λz=>b (A8 _ z))
  exact this h c
 have:∀{Af:List (List Key×V)} {ks:Aa0},EntX H Af ks (qIE f s n) (gset g s o)->EntX H (Af++[(keyS s,v)]) (ks++[s]) (qIE f s n) (gset g s o):=by
  intro Af ks h
  induction h with
  |nil=>exact .cons ⟨rfl,by rw[show qIE f s n s=n from if_pos rfl,show gset g s o s=o from if_pos rfl];exact d⟩ .nil
  |cons a _ ih=>exact .cons a ih
 exact this e
end
section
variable{Ae:Aa0}{Aa:Int}{ks ks':Aa0}{f f':List Int->Nat}{g g':List Int->Prv}
def Prov (Ae:Aa0)(Aa:Int)(ks:Aa0)(f:List Int->Nat)(g:List Int->Prv):Prop:=
 ∀s∈ks,(s=[]/\g s=none/\f s=0)\/∃p m,g s=some (p,m)/\p∈ks/\m∈qCG Ae p Aa/\s=behL p m/\f s=f p+if m.1=B6 "do" then 1 else 0
theorem qcD {a b:Aa0} (e:a.Nodup)(d:b.Nodup)(h:∀x∈a,x∈b):a.length<=b.length:=by
 have p:a.Perm (b.filter λx=>decide (x∈a)):=(t0 e (d.filter _)).mpr λx=>by
  rw[C7,decide_eq_true_eq];exact⟨λc=>⟨h x c,c⟩,λc=>c.2⟩
 rw[p.length_eq];exact M6 _ _
noncomputable def qFF (g:List Int->Prv):Nat->List Int->List Mv
 |0,_=>[]
 |n+1,s=>match g s with
  |none=>[]
  |some (p,m)=>qFF g n p++[m]
noncomputable def pth (f:List Int->Nat)(g:List Int->Prv)(s:List Int):List Mv:=qFF g (2*f s-s.length) s
theorem qMB (R:Rch Ae Aa ks f) {p:List Int} {m:Mv} (b:p∈ks) (d:m∈qCG Ae p Aa) {u:Nat} (e:2*(f p+if m.1=B6 "do" then 1 else 0)=u+(behL p m).length):∃v,u=v+1/\2*f p=v+p.length:=by
 obtain⟨v,c,a⟩:=R.snd p b;refine⟨v,?_,a⟩;rcases qKQ c.1.rise d with⟨w,l⟩|⟨w,l⟩
 ·rw[if_pos w] at e;lia
 ·rw[if_neg (λz=>by rw[w] at z;exact qAH z)] at e;lia
theorem qbL (l:WFn Ae){p:List Int}{m:Mv}{t:Nat}(P:Pt Ae Aa t p)(g:m∈qCG Ae p Aa):Run Ae Aa p [m] (behL p m):=by
 have r:=P.rise;have h:=(Pt.step P g).rise;obtain⟨⟨a,b,c⟩,d,e⟩:=due_iff.mp g;obtain⟨f,n⟩:=m;rcases a with a|a
 ·have a:f=B6 "do":=a
  subst a;obtain⟨i,k,j⟩:=d rfl;exact .do_ i k j (by unfold behL;rw[if_pos rfl];exact qFL _ _) h.up .nil
 ·have a:f=B6 "clear":=a;subst a;unfold behL;rw[if_neg (λz=>qAH z)];exact .clear (e rfl) .nil
theorem qS0 (wf:WFn Ae)(R:Rch Ae Aa ks f)(pv:Prov Ae Aa ks f g):∀(u:Nat) (s:List Int),s∈ks->2*f s=u+s.length->Run Ae Aa [] (qFF g u s) s/\(qCH (qFF g u s)).length=f s/\MvOk Ae (qFF g u s)/\(qFF g u s).length=u/\
  ∃L:Aa0,L.length=u+1/\L.Nodup/\∀x∈L,x∈ks/\∃v,v<=u/\2*f x=v+x.length
 |0,s,hs,e=>by
  rcases pv s hs with⟨a1,a2,a3⟩|⟨p,m,a1,a2,a3,a4,a5⟩
  ·subst a1;refine⟨.nil,by rw[a3];rfl,(λ_ z=>by cases z),rfl,[[]],rfl,by simp,λx hx=>by rw[A6.mp hx];exact⟨hs,0,A7 _,e⟩⟩
  ·rw[a5,a4] at e;obtain⟨v,z,_⟩:=qMB R a2 a3 e
   lia
 |u+1,s,hs,e=>by
  rcases pv s hs with⟨a1,a2,a3⟩|⟨p,m,a1,a2,a3,a4,a5⟩
  ·rw[a3,a1] at e;simp at e
  ·have e2:=e;rw[a5,a4] at e2;obtain⟨v,z1,z2⟩:=qMB R a2 a3 e2;have:v=u:=by lia
   subst this;obtain⟨i1,i2,i3,i4,L,i5,i6,i7⟩:=qS0 wf R pv v p a2 z2;obtain⟨_,mp,_⟩:=R.snd p a2;have ep:qFF g (v+1) s=qFF g v p++[m]:=by show(match g s with|none=>[]|some (p,m)=>qFF g v p++[m])=_;rw[a1]
   rw[ep];have one:=qbL wf mp.1 a3;rw[<- a4] at one;have dd:(qCH [m]).length=if m.1=B6 "do" then 1 else 0:=by
    unfold qCH;rw[M3]
    split<;>rename_i h
    ·split at h
     ·cases h
     ·rename_i hn;rw[if_neg hn];rfl
    ·split at h
     ·rename_i hy;rw[if_pos hy];rfl
     ·cases h
   refine⟨i1.app one,by rw[qXB,A9,i2,dd,a5],λx hx=>?_,by rw[A9,i4];rfl,L++[s],by rw[A9,i5];rfl,qJB i6 λhz=>?_,λx hx=>?_⟩
   ·rcases B8.mp hx with z|z
    ·exact i3 x z
    ·rw[A6.mp z];exact(due_iff.mp a3).1
   ·obtain⟨_,w,w1,w2⟩:=i7 s hz
    lia
   ·rcases B8.mp hx with z|z
    ·obtain⟨j1,w,w1,w2⟩:=i7 x z;exact⟨j1,w,by lia,w2⟩
    ·rw[A6.mp z];exact⟨hs,v+1,A7 _,e⟩
theorem qQ1 (b:WFn Ae)(R:Rch Ae Aa ks f)(d:Prov Ae Aa ks f g){s:List Int}(a:s∈ks):Run Ae Aa [] (pth f g s) s/\(qCH (pth f g s)).length=f s/\MvOk Ae (pth f g s)/\(pth f g s).length+1<=ks.length:=by
 obtain⟨u,_,e⟩:=R.snd s a;have c:2*f s-s.length=u:=by lia
 obtain⟨j,l,i,n,L,o,m,h⟩:=qS0 b R d u s a e;unfold pth;rw[c];refine⟨j,l,i,?_⟩;have:=qcD m R.nd λx k=>(h x k).1
 lia
end
structure EntZ (H:Hp)(Af:List (List Key×V))(ks:Aa0)(f:List Int->Nat)(Φ:(List Int->Prv)->Prop):Prop where
 ex:∃g,EntX H Af ks f g/\Φ g
section
variable{H H':Hp}{Af:List (List Key×V)}{ks:Aa0}{f:List Int->Nat}{Φ Ψ:(List Int->Prv)->Prop}
theorem EntZ.same (h:EntZ H Af ks f Φ)(c:Same H H'):EntZ H' Af ks f Φ:=let⟨g,a,b⟩:=h.ex;⟨g,a.same c,b⟩
theorem EntZ.put {d:Addr} {o u:HO} (h:EntZ H Af ks f Φ)(c:H d=some o)(e:∀xs,o≠.tup xs):EntZ (Ag H d u) Af ks f Φ:=let⟨g,a,b⟩:=h.ex;⟨g,a.put c e,b⟩
theorem EntZ.ent (h:EntZ H Af ks f Φ):Ent H Af ks f:=let⟨_,a,_⟩:=h.ex;a.ent
theorem EntZ.len (h:EntZ H Af ks f Φ):Af.length=ks.length:=h.ent.len
theorem EntZ.val (h:EntZ H Af ks f Φ){s:List Int}(a:s∈ks):∃v,valV Af (keyS s)=some v/\Val3 H v (f s):=h.ent.val a
theorem EntZ.none (h:EntZ H Af ks f Φ){s:List Int}(a:s∉ks):valV Af (keyS s)=none:=h.ent.none a
theorem EntZ.snoc (h:EntZ H Af ks f Φ){s p:List Int}{m:Mv}(e:s∉ks){r c d:Addr}{n:Nat}(l:H r=some (.tup [.int (n:Int),.ref c,.ref d]))(k:H c=some (.tup (p.map V.int)))(j:H d=some (.tup [.str m.1,.int m.2]))(i:∀g,Φ g->Ψ (gset g s (some (p,m)))):
  EntZ H (putK Af (keyS s) (.ref r)) (ks++[s]) (qIE f s n) Ψ:=let⟨g,a,b⟩:=h.ex;⟨_,a.snoc (v:=.ref r) (n:=n) (o:=some (p,m)) e ⟨r,c,d,rfl,l,k,j⟩,i g b⟩
end
noncomputable def renW (ws:List Int)(i:Int):Int:=(ws[i.toNat]?).getD 0
noncomputable def renM (ws:List Int)(ms:List Mv):List Mv:=ms.map λm=>(m.1,renW ws m.2)
section
variable{Ae:Aa0}{Ad ws:List Int}{Aa:Int}
theorem qRS {i:Nat} {x:Int} (h:ws[i]?=some x):renW ws (i:Int)=x:=by
 unfold renW;rw[D0,h]
 rfl
theorem qJE (c:ws.Pairwise (·<·)){i j:Int}(d:0<=i)(h:i<j)(e:j<(ws.length:Int)):renW ws i<renW ws j:=by
 have a:i.toNat<ws.length:=by lia
 have b:j.toNat<ws.length:=by lia
 unfold renW;rw[A4 a,A4 b];exact P5.mp c i.toNat j.toNat a b (by lia)
theorem qRR (a:ws.Pairwise (·<·)){i j:Int}(b:0<=i)(hi:i<(ws.length:Int))(d:0<=j)(f:j<(ws.length:Int))(e:renW ws i=renW ws j):i=j:=by
 rcases Int.lt_trichotomy i j with c|c|c
 ·have:=qJE a b c f;lia
 ·exact c
 ·have:=qJE a d c hi;lia
theorem qZ5 (N:qAJ Ae Ad ws){w y:Int}(b:w∈ws)(a:y∈nd Ae w):y∈ws:=by
 have n:=(N.2 w).mp b;unfold nd at a;cases e:Ae[w.toNat]? with
 |none=>rw[e] at a;cases a
 |some zs=>
  rw[e] at a;exact(N.2 y).mpr (.need n e a)
theorem qYE (N:qAJ Ae Ad ws){s t:List Int}{n:List Mv}(R:Run (qBQ Ae ws) Aa s n t):(∀x∈s,0<=x/\x<(ws.length:Int))->MvOk (qBQ Ae ws) n->Run Ae Aa (s.map (renW ws)) (renM ws n) (t.map (renW ws)):=by
 have up:=N.1.up;have u:=qBP Ae ws
 induction R with
 |nil=>exactλ_ _=>.nil
 |@do_ s s' t w n h1 h2 h3 h4 h5 h6 ih=>
  intro j k;have c:=(k (B6 "do",w) (by simp)).2
  dsimp only at c;rw[u] at c;have g:∀x∈s',0<=x/\x<(ws.length:Int):=λx d=>by
   rcases B8.mp (h4.mem_iff.mp d) with z|z
   ·exact j x z
   ·rw[A6.mp z];exact c
  have wi:w.toNat<ws.length:=by lia
  have v:ws[w.toNat]?=some (renW ws w):=by unfold renW;rw[A4 wi];rfl
  refine .do_ (λhz=>?_) (λy r=>?_) (by rw[A0];exact h3) ?_ ?_ (ih g λm f=>k m (A8 _ f))
  ·obtain⟨x,d,ex⟩:=E1.mp hz;have l:=j x d;rw[qRR up l.1 l.2 c.1 c.2 ex] at d;exact h1 d
  ·have p:=qZ5 N (B0 v) r;obtain⟨i,hi⟩:=D6 p;have o:(i:Int)∈nd (qBQ Ae ws) w:=by
    unfold nd;rw[qFG v];exact(qC7 N.1.nodup).mpr ⟨by lia,y,by rw[D0];exact hi,r⟩
   exact E1.mpr ⟨(i:Int),h2 _ o,qRS hi⟩
  ·have:=h4.map (renW ws);rw[C1] at this;exact this
  ·rw[G6];exact h5.imp_of_mem λ{a b} ha hb q=>qJE up (g a ha).1 q (g b hb).2
 |@clear s t w n h1 h2 ih=>
  intro j k;have c:=(k (B6 "clear",w) (by simp)).2
  dsimp only at c;rw[u] at c;refine .clear (E1.mpr ⟨w,h1,rfl⟩) ?_;have e:(s.map (renW ws)).filter (λx=>decide (x≠renW ws w))=(s.filter λx=>decide (x≠w)).map (renW ws):=by
   rw[B27];congr 1;refine R9 λx d=>?_;have l:=j x d;refine decide_eq_decide.mpr ⟨λh z=>h (by rw[z]),λh z=>h (qRR up l.1 l.2 c.1 c.2 z)⟩
  rw[e];exact ih (λx d=>j x (C7.mp d).1) λm f=>k m (A8 _ f)
noncomputable def qCZ (ws Ad:List Int):List Int:=Ad.filterMap (qGF ws)
theorem qHG (N:qAJ Ae Ad ws)(b:Rise (Ae.length:Int) Ad):Rise ((qBQ Ae ws).length:Int) (qCZ ws Ad):=by
 refine⟨qJ5 N.1.up b.up,λx c=>?_⟩;obtain⟨d,y,a,_⟩:=(qC7 N.1.nodup).mp c;have:=(A5.mp a).1;rw[qBP]
 lia
theorem qJ3 (N:qAJ Ae Ad ws)(e:Rise (Ae.length:Int) Ad):qUJ ws Ad=mskN (qCZ ws Ad):=by
 unfold qUJ;congr 1;refine qHH ((qD0 0 ws.length).filter _) (qJ5 N.1.up e.up) λx=>?_;rw[C7,show x∈qCZ ws Ad↔_ from qC7 N.1.nodup,mem_rangeI,decide_eq_true_eq]
 constructor
 ·rintro⟨⟨b,f⟩,a⟩;have d:x.toNat<ws.length:=by lia
  rw[A4 d] at a ⊢;exact⟨b,_,rfl,a⟩
 ·rintro⟨b,y,c,a⟩;have d:=(A5.mp c).1;rw[c];exact⟨⟨b,by lia⟩,a⟩
theorem qcF (N:qAJ Ae Ad ws)(a:Rise (Ae.length:Int) Ad){k:Nat}(h:LB (qBQ Ae ws) Aa (qCZ ws Ad) (some k)):qGD Ae ws Ad Aa:=by
 obtain⟨⟨b,R,e⟩,_⟩:=h;exact⟨k,b,R,by rw[qJ3 N a];exact e⟩
theorem qaS (N:qAJ Ae Ad ws)(a:Rise (Ae.length:Int) Ad)(h:LB (qBQ Ae ws) Aa (qCZ ws Ad) none):¬qGD Ae ws Ad Aa:=by
 rintro⟨m,b,R,e⟩;rw[qJ3 N a] at e;exact h m b R e
end
def qME:Sp:=λvs H Q _=>∃(t u:Addr) (ws Ad:List Int),vs=[.ref t,.ref u]/\BareT H t (ws.map V.int)/\H u=some (.tup (Ad.map V.int))/\ws.Nodup/\Ad.length<=63/\ws.length<=63/\(∀x∈Ad,x∈ws)/\
 ∀r H',Same H H'->H' r=some (.tup ((qCZ ws Ad).map V.int))->Q (.ref r) H'
def qMD:Sp:=λvs H Q _=>∃(a t:Addr) (Ae:Aa0) (ws:List Int),vs=[.ref a,.ref t]/\NetAt H a Ae/\WFn Ae/\Ae.length<=63/\Rd H t (.tup (ws.map V.int))/\Rise (Ae.length:Int) ws/\
 ∀b H',Same H H'->NetAt H' b (qBQ Ae ws)->Q (.ref b) H'
theorem sqo {b:Bool} {K:Ab1} {H:Hp} {a:Addr} {xs:List V} (h:Rd H a (seqO b xs)):SqO b K H a xs:=by
 cases b with
 |true=>exact .inl h
 |false=>exact .inl h
theorem Rd.same {H H':Hp} {a:Addr} {o:HO} (h:Rd H a o)(s:Same H H'):Rd H' a o:=h.elim (λe=>.inl (s _ _ e)) λ⟨q,e⟩=>.inr ⟨q,s _ _ e⟩
structure Nev (Ae:Aa0)(Aa:Int)(want:List Int)(ss:Aa0):Prop where
 rise:∀s∈ss,Rise (Ae.length:Int) s
 few:∀s∈ss,(s.length:Int)<=Aa
 nil:[]∈ss
 shut:∀s∈ss,∀m∈qCG Ae s Aa,behL s m∈ss
 no:∀s∈ss,¬ ∀x∈want,x∈s
structure NevP (Ae:Aa0)(Aa:Int)(ss:Aa0):Prop where
 nd:ss.Nodup
 mem:∀s,s∈ss↔∃u,Pt Ae Aa u s
 so:ss.Pairwise λa b=>HT.lexLt b a=false
def qUT:Sp:=λvs H Q _=>∃(b:Bool) (a t:Addr) (st Ad:List Int),vs=[.ref a,.ref t]/\H a=some (.tup (st.map V.int))/\Rd H t (seqO b (Ad.map V.int))/\Ad.length<=63/\∀H',Same H H'->Q (.bl (decide (∀x∈Ad,x∈st))) H'
structure PapN (H:Hp)(T tw l:Addr)(ws:List Int)(rs:List Addr)(ss:Aa0):Prop where
 tup:H T=some (.tup [.ref tw,.ref l])
 works:BareT H tw (ws.map V.int)
 lst:H l=some (.lst (rs.map V.ref))
 at_:StL H rs ss
open PySem PySem.Spec L2
theorem WFn.put {Ae:Aa0} {zs:List Int} {k:Nat} (h:WFn Ae)(l:k<Ae.length)(g:Rise (k:Int) zs):WFn (Ae.take k++[zs]++Ae.drop (k+1)):=by
 intro i a e;have b:(Ae.take k).length=k:=by rw[C8];lia
 rw[F7,List.getElem?_append] at e
 split at e
 ·rw[List.getElem?_take] at e
  split at e
  ·exact h i a e
  ·cases e
 ·rename_i c
  rw[b] at e c;by_cases f:i=k
  ·subst f;rw[B03] at e;cases e;exact g
  ·obtain⟨j,d⟩:∃j,i-k=j+1:=⟨i-k-1,by lia⟩
   rw[d,List.singleton_append,c9,A90] at e;exact h i a (by rw[<- e];congr 1;lia)
theorem qcW (xs:List V)(k:Nat):cutV xs none (some (k:Int))=xs.take k:=by
 unfold cutV;rw[HT.sIx_nat,HT.sIx_none,A63,A42];rcases B05 k xs.length with h|h
 ·rw[p5 h]
 ·rw[A19 h,E3 h,E3 (A7 _)]
theorem qP1 (xs:List V)(k:Nat):cutV xs (some (k:Int)) none=xs.drop k:=by
 unfold cutV;rw[HT.sIx_nat,HT.sIx_none];rcases B05 k xs.length with h|h
 ·rw[p5 h,E3 (by rw[R1];exact A7 _)]
 ·rw[A19 h,B03,R5 h];rfl
theorem qJH (m j:Nat):(2^m-1).testBit j=decide (j<m):=Nat.testBit_two_pow_sub_one m j
theorem qb8 {Ae:Aa0} (wf:WFn Ae):∀m,m<=Ae.length->Rm Ae (Ae.length:Int) m (2^m-1)
 |0,_=>.zero
 |m+1,h=>by
  have ih:=qb8 wf m (by lia)
  have hz:=A4 (show m<Ae.length by lia)
  have rz:=wf m _ hz;have e:2^(m+1)-1=(2^m-1) ||| 2^m:=Q9 λj=>by
   rw[A64,qJH,qJH,Z4];by_cases c:j<m
   ·rw[decide_eq_true c,decide_eq_true (by lia:j<m+1),Bool.true_or]
   ·by_cases d:m=j
    ·rw[decide_eq_true d,decide_eq_true (by lia:j<m+1),B04]
    ·rw[decide_eq_false c,decide_eq_false d,decide_eq_false (by lia:¬j<m+1)];rfl
  rw[e];refine .do_ ih ⟨?_,by lia,?_⟩
  ·have lt:cntN Ae.length (2^m-1)<=m:=by
    unfold cntN;rw[L3 (g:=λk=>if(decide (k<m))=true then 1 else 0) λk _=>by rw[qR3,qJH],qJ7]
    have nd:((F5 Ae.length).filter λk=>decide (k<m)).Nodup:=l7.filter _;exact qKP nd λb hb=>of_decide_eq_true (C7.mp hb).2
   lia
  ·unfold nxt;rw[hz];refine Q9 λj=>?_;rw[d0,qJH];show(decide (j<m)&&(mskN Ae[m]).testBit j)=(mskN Ae[m]).testBit j;rw[qMV rz.up (λx hx=>(rz.in_ x hx).1)];by_cases c:(j:Int)∈Ae[m]
   ·have:=(rz.in_ _ c).2;rw[decide_eq_true (by lia:j<m),m7]
   ·rw[decide_eq_false c,X5]
theorem qOS {Ae:Aa0} {ws Ad:List Int} (b:WFn Ae)(N:qAJ Ae Ad ws):qGD Ae ws Ad (ws.length:Int):=by
 have a:WFn (qBQ Ae ws):=qDN b N.1;have R:=qb8 a _ (A7 _);rw[qBP] at R;refine⟨_,_,R,Q9 λj=>?_⟩;rw[d0,qJH];unfold qUJ;rw[qMV ((qD0 _ _).filter _) (λx d=>(mem_rangeI.mp (C7.mp d).1).1)];by_cases c:(j:Int)∈(qB8 0 ws.length).filter λp=>decide ((ws[p.toNat]?).getD 0∈Ad)
 ·have:=mem_rangeI.mp (C7.mp c).1;rw[decide_eq_true (by lia:j<ws.length),m7]
 ·rw[decide_eq_false c,X5]
def PrvH (Ae:Aa0)(Aa:Int)(ks:Aa0)(f:List Int->Nat)(g:List Int->Prv):Prop:=Prov Ae Aa ks f g/\∃l,ks=[]::l
theorem PrvH.start {Ae:Aa0} {Aa:Int} :PrvH Ae Aa [[]] (λ_=>0) (λ_=>none):=⟨λs a=>.inl ⟨A6.mp a,rfl,rfl⟩,[],rfl⟩
theorem PrvH.snoc {Ae:Aa0} {Aa:Int} {ks:Aa0} {f:List Int->Nat} {g:List Int->Prv} {s:List Int} {m:Mv} {z:Nat} (b:s∈ks) (o:m∈qCG Ae s Aa) (c:behL s m∉ks) (i:z=if m.1=B6 "do" then 1 else 0) (h:PrvH Ae Aa ks f g):PrvH Ae Aa (ks++[behL s m]) (qIE f (behL s m) (f s+z)) (gset g (behL s m) (some (s,m))):=by
 obtain⟨h,l,q⟩:=h;refine⟨λx n=>?_,l++[behL s m],by rw[q];rfl⟩
 have d:∀y∈ks,gset g (behL s m) (some (s,m)) y=g y:=λy j=>if_neg λe=>c (by rw[<- e];exact j)
 rcases B8.mp n with k|k
 ·rw[qIS k c,d x k];rcases h x k with a|⟨p,mm,a1,a2,a3,a4,a5⟩
  ·exact .inl a
  ·exact .inr ⟨p,mm,a1,B8.mpr (.inl a2),a3,a4,by rw[qIS a2 c];exact a5⟩
 ·rw[A6.mp k];refine .inr ⟨s,m,if_pos rfl,B8.mpr (.inl b),o,rfl,?_⟩;rw[qLY,qIS b c,i]
def qMC:Sp:=λvs H Q _=>∃(a:Addr) (Ae:Aa0) (Aa:Int),vs=[.ref a,.int Aa]/\NetAt H a Ae/\WFn Ae/\Ae.length<=12/\
 ∀d o Af ks f g H',Same H H'->H d=none->H' d=some (.frz o (.dT Af))->EntX H' Af ks f g->Rch Ae Aa ks f->PrvH Ae Aa ks f g->Q (.ref d) H'
def qUR:Sp:=λvs H Q _=>∃(d t:Addr) (o:Obj) (Af:List (List Key×V)) (Ae:Aa0) (Aa:Int) (ks:Aa0) (f:List Int->Nat) (g:List Int->Prv) (s:List Int),vs=[.ref d,.ref t]/\H d=some (.frz o (.dT Af))/\EntX H Af ks f g/\WFn Ae/\Rch Ae Aa ks f/\PrvH Ae Aa ks f g/\ks.length<=4096/\H t=some (.tup (s.map V.int))/\s∈ks/\
 ∀l H',Same H H'->H l=none->PlanAt H' l (pth f g s)->Q (.ref l) H'
def FewP (Ae:Aa0)(Ad:List Int)(r:Int)(ms:List Mv):Prop:=∃ws ks f g s,qAJ Ae Ad ws/\qPI Ae ws Ad r/\Rch (qBQ Ae ws) r ks f/\Prov (qBQ Ae ws) r ks f g/\(s∈ks/\∀x∈qCZ ws Ad,x∈s)/\ms=renM ws (pth f g s)
def qaF (Pt:Addr):Sp:=λvs H Q _=>∃(a t:Addr) (Ae:Aa0) (Ad:List Int),vs=[.ref a,.ref t]/\TabB H Pt/\NetAt H a Ae/\WFn Ae/\Ae.length<=12/\qD8 H t Ae Ad/\1<=Ad.length/\
 ∀T l r ms H',Same H H'->FewP Ae Ad r ms->H l=none->PlanAt H' l ms->H' T=some (.tup [.int r,.ref l])->Q (.ref T) H'
theorem FewP.lr {Ae:Aa0} {Ad ws:List Int} {r:Int} {c:List Mv} (h:FewP Ae Ad r c)(N:qAJ Ae Ad ws):qPI Ae ws Ad r:=by
 obtain⟨a,e,f,g,s,d,b,_⟩:=h;rw[qHR N d];exact b
theorem FewP.run {Ae:Aa0} {Ad:List Int} (wf:WFn Ae)(ra:Rise (Ae.length:Int) Ad)(u:Ae.length<=12){r:Int}{c:List Mv}(h:FewP Ae Ad r c):∃last,Run Ae r [] c last/\(∀x∈Ad,x∈last)/\MvOk Ae c/\c.length<=4096:=by
 obtain⟨a,ks,f,g,s,N,a2,l,y,B,e⟩:=h;have q:=qDN wf N.1;have t:=qBP Ae a;have lw:=N.1.len;obtain⟨R,_,p,ln⟩:=qQ1 q l y B.1;have lk:=l.len;have pw:2^(qBQ Ae a).length<=2^12:=Q8 (by decide) (by lia)
 refine⟨s.map (renW a),?_,λx o=>?_,λm n=>?_,?_⟩
 ·rw[e];exact qYE N R (λ_ z=>nomatch z) p
 ·have k:x∈a:=(N.2 x).mpr (.ask o);obtain⟨i,b⟩:=D6 k;exact E1.mpr ⟨(i:Int),B.2 _ (G8.mpr ⟨x,o,qE6 N.1.nodup b⟩),qRS b⟩
 ·rw[e] at n;obtain⟨j,d,em⟩:=E1.mp n;obtain⟨v,h2,w⟩:=p j d;rw[t] at w;have b:j.2.toNat<a.length:=by lia
  have k:renW a j.2∈a:=by unfold renW;rw[A4 b];exact Z2 b
  rw[<- em];exact⟨v,N.1.in_ _ k⟩
 ·rw[e];unfold renM;rw[A0]
  lia
section
variable{Ae:Aa0}{Ad ws:List Int}{Aa:Int}
theorem qD7 {st:List Int} {m:Mv} (a:m.1 = "do"\/m.1 = "clear") (x:Int):x∈behL st m↔(m.1 = "do"/\(x∈st\/x=m.2))\/(m.1 = "clear"/\x∈st/\x≠m.2):=by
 unfold behL;rcases a with e|e
 ·rw[if_pos (by rw[e]),mem_insL]
  exact⟨λh=>.inl ⟨e,h⟩,λh=>h.elim (·.2) λh=>absurd (e.symm.trans h.1) (by decide)⟩
 ·rw[if_neg (by rw[e];decide),C7,decide_eq_true_eq]
  exact⟨λh=>.inr ⟨e,h⟩,λh=>h.elim (λh=>absurd (e.symm.trans h.1) (by decide)) (·.2)⟩
theorem prj (w:Rise (Ae.length:Int) ws){t:Nat}{s:List Int}(h:Pt Ae Aa t s):∃u,Pt (qBQ Ae ws) Aa u (qCZ ws s):=by
 have up:=w.up;have f:=w.nodup
 induction h with
 |zero=>exact⟨0,.zero⟩
 |@step t st m p hm ih=>
  obtain⟨u,P⟩:=ih;have rb:=(Pt.step p hm).rise;obtain⟨⟨k,h0,h1⟩,v,hc⟩:=due_iff.mp hm;by_cases c:m.2∈ws
  ·obtain⟨i,n⟩:=D6 c;have li:=(A5.mp n).1;have q:∀{z:List Int},(i:Int)∈qCZ ws z↔m.2∈z:=λ{z}=>(qC7 f).trans ⟨λ⟨_,y,e,g⟩=>by rw[D0,n] at e;cases e;exact g,λh=>⟨by lia,m.2,by rw[D0];exact n,h⟩⟩
   have o:(m.1,(i:Int))∈qCG (qBQ Ae ws) (qCZ ws st) Aa:=due_iff.mpr ⟨⟨k,by show(0:Int)<=(i:Int);lia,by rw[qBP];show(i:Int)<_;lia⟩,λe=>⟨λz=>(v e).1 (q.mp z),λy g=>?_,?_⟩,λe=>q.mpr (hc e)⟩
   ·have r:qCZ ws (behL st m)=behL (qCZ ws st) (m.1,(i:Int)):=qHH (qJ5 up rb.up) (Pt.step P o).rise.up λx=>by
     rw[qD7 (m:=(m.1,(i:Int))) k,show x∈qCZ ws (behL st m)↔_ from qC7 f,show x∈qCZ ws st↔_ from qC7 f]
     constructor
     ·rintro⟨j,y,e,g⟩;rcases(qD7 k y).mp g with⟨a,b|b⟩|⟨a,b,d⟩
      ·exact .inl ⟨a,.inl ⟨j,y,e,b⟩⟩
      ·refine .inl ⟨a,.inr ?_⟩;subst b;have:=qE6 f n;rw[qE6 f e] at this;show x=(i:Int);have:=D1 this
       lia
      ·refine .inr ⟨a,⟨j,y,e,b⟩,λz=>d ?_⟩;have z:x=(i:Int):=z;rw[z,D0,n] at e;exact(D1 e).symm
     ·rintro(⟨a,⟨j,y,e,g⟩|b⟩|⟨a,⟨j,y,e,g⟩,d⟩)
      ·exact⟨j,y,e,(qD7 k y).mpr (.inl ⟨a,.inl g⟩)⟩
      ·have b:x=(i:Int):=b;exact⟨by lia,m.2,by rw[b,D0];exact n,(qD7 k _).mpr (.inl ⟨a,.inr rfl⟩)⟩
      ·refine⟨j,y,e,(qD7 k y).mpr (.inr ⟨a,g,λz=>d ?_⟩)⟩;subst z;have:=qE6 f n;rw[qE6 f e] at this;show x=(i:Int);have:=D1 this
       lia
    exact⟨u+1,by rw[r];exact .step P o⟩
   ·unfold nd at g;rw[D0,qFG n,l5] at g;obtain⟨y0,z,ez,hz⟩:=(qC7 f).mp g;exact(qC7 f).mpr ⟨y0,z,ez,(v e).2.1 z hz⟩
   ·have:=(v e).2.2;have l:(qCZ ws st).length<=st.length:=a9 _ _
    lia
  ·have r:qCZ ws (behL st m)=qCZ ws st:=qHH (qJ5 up rb.up) (qJ5 up p.rise.up) λx=>by
    rw[show x∈qCZ ws (behL st m)↔_ from qC7 f,show x∈qCZ ws st↔_ from qC7 f];have ne:∀{y:Int},ws[x.toNat]?=some y->y≠m.2:=λe z=>c (by rw[<- z];exact B0 e)
    constructor
    ·rintro⟨j,y,e,g⟩;rcases(qD7 k y).mp g with⟨a,b|b⟩|⟨a,b,d⟩
     ·exact⟨j,y,e,b⟩
     ·exact absurd b (ne e)
     ·exact⟨j,y,e,b⟩
    ·rintro⟨j,y,e,g⟩;refine⟨j,y,e,(qD7 k y).mpr ?_⟩;rcases k with a|a
     ·exact .inl ⟨a,.inl g⟩
     ·exact .inr ⟨a,g,ne e⟩
   exact⟨u,by rw[r];exact P⟩
end
structure NevW (Ae:Aa0)(Aa:Int)(ss:Aa0):Prop where
 rise:∀s∈ss,Rise (Ae.length:Int) s
 few:∀s∈ss,(s.length:Int)<=Aa
 nil:[]∈ss
 shut:∀s∈ss,∀m∈qCG Ae s Aa,behL s m∈ss
section
variable{Ae:Aa0}{Ad ws:List Int}{Aa:Int}{ss:Aa0}
theorem qUI:Rise (ws.length:Int) ((qB8 0 ws.length).filter λp=>decide ((ws[p.toNat]?).getD 0∈Ad)):=⟨(qD0 _ _).filter _,λx a=>mem_rangeI.mp (C7.mp a).1⟩
end
def Once (Ae:Aa0)(n:Nat):Prop:=∀(i j:Nat) (zi zj:List Int) (x:Int),i<n->j<n->Ae[i]?=some zi->Ae[j]?=some zj->x∈zi->x∈zj->i=j
def Opens (Ae:Aa0)(os:List Int):Prop:=Once Ae Ae.length/\∀x∈os,∀(i:Nat) (zi:List Int),Ae[i]?=some zi->x∉zi
theorem Opens.nil:Opens [] []:=⟨(λi j _ _ _ h=>absurd h (p7 _)),(λx h=>nomatch h)⟩
theorem qH2 {α:Type} {l:List α} {z y:α} {i:Nat} (h:(l++[z])[i]?=some y):(i<l.length/\l[i]?=some y)\/(i=l.length/\y=z):=by
 by_cases c:i<l.length
 ·rw[G4 c] at h;exact .inl ⟨c,h⟩
 ·rw[O2 (by lia)] at h
  have a:=(A5.mp h).1;rw[B9] at a;have e:i-l.length=0:=by lia
  rw[e] at h;exact .inr ⟨by lia,(D1 h).symm⟩
theorem Opens.step {Ae:Aa0} {b:List Int} {kk:Nat} (h:Opens Ae b)(t:WFn Ae)(r:Rise (Ae.length:Int) b):Opens (Ae++[b.drop kk]) (b.take kk++[(Ae.length:Int)]):=by
 have f:∀x∈b.drop kk,∀(i:Nat) (zi:List Int),Ae[i]?=some zi->x∉zi:=λx l=>h.2 x (T8 l)
 constructor
 ·intro i j zi q x _ _ s p n o;rcases qH2 s with⟨c,a⟩|⟨c,a⟩
  ·rcases qH2 p with⟨g,d⟩|⟨g,d⟩
   ·exact h.1 i j zi q x c g a d n o
   ·subst d;exact absurd n (f x o i zi a)
  ·rcases qH2 p with⟨g,d⟩|⟨g,d⟩
   ·subst a;exact absurd o (f x n j q d)
   ·lia
 ·intro x l i zi e k;rcases B8.mp l with m|m
  ·rcases qH2 e with⟨c,a⟩|⟨c,a⟩
   ·exact h.2 x (Q7 m) i zi a k
   ·subst a;have up:=r.up;rw[<- j8 kk b] at up;have:=(Y7.mp up).2.2 x m x k
    lia
  ·have u:=A6.mp m;subst u;rcases qH2 e with⟨c,a⟩|⟨c,a⟩
   ·have:=((t i zi a).in_ _ k).2
    lia
   ·subst a;have:=(r.in_ _ (T8 k)).2
    lia
theorem qM1 {Ae:Aa0} {x v:Int} :∀{l:List Int},l.Nodup->v∈l->(∀u∈l,x∈nd Ae u->u=v)->x∈nd Ae v->(nd Ae v).Nodup->(nds Ae l).count x=1
 |[],_,h,_,_,_=>by cases h
 |u::l,n,h,only,hx,nv=>by
  have n2:=J7.mp n;have e:nds Ae (u::l)=nd Ae u++nds Ae l:=by simp[nds]
  rw[e,A98];by_cases c:u=v
  ·subst c;have c1:(nd Ae u).count x=1:=by
    have a:=List.nodup_iff_count.mp nv x;have b:=List.count_pos_iff.mpr hx
    lia
   have c2:(nds Ae l).count x=0:=w5.mpr λm=>by
    obtain⟨ys,hy,hm⟩:=A20.mp m;obtain⟨w,hw,ew⟩:=E1.mp hy;rw[<- ew] at hm;exact n2.1 (only w (A8 _ hw) hm▸hw)
   lia
  ·have c1:(nd Ae u).count x=0:=w5.mpr λm=>c (only u B7 m);have:=qM1 n2.2 ((B1.mp h).resolve_left λz=>c z.symm) (λw hw=>only w (A8 _ hw)) hx nv
   lia
theorem qVR {Ae:Aa0} {n:Nat} {c:Int} {zs:List Int} (j:WFn Ae)(o:Once Ae n)(z:n<=Ae.length)(y:c<(n:Int))(N:qAJ Ae [c] zs):qUN Ae c zs=true:=by
 unfold qUN;rw[R3];intro x w;rw[decide_eq_true_eq];intro s;obtain⟨i,r⟩:=D6 w;rcases qaA N j r with q|⟨v,hv,hxv⟩
 ·exact absurd (A6.mp q) s
 ·have d:v∈zs:=T8 hv;have h:∀u∈zs,0<=u/\u<(n:Int):=λu f=>by
   have a:=N.1.in_ u f;have b:=qTE j ((N.2 u).mp f)
   lia
  have e:∀u∈zs,Ae[u.toNat]?=some (nd Ae u):=λu f=>by
   have:=h u f;have t:u.toNat<Ae.length:=by lia
   have g:=A4 t;rw[g,qAS g]
  have p:(nd Ae v).Nodup:=(j _ _ (e v d)).nodup;unfold cI;rw[qM1 N.1.nodup d (λu f m=>?_) hxv p]
  ·rfl
  ·have a:=h u f;have b:=h v d;have:=o u.toNat v.toNat _ _ x (by lia) (by lia) (e u f) (e v d) m hxv
   lia
noncomputable def qDB (l:List Int)(k:Nat):List Int:=(F5 k).map λi:Nat=>(l[i]?).getD 0+(i:Int)
theorem qPQ {l:List Int} {k:Nat} {x:Int} (h:l[k]?=some x):qDB l (k+1)=qDB l k++[x+(k:Int)]:=by
 unfold qDB;rw[B26,C1];simp[h]
theorem qLJ (l:List Int)(k:Nat):(qDB l k).length=k:=by unfold qDB;rw[A0,A06]
noncomputable def qKZ (l:List Int):Int:=topI ((l.length:Int)+1) (qDB l l.length)
def Num1 (Ae:Aa0)(f:Int->Int)(z:Int):Prop:=∃ds:List Int,ds.Perm ((nd Ae z).map f)/\ds.Pairwise (· >= ·)/\f z=qKZ ds
def NumOn (Ae:Aa0)(zs:List Int)(f:Int->Int):Prop:=∀z∈zs,Num1 Ae f z
theorem qQT {a b:List Int} (p:a.Perm b)(c:a.Pairwise (· >= ·))(d:b.Pairwise (· >= ·)):a=b:=by
 have e:=qLL (show a.reverse.Perm b.reverse from(i9 a).trans (p.trans (i9 b).symm)) (k6.mpr c) (k6.mpr d);have:=congrArg List.reverse e;rw[A56,A56] at this;exact this
theorem NumOn.snoc {Ae:Aa0} {zs:List Int} {o z:Int} {i:Nat} {f:Int->Int} {g:List Int} (wf:WFn Ae)(N:qAJ Ae [o] zs)(hi:zs[i]?=some z)(h:NumOn Ae (zs.take i) f)(p:g.Perm ((nd Ae z).map f))(s:g.Pairwise (· >= ·)):NumOn Ae (zs.take (i+1)) (λy=>if y=z then qKZ g else f y)/\(zs.take (i+1)).map (λy=>(if y=z then qKZ g else f y))=(zs.take i).map f++[qKZ g]:=by
 have t:∀y∈zs.take i,y≠z:=λy b=>by have:=qHI N hi b;lia
 have ns:∀w∈zs.take (i+1),∀y∈nd Ae w,y≠z:=λw q y b=>by
  obtain⟨j,k⟩:=D6 q;have r:j<i+1:=by have:=(A5.mp k).1;rw[C8] at this;lia
  rw[J8 r] at k;have a:=qEL wf N k b;by_cases c:j=i
  ·subst c;rw[hi] at k;cases k;lia
  ·have:w∈zs.take i:=B0 (i:=j) (by rw[J8 (by lia)];exact k)
   have:=qHI N hi this
   lia
 have u:zs.take (i+1)=zs.take i++[z]:=by rw[D3,hi];rfl
 constructor
 ·intro w q;have v:(nd Ae w).map (λy=>if y=z then qKZ g else f y)=(nd Ae w).map f:=L3 λy b=>if_neg (ns w q y b)
  unfold Num1;rw[v];have n:=q;rw[u] at n;rcases B8.mp n with m|m
  ·obtain⟨d,a1,a2,x⟩:=h w m;exact⟨d,a1,a2,(if_neg (t w m)).trans x⟩
  ·have e:=A6.mp m;subst e;exact⟨g,p,s,if_pos rfl⟩
 ·rw[u,C1];congr 1
  ·exact L3 λy b=>if_neg (t y b)
  ·simp
noncomputable def qDK (l:List Int)(f:Int->Int):List (Key×V):=l.map λz=>(F4 z,V.int (f z))
theorem qIF {f:Int->Int} {y:Int} :∀{l:List Int},y∈l->valV (qDK l f) (F4 y)=some (.int (f y))
 |[],h=>by cases h
 |x::l,h=>by
  by_cases e:x=y
  ·subst e;exact qB7 rfl
  ·exact(qB1 (λz=>e (W6 z))).trans (qIF ((B1.mp h).resolve_left λz=>e z.symm))
theorem qNQ {f:Int->Int} {y:Int} :∀{l:List Int},y∉l->valV (qDK l f) (F4 y)=none
 |[],_=>rfl
 |x::l,h=>(qB1 (λz=>h (by rw[<- W6 z];exact B7))).trans (qNQ λz=>h (A8 _ z))
theorem qRV {l:List Int} {f:Int->Int} {z v:Int} (h:z∉l):putK (qDK l f) (F4 z) (.int v)=qDK (l++[z]) (λy=>if y=z then v else f y):=by
 rw[qMN _ (qNQ h)];unfold qDK;rw[C1];congr 1
 ·exact L3 λy a=>by
   show _=(F4 y,V.int (if y=z then v else f y))
   rw[if_neg λ(e:y=z)=>h (e▸a)]
 ·simp
theorem qHJ {f:Int->Int} :∀{zs l:List Int},(l++zs).Nodup->qDS (qDK l f) (zs.map λz=>(z,V.int (f z)))=qDK (l++zs) f
 |[],l,_=>by rw[M4];rfl
 |z::zs,l,n=>by
  have hz:z∉l:=λm=>(W3.mp n).2.2 z m z B7 rfl;have e:(λy=>if y=z then f z else f y)=f:=funext λy=>by
   by_cases c:y=z
   ·rw[if_pos c,c]
   ·rw[if_neg c]
  show qDS (putK (qDK l f) (F4 z) (.int (f z))) (zs.map λz=>(z,V.int (f z)))=_;rw[qRV hz,e,qHJ (by rw[F7];exact n),F7]
  rfl
theorem qJN {α β γ:Type} {F:α->γ->Prop} {h:β->γ} :∀{zs:List β} {l:List α},Paired F l (zs.map h)->Paired (λr z=>F r (h z)) l zs
 |[],l,p=>by cases p;exact .nil
 |z::zs,l,p=>by
  cases p with
  |cons a b=>exact .cons a (qJN b)
theorem qI4 {α β γ:Type} {F:α->γ->Prop} {h:β->γ} {zs:List β} {l:List α} (p:Paired (λr z=>F r (h z)) l zs):Paired F l (zs.map h):=by
 induction p with
 |nil=>exact .nil
 |cons a b ih=>exact .cons a ih
theorem qBM {Ae:Aa0} {a:Int} {zs:List Int} (N:qAJ Ae [a] zs):a∈zs:=(N.2 a).mpr (.ask (A6.mpr rfl))
def TreeIn (H:Hp)(a:Addr)(Ae:Aa0)(work:Int):Prop:=NetAt H a Ae/\WFn Ae/\Ae.length<=63/\0<=work/\∃n:Nat,Once Ae n/\n<=Ae.length/\work<(n:Int)
theorem TreeIn.same {H H':Hp} {a:Addr} {Ae:Aa0} {b:Int} (h:TreeIn H a Ae b)(s:Same H H'):TreeIn H' a Ae b:=⟨h.1.same s,h.2⟩
def qaE:Sp:=λvs H Q _=>∃(p:Addr) (ds:List Int),vs=[.ref p]/\H p=some (.lst (ds.map V.int))/\ds.length<=63/\∀H',Same H H'->Q (.int (qKZ ds)) H'
def qRM:Sp:=λvs H Q _=>∃(a:Addr) (Ae:Aa0) (work:Int),vs=[.ref a,.int work]/\TreeIn H a Ae work/\∀H',Same H H'->Q .non H'
def qJA:Sp:=λvs H Q _=>∃(a:Addr) (Ae:Aa0) (work:Int),vs=[.ref a,.int work]/\TreeIn H a Ae work/\
 ∀l rs zs f H',Same H H'->H l=none->qAJ Ae [work] zs->NumOn Ae zs f->H' l=some (.lst (rs.map V.ref))->Paired (λr z=>H' r=some (.tup [.int z,.int (f z)])) rs zs->Q (.ref l) H'
def qJ8:Sp:=λvs H Q _=>∃(a:Addr) (Ae:Aa0) (work:Int),vs=[.ref a,.int work]/\TreeIn H a Ae work/\∀zs f H',Same H H'->qAJ Ae [work] zs->NumOn Ae zs f->Q (.int (f work)) H'
def qPR:Sp:=λvs H Q _=>∃d c t ns m,vs=[.ref d,.int m]/\StAt H d c t ns/\t<=TB-1000/\1<=m/\m<=63/\
 ∀a Ae t' ns' H',StAt H' d c t' ns'->t<=t'->t'<=t+m->Keep d c H H'->NetAt H' a Ae->WFn Ae->(Ae.length:Int)=m->Once Ae Ae.length->Q (.ref a) H'
def OrdR (f:Int->Int)(a b:Int):Prop:=f b<f a\/(f a=f b/\a<b)
def clrM (ys:List Int):List Mv:=ys.map λy=>(("clear",y):Mv)
noncomputable def qGG (Ae:Aa0) (P:Int->List Mv) (z:Int) (os:List Int):List Mv:=(os.map P).flatten++(("do",z):Mv)::clrM (nd Ae z)
def Pl1 (Ae:Aa0)(f:Int->Int)(P:Int->List Mv)(z:Int):Prop:=∃os:List Int,os.Perm (nd Ae z)/\os.Pairwise (OrdR f)/\P z=qGG Ae P z os
def PlOn (Ae:Aa0)(zs:List Int)(f:Int->Int)(P:Int->List Mv):Prop:=∀z∈zs,Pl1 Ae f P z
theorem qVJ {f:Int->Int} :∀{a b:List Int},a.Perm b->a.Pairwise (OrdR f)->b.Pairwise (OrdR f)->a=b
 |[],b,p,_,_=>(List.nil_perm.mp p).symm
 |x::a,b,p,h1,h2=>by
  cases b with
  |nil=>exact absurd p.length_eq (by simp)
  |cons y b=>
   rw[O6] at h1 h2;have e:x=y:=by
    rcases B1.mp (p.mem_iff.mp B7) with e|m
    ·exact e
    ·rcases B1.mp (p.mem_iff.mpr B7) with e|m2
     ·exact e.symm
     ·have r1:=h2.1 x m;have r2:=h1.1 y m2;unfold OrdR at r1 r2
      lia
   subst e;rw[qVJ (List.Perm.cons_inv p) h1.2 h2.2]
def mx (a b:Int):Int:=if b>a then b else a
inductive TRun (Ae:Aa0):List Int->Int->List Mv->List Int->Int->Prop
 |nil {S:List Int} {m:Int}:TRun Ae S m [] S m
 |do_ {S:List Int} {m:Int} {x:Int} {r:List Mv} {t:List Int} {n:Int}:x∉S->(∀y∈nd Ae x,y∈S)->TRun Ae (S++[x]) (mx m ((S.length:Int)+1)) r t n->TRun Ae S m ((("do",x):Mv)::r) t n
 |clr {S:List Int} {m:Int} {x:Int} {r:List Mv} {t:List Int} {n:Int}:x∈S->TRun Ae (S.erase x) m r t n->TRun Ae S m ((("clear",x):Mv)::r) t n
noncomputable def tk:Nat->List Int->List Int
 |_,[]=>[]
 |j,x::l=>(x+(j:Int))::tk (j+1) l
theorem qaD:∀(l:List Int) (j i:Nat),(tk j l)[i]?=(l[i]?).map λx=>x+((i+j:Nat):Int)
 |[],j,i=>by simp[tk]
 |x::l,j,0=>by simp[tk]
 |x::l,j,i+1=>by
  show(tk (j+1) l)[i]?=_;rw[qaD l (j+1) i,c9,show i+(j+1)=i+1+j by lia]
theorem qYC (l:List Int):qDB l l.length=tk 0 l:=by
 apply A04;intro i;rw[qaD];unfold qDB;rw[C5];by_cases h:i<l.length
 ·rw[A76 h,A4 h];simp[A4 h]
 ·rw[K0 (by rw[A06];lia),K0 (by lia)]
  rfl
theorem qc7 {l:List Int} :∀{m x:Int},mx (l.foldl mx m) x=l.foldl mx (mx m x):=by
 induction l with
 |nil=>intro m x;rfl
 |cons y l ih=>
  intro m x;rw[Q4,Q4,ih];congr 1;unfold mx
  repeat' split
  all_goals lia
theorem qZA {s:Int} {l:List Int} :∀{m b:Int},(l.map (s+·)).foldl mx (mx m (s+b))=mx m (s+l.foldl mx b):=by
 induction l with
 |nil=>intro m b;rfl
 |cons y l ih=>
  intro m b;rw[C9,Q4,Q4,<- ih];congr 1;unfold mx
  repeat' split
  all_goals lia
theorem qbC (b:Int)(l:List Int):topI b l=l.foldl mx b:=rfl
theorem qQD {Ae:Aa0} {z y x:Int} (a:y∈nd Ae z)(h:Nd Ae [y] x)(b:∃zs,Ae[z.toNat]?=some zs):Nd Ae [z] x:=by
 induction h with
 |ask m=>
  obtain⟨zs,e⟩:=b;rw[A6.mp m];exact .need (.ask (A6.mpr rfl)) e (by rw[qAS e] at a;exact a)
 |need _ e m ih=>exact .need ih e m
structure TIn (Ae:Aa0)(zs:List Int)(work:Int):Prop where
 wf:WFn Ae
 N:qAJ Ae [work] zs
 len:Ae.length<=63
 user:∀{u v x:Int},u∈zs->v∈zs->x∈nd Ae u->x∈nd Ae v->u=v
section
variable{Ae:Aa0}{zs:List Int}{work:Int}
theorem TIn.once (d:WFn Ae)(N:qAJ Ae [work] zs)(e:Ae.length<=63)(c:∃n:Nat,Once Ae n/\n<=Ae.length/\work<(n:Int)):TIn Ae zs work:=by
 refine⟨d,N,e,λ{u v x} f h k l=>?_⟩;obtain⟨n,o,t,p⟩:=c;have s:=qTE d ((N.2 u).mp f);have r:=qTE d ((N.2 v).mp h);have q:=N.1.in_ u f;have m:=N.1.in_ v h;have a:∀z∈zs,Ae[z.toNat]?=some (nd Ae z):=λz i=>by
  have b:=N.1.in_ z i;have j:z.toNat<Ae.length:=by lia
  have g:=A4 j;rw[g,qAS g]
 have:=o u.toNat v.toNat _ _ x (by lia) (by lia) (a u f) (a v h) k l
 lia
theorem TIn.get (T:TIn Ae zs work){z:Int}(c:z∈zs):Ae[z.toNat]?=some (nd Ae z):=by
 have b:=T.N.1.in_ z c;have a:z.toNat<Ae.length:=by lia
 have g:=A4 a;rw[g,qAS g]
theorem TIn.has (T:TIn Ae zs work){z y:Int}(d:z∈zs)(c:y∈nd Ae z):y∈zs/\y<z/\0<=y:=by
 obtain⟨i,b⟩:=D6 d;obtain⟨e,f⟩:=qEL T.wf T.N b c;have a:=Q7 e;exact⟨a,f,(T.N.1.in_ y a).1⟩
theorem TIn.le (T:TIn Ae zs work){z:Int}(a:z∈zs):z<=work:=qTE T.wf ((T.N.2 z).mp a)
theorem TIn.sub (T:TIn Ae zs work){z x:Int}(a:z∈zs)(h:Nd Ae [z] x):x∈zs:=by
 induction h with
 |ask m=>rw[A6.mp m];exact a
 |@need w y ys hw e m ih=>exact(T.has ih (by rw[qAS e];exact m)).1
theorem TIn.chain (T:TIn Ae zs work){a b x:Int}(d:a∈zs)(f:b∈zs)(g:Nd Ae [a] x):Nd Ae [b] x->Nd Ae [a] b\/Nd Ae [b] a:=by
 induction g with
 |ask m=>
  intro c;rw[A6.mp m] at c;exact .inr c
 |@need w y ys hw e m ih=>
  intro c;cases c with
  |ask m2=>rw[<- A6.mp m2];exact .inl (.need hw e m)
  |@need w2 _ ys2 hw2 e2 m2=>
   have:=T.user (T.sub d hw) (T.sub f hw2) (by rw[qAS e];exact m) (by rw[qAS e2];exact m2)
   subst this;exact ih hw2
theorem TIn.apart (T:TIn Ae zs work){z a b:Int}(d:z∈zs)(g:a∈nd Ae z)(i:b∈nd Ae z)(h:Nd Ae [a] b):a=b:=by
 cases h with
 |ask m=>exact(A6.mp m).symm
 |@need w _ ys hw e m=>
  have f:=T.has d g;have c:=T.sub f.1 hw;have:=T.user c d (by rw[qAS e];exact m) i
  have:=qTE T.wf hw
  lia
theorem TIn.nodup (T:TIn Ae zs work){z:Int}(a:z∈zs):(nd Ae z).Nodup:=(T.wf _ _ (T.get a)).nodup
theorem qcZ {S a:List Int} {z m n:Int} {r:List Mv} {t:List Int} (d:z∉a)(c:∀y∈a,y∉S):∀{os:List Int},os.Perm a->os.Nodup->TRun Ae (S++[z]) m r t n->TRun Ae (S++os++[z]) m (clrM a++r) t n:=by
 induction a with
 |nil=>
  intro os p _ h;rw[List.perm_nil.mp p,M4];exact h
 |cons y a ih=>
  intro os p g h;have b:y∈os:=p.mem_iff.mpr B7;refine .clr (by simp[b]) ?_
  have e:(S++os++[z]).erase y=S++os.erase y++[z]:=by
   rw[F7,List.erase_append_right _ (c y B7),List.erase_append_left _ b,F7]
  rw[e];refine ih (λq=>d (A8 _ q)) (λw f=>c w (A8 _ f)) ?_ (g.erase y) h;have:=p.erase y;rw[List.erase_cons_head] at this;exact this
theorem qY9 (T:TIn Ae zs work){f:Int->Int}{P:Int->List Mv}(NO:NumOn Ae zs f)(PO:PlOn Ae zs f P):∀(k:Nat) (z:Int),z.toNat=k->z∈zs->∀(S:List Int) (m:Int) (r:List Mv) (t:List Int) (n:Int),(∀s∈S,¬Nd Ae [z] s)->
  TRun Ae (S++[z]) (mx m ((S.length:Int)+f z)) r t n->TRun Ae S m (P z++r) t n:=by
 intro k
 induction k using d3 with
 |ind k ih=>
  intro z hk g S m r t n w h;obtain⟨d,p,so,e⟩:=PO z g;have zb:=T.N.1.in_ z g;have i:d.Nodup:=p.nodup_iff.mpr (T.nodup g)
  -- the needs' plans
  have l:∀(suf pre:List Int) (m:Int) (R:List Mv),d=pre++suf->TRun Ae (S++d) (((tk pre.length (suf.map f)).map ((S.length:Int)+·)).foldl mx m) R t n->TRun Ae (S++pre) m ((suf.map P).flatten++R) t n:=by
   intro suf
   induction suf with
   |nil=>
    intro pre m R j v;rw[M4] at j;rw[<- j];exact v
   |cons y suf ih2=>
    intro pre m R j v;have u:y∈d:=by rw[j];simp
    have o:=T.has g (p.mem_iff.mp u);rw[C9,R6,F7];refine ih y.toNat (by lia) y rfl o.1 (S++pre) m _ t n (λs x=>?_) ?_
    ·rcases B8.mp x with q|q
     ·exactλc=>w s q (qQD (p.mem_iff.mp u) c ⟨_,T.get g⟩)
     ·intro c;have ms:s∈d:=by rw[j];exact Q5 _ q
      have es:=T.apart g (p.mem_iff.mp u) (p.mem_iff.mp ms) c;rw[j] at i;exact(W3.mp i).2.2 s q y B7 es.symm
    ·rw[F7];refine ih2 (pre++[y]) _ R (by rw[j,F7];rfl) ?_
     have e3:((S++pre).length:Int)+f y=(S.length:Int)+(f y+(pre.length:Int)):=by rw[A9];lia
     rw[e3,A9,B9];exact v
  rw[e];unfold qGG;rw[F7];have:=l d [] m ((("do",z):Mv)::clrM (nd Ae z)++r) rfl
  rw[M4] at this;refine this (.do_ (λq=>?_) (λy o=>F9 _ (p.mem_iff.mpr o)) ?_)
  ·rcases B8.mp q with q|q
   ·exact w z q (.ask (A6.mpr rfl))
   ·have:=T.has g (p.mem_iff.mp q)
    lia
  ·refine qcZ (λq=>?_) (λy o q=>?_) p i ?_
   ·have:=T.has g q
    lia
   ·exact w y q (.need (.ask (A6.mpr rfl)) (T.get g) o)
   ·obtain⟨ds,pd,sd,ez⟩:=NO z g;have fo:(d.map f).Pairwise (· >= ·):=by
     rw[G6];refine so.imp λ{a b} h=>?_;unfold OrdR at h
     lia
    have ed:d.map f=ds:=qQT ((p.map f).trans pd.symm) fo sd;have ev:mx (((tk 0 (d.map f)).map ((S.length:Int)+·)).foldl mx m) (((S++d).length:Int)+1)=mx m ((S.length:Int)+f z):=by
     rw[qc7,show((S++d).length:Int)+1=(S.length:Int)+((d.length:Int)+1) by rw[A9];lia,qZA,ez]
     unfold qKZ;rw[qbC,qYC,<- ed,A0]
    rw[show([]:List Int).length=0 from rfl,ev];exact h
theorem qcT (a:List Int):qCH (clrM a)=[]:=by
 unfold qCH clrM;rw[u6];exact List.filterMap_eq_nil_iff.mpr λy _=>show(if B6 "clear" = B6 "do" then some y else none)=none from if_neg (by decide)
theorem qXA {P:Int->List Mv} (a:List Int):qCH ((a.map P).flatten)=(a.map λy=>qCH (P y)).flatten:=by
 unfold qCH;rw[List.filterMap_flatten,Z8]
 rfl
theorem qa5 {P:Int->List Mv} (z:Int)(a:List Int):qCH (qGG Ae P z a)=(a.map λy=>qCH (P y)).flatten++[z]:=by
 rw[<- qXA];unfold qGG;have e:qCH ((("do",z):Mv)::clrM (nd Ae z))=[z]:=by
  have:=qcT (nd Ae z);unfold qCH at this ⊢;rw[M3,this]
  rfl
 rw[<- e];unfold qCH;rw[Y1]
theorem qMA (T:TIn Ae zs work){f:Int->Int}{P:Int->List Mv}(PO:PlOn Ae zs f P):∀(k:Nat) (z:Int),z.toNat=k->z∈zs->(qCH (P z)).Nodup/\(∀x,x∈qCH (P z)↔Nd Ae [z] x)/\(P z).length+1=2*(qCH (P z)).length:=by
 intro k
 induction k using d3 with
 |ind k ih=>
  intro z hk j;obtain⟨q,p,so,e⟩:=PO z j;have zb:=T.N.1.in_ z j;have t:q.Nodup:=p.nodup_iff.mpr (T.nodup j);have d:∀y∈q,(qCH (P y)).Nodup/\(∀x,x∈qCH (P y)↔Nd Ae [y] x)/\(P y).length+1=2*(qCH (P y)).length:=λy g=>by
   have:=T.has j (p.mem_iff.mp g);exact ih y.toNat (by lia) y rfl this.1
  rw[e,qa5];refine⟨?_,λx=>?_,?_⟩
  ·rw[W3];refine⟨?_,by simp,λa r b n=>?_⟩
   ·unfold List.Nodup;rw[List.pairwise_flatten];refine⟨λl i=>?_,?_⟩
    ·obtain⟨y,g,rfl⟩:=E1.mp i;exact(d y g).1
    ·rw[G6];refine List.Pairwise.imp_of_mem (λ{a b} r n ne=>?_) t;intro x h1 x2 h2 ex;subst ex;have a1:=((d a r).2.1 x).mp h1;have a2:=((d b n).2.1 x).mp h2;have s:=p.mem_iff.mp r;have u:=p.mem_iff.mp n;rcases T.chain (T.has j s).1 (T.has j u).1 a1 a2 with c|c
     ·exact ne (T.apart j s u c)
     ·exact ne (T.apart j u s c).symm
   ·obtain⟨l,i,v⟩:=A20.mp r;obtain⟨y,g,rfl⟩:=E1.mp i;have h1:=qTE T.wf (((d y g).2.1 a).mp v);have h2:=T.has j (p.mem_iff.mp g);rw[A6.mp n]
    lia
  ·rw[B8,A6,A20]
   constructor
   ·rintro(⟨l,i,hx⟩|rfl)
    ·obtain⟨y,g,rfl⟩:=E1.mp i;exact qQD (p.mem_iff.mp g) (((d y g).2.1 x).mp hx) ⟨_,T.get j⟩
    ·exact .ask (A6.mpr rfl)
   ·intro h
    induction h with
    |ask m=>exact .inr (A6.mp m)
    |@need w y ys hw e2 m ih3=>
     left
     rcases ih3 with⟨l,i,hx⟩|rfl
     ·obtain⟨o,ho,rfl⟩:=E1.mp i;exact⟨_,i,((d o ho).2.1 y).mpr (.need (((d o ho).2.1 w).mp hx) e2 m)⟩
     ·have g:y∈q:=p.mem_iff.mpr (by rw[qAS e2];exact m)
      exact⟨_,E1.mpr ⟨y,g,rfl⟩,((d y g).2.1 y).mpr (.ask (A6.mpr rfl))⟩
  ·have fl:∀l:List Int,(∀y∈l,(P y).length+1=2*(qCH (P y)).length)->((l.map P).flatten).length+l.length=2*((l.map λy=>qCH (P y)).flatten).length:=by
    intro l
    induction l with
    |nil=>intro _;rfl
    |cons y l ih4=>
     intro i;have a:=i y B7;have b:=ih4 λw hw=>i w (A8 _ hw);simp only[C9,R6,A9,C6]
     lia
   have:=fl q λy g=>(d y g).2.2;have lp:=p.length_eq;unfold qGG clrM;simp only[A9,C6,A0,J6]
   lia
theorem qYB (T:TIn Ae zs work){f:Int->Int}{P:Int->List Mv}(PO:PlOn Ae zs f P){z:Int}(a:z∈zs):(P z).length<=800:=by
 obtain⟨b,d,e⟩:=qMA T PO _ z rfl a;have:=qS7 (n:=Ae.length) b λx c=>T.N.1.in_ x (T.sub a ((d x).mp c));have:=T.len
 lia
theorem qRG (T:TIn Ae zs work){f:Int->Int}{P:Int->List Mv}(NO:NumOn Ae zs f)(PO:PlOn Ae zs f P)(b:0<=f work):TRun Ae [] 0 (P work) [work] (f work):=by
 have:=qY9 T NO PO _ work rfl (qBM T.N) [] 0 [] [work] (f work) (fun s a=>nomatch a) (by
  have e:mx 0 ((([]:List Int).length:Int)+f work)=f work:=by
   unfold mx;simp only[J6]
   split<;>lia
  rw[e];exact .nil)
 rw[M4] at this;exact this
theorem qLI (T:TIn Ae zs work){f:Int->Int}{P:Int->List Mv}(PO:PlOn Ae zs f P):(qCH (P work)).Perm zs:=by
 obtain⟨a,b,c⟩:=qMA T PO _ work rfl (qBM T.N);exact(t0 a T.N.1.nodup).mpr λx=>(b x).trans (T.N.2 x).symm
end
theorem lm_hu {X:Cx} {a:Scope} {p:Str} {fv:List Nat} {q:Str} (z:LmZ):(lmCx X a p fv q z).A.units+1<cLine:=by
 have:=z.rm.un;show z.A.units+3+1<cLine
 lia
noncomputable def kvsV (l:List Int)(g:Int->V):List (Key×V):=l.map λz=>(F4 z,g z)
theorem qN0 {g:Int->V} {y:Int} :∀{l:List Int},y∈l->valV (kvsV l g) (F4 y)=some (g y)
 |[],h=>by cases h
 |x::l,h=>by
  by_cases e:x=y
  ·subst e;exact qB7 rfl
  ·exact(qB1 (λz=>e (W6 z))).trans (qN0 ((B1.mp h).resolve_left λz=>e z.symm))
theorem qOL {g:Int->V} {y:Int} :∀{l:List Int},y∉l->valV (kvsV l g) (F4 y)=none
 |[],_=>rfl
 |x::l,h=>(qB1 (λz=>h (by rw[<- W6 z];exact B7))).trans (qOL λz=>h (A8 _ z))
theorem qW9 {g:Int->V} {y:Int} {l:List Int} :qOY (kvsV l g) (F4 y)=kvsV (l.filter λx=>decide (x≠y)) g:=by
 unfold qOY kvsV;rw[B27];congr 1;exact R9 λx _=>decide_eq_decide.mpr ⟨λh e=>h (by rw[e]),λh e=>h (W6 e)⟩
theorem qZI {l:List Int} {g:Int->V} {z:Int} {v:V} (h:z∉l):putK (kvsV l g) (F4 z) v=kvsV (l++[z]) (λy=>if y=z then v else g y):=by
 rw[qMN _ (qOL h)];unfold kvsV;rw[C1];congr 1
 ·exact L3 λy a=>by
   show _=(F4 y,if y=z then v else g y)
   rw[if_neg λ(e:y=z)=>h (e▸a)]
 ·simp
noncomputable def opn (Ae:Aa0)(l:List Int):List Int:=l.filter λx=>decide (∀w∈l,x∉nd Ae w)
section
variable{Ae:Aa0}{zs:List Int}{work:Int}
theorem opn_mem {l:List Int} {x:Int} :x∈opn Ae l↔x∈l/\∀w∈l,x∉nd Ae w:=by
 unfold opn;rw[C7,decide_eq_true_eq]
theorem qYY (T:TIn Ae zs work){i:Nat}{z y:Int}(hi:zs[i]?=some z)(b:y∈nd Ae z):y∈opn Ae (zs.take i):=by
 have h:=qEL T.wf T.N hi b;refine opn_mem.mpr ⟨h.1,λw a m=>?_⟩;have:=T.user (Q7 a) (B0 hi) m b;have:=qHI T.N hi a
 lia
theorem qYX (T:TIn Ae zs work){i:Nat}{z:Int}(hi:zs[i]?=some z):opn Ae (zs.take (i+1))=((opn Ae (zs.take i)).filter λx=>decide (x∉nd Ae z))++[z]:=by
 have j:zs.take (i+1)=zs.take i++[z]:=by rw[D3,hi];rfl
 have g:=B0 hi;have c:∀x∈zs.take i,z∉nd Ae x:=λx f m=>by
  have a:=qHI T.N hi f;have b:=T.has (Q7 f) m
  lia
 have e:z∉nd Ae z:=λm=>by have:=T.has g m;lia
 unfold opn;rw[j,u9,A91];congr 1
 ·refine R9 λx _=>?_;rw[<- B28];refine decide_eq_decide.mpr ⟨λh=>⟨h z (by simp),λw d=>h w (Q5 _ d)⟩,λh w d=>?_⟩
  rcases B8.mp d with q|q
  ·exact h.2 w q
  ·rw[A6.mp q];exact h.1
 ·rw[List.filter_cons_of_pos,B29];rw[decide_eq_true_eq];intro w d;rcases B8.mp d with q|q
  ·exact c w q
  ·rw[A6.mp q];exact e
theorem qYZ (T:TIn Ae zs work):work∈opn Ae zs:=opn_mem.mpr ⟨qBM T.N,λw c m=>by
 have a:=T.has c m;have b:=T.le c
 lia⟩
theorem qc2 (T:TIn Ae zs work)(l:List Int)(h:l.length<=zs.length):(opn Ae l).length<=63:=by
 have a:=M6 (λx=>decide (∀w∈l,x∉nd Ae w)) l;have b:=T.N.1.len;have c:=T.len;unfold opn
 lia
noncomputable def qVL (f:Int->Int)(l:List Int):List Int:=l.mergeSort λa b=>decide (f b<f a\/(f a=f b/\a<=b))
theorem qG6 (f:Int->Int)(l:List Int):(qVL f l).Perm l:=List.mergeSort_perm _ _
theorem qVK {f:Int->Int} {l:List Int} (n:l.Nodup):(qVL f l).Pairwise (OrdR f):=by
 have h:=List.pairwise_mergeSort (le:=fun a b=>decide (f b<f a\/(f a=f b/\a<=b))) (fun a b c d g=>by
  rw[decide_eq_true_eq] at d g ⊢
  lia) (λa b=>by
  rw[b8,decide_eq_true_eq,decide_eq_true_eq]
  lia) l
 have e:(qVL f l).Nodup:=(qG6 f l).nodup_iff.mpr n;refine(h.and e).imp λ{a b} z=>?_;have j:=of_decide_eq_true z.1;have i:a≠b:=z.2;unfold OrdR
 lia
noncomputable def plF (Ae:Aa0)(f:Int->Int):Nat->Int->List Mv
 |0,_=>[]
 |n+1,z=>qGG Ae (plF Ae f n) z (qVL f (nd Ae z))
theorem qbU (T:TIn Ae zs work){f:Int->Int}:∀(k n m:Nat) (z:Int),z.toNat=k->z∈zs->k<n->k<m->plF Ae f n z=plF Ae f m z:=by
 intro k
 induction k using d3 with
 |ind k ih=>
  intro n m z c a g e;obtain⟨n,rfl⟩:∃n',n=n'+1:=⟨n-1,by lia⟩
  obtain⟨m,rfl⟩:∃m',m=m'+1:=⟨m-1,by lia⟩
  show qGG Ae (plF Ae f n) z _=qGG Ae (plF Ae f m) z _;unfold qGG;rw[L3 λy b=>?_];have h:=T.has a ((qG6 f _).mem_iff.mp b);have d:=T.N.1.in_ z a;exact ih y.toNat (by lia) n m y rfl h.1 (by lia) (by lia)
theorem exP (T:TIn Ae zs work)(f:Int->Int):∃P,PlOn Ae zs f P:=by
 refine⟨λz=>plF Ae f (z.toNat+1) z,λz a=>⟨qVL f (nd Ae z),qG6 _ _,qVK (T.nodup a),?_⟩⟩;show qGG Ae (plF Ae f z.toNat) z _=_;unfold qGG;rw[L3 λy b=>?_];have h:=T.has a ((qG6 f _).mem_iff.mp b);have c:=T.N.1.in_ z a;exact qbU T y.toNat _ _ y rfl h.1 (by lia) (by lia)
theorem Pl1.by {f:Int->Int} {P:Int->List Mv} {z:Int} {a:List Int} (h:Pl1 Ae f P z)(p:a.Perm (nd Ae z))(s:a.Pairwise (OrdR f)):P z=qGG Ae P z a:=by
 obtain⟨o,b,c,e⟩:=h;rw[e,qVJ (b.trans p.symm) c s]
end
def keyT (f:Int->Int)(y:Int):List Int:=[-(f y),y]
theorem lexT (a b c d:Int):HT.lexLt [a,b] [c,d]=true↔a<c\/(a=c/\b<d):=by
 simp only[HT.lexLt];simp
 split<;>lia
theorem qfI {f:Int->Int} {c:List Int} {rs:List (List Int×V)} (n:c.Nodup)(p:rs.Perm ((c.map (keyT f)).zip (c.map V.int)))(s:rs.Pairwise (λa b=>HT.lexLt b.1 a.1=false)):∃os:List Int,os.Perm c/\os.Pairwise (OrdR f)/\rs.map (·.2)=os.map V.int:=by
 have h:(c.map (keyT f)).zip (c.map V.int)=c.map λy=>(keyT f y,V.int y):=by
  clear n p
  induction c with
  |nil=>rfl
  |cons y c ih=>rw[C9,C9,L8,ih,C9]
 obtain⟨os,d,e⟩:=L2.G.perm_map_inv p c h;refine⟨os,d,?_,by rw[e,Z8];rfl⟩
 rw[e,G6] at s;have i:os.Nodup:=d.nodup_iff.mpr n;refine(s.and i).imp λ{a b} z=>?_;have j:a≠b:=z.2;have g:¬(-(f b) < -(f a)\/(-(f b) = -(f a)/\b<a)):=λq=>by
  have:=(lexT _ _ _ _).mpr q;have g:HT.lexLt [-(f b),b] [-(f a),a]=false:=z.1;rw[g] at this;cases this
 unfold OrdR
 lia
section
variable{dp p:Addr}{H Hc Hd:Hp}
theorem qWE {o:HO} (k:Keep dp dp Hc Hd):Keep dp dp Hc (Ag Hd dp o):=λb u e a c=>by rw[qA7 a];exact k b u e a c
theorem Keep.toSame (k:Keep dp dp Hc Hd)(s:Same H Hc)(h:H dp=none):Same H Hd:=λb o e=>k b o (s b o e) (qA5 e h) (qA5 e h)
theorem MovL.putT {rs:List Addr} {a:List Mv} {o u:HO} (h:MovL H rs a)(b:H p=some o)(c:∀xs,o≠.tup xs):MovL (Ag H p u) rs a:=qEK h λr m e=>by
 have n:r≠p:=λz=>by
  rw[z,b] at e;exact c _ (D1 e)
 rw[qA7 n];exact e
theorem MovL.keepD {rs:List Addr} {a:List Mv} {Af:List (Key×V)} (h:MovL Hc rs a)(b:Hc dp=some (.dK Af))(k:Keep dp dp Hc Hd):MovL Hd rs a:=qEK h λr m e=>by
 have n:r≠dp:=qC6 e b (by intro z;cases z)
 exact k _ _ e n n
theorem PlanAt.keepD {l:Addr} {c:List Mv} {Af:List (Key×V)} (h:PlanAt Hc l c)(a:Hc dp=some (.dK Af))(k:Keep dp dp Hc Hd):PlanAt Hd l c:=by
 obtain⟨d,b,e⟩:=h;have n:l≠dp:=qC6 b a (by intro z;cases z)
 exact⟨d,k _ _ b n n,e.keepD a k⟩
end
theorem qTD {l d:List Int} {j:Nat} {y:Int} (h:d[j]?=some y):((l.filter λx=>decide (x∉d.take j)).filter λx=>decide (x≠y))=l.filter λx=>decide (x∉d.take (j+1)):=by
 rw[A91];refine R9 λx _=>?_;rw[<- B28];refine decide_eq_decide.mpr ?_;rw[D3,h,D5,B8,A6]
 constructor
 ·rintro⟨a,b⟩ (c|c)
  ·exact b c
  ·exact a c
 ·exactλh=>⟨λc=>h (.inr c),λc=>h (.inl c)⟩
theorem qWW (P:Int->List Mv)(a:List Int)(j:Nat):(((a.take j).map P).flatten).length<=((a.map P).flatten).length:=by
 have e:(a.map P).flatten=((a.take j).map P).flatten++((a.drop j).map P).flatten:=by
  rw[<- p6,<- C1,j8]
 rw[e,A9]
 lia
theorem qWX {P:Int->List Mv} {a:List Int} {j:Nat} {y:Int} (h:a[j]?=some y):((a.take (j+1)).map P).flatten=((a.take j).map P).flatten++P y:=by
 rw[D3,h,D5,C1,p6];simp
theorem qWA {f:Int->Int} {l:List Int} {i:Nat} {k:Key} {v:V} (h:(qDK l f)[i]?=some (k,v)):∃z,l[i]?=some z/\k=F4 z:=by
 unfold qDK at h;rw[C5] at h;cases e:l[i]? with
 |none=>rw[e] at h;cases h
 |some z=>
  rw[e] at h;cases h;exact⟨z,rfl,rfl⟩
structure Pck (f:Int->Int)(ys pk lf:List Int):Prop where
 perm:(pk++lf).Perm ys
 up:lf.Pairwise (·<·)
 ord:pk.Pairwise (OrdR f)
 ahead:∀a∈pk,∀b∈lf,OrdR f a b
theorem qQC {S:List Int} {x:Int} (h:S.Nodup):S.erase x=S.filter λy=>decide (y≠x):=by
 rw[h.erase_eq_filter];exact R9 λy _=>by by_cases e:y=x<;>simp[e,bne]
theorem qVT {Ae:Aa0} {zs:List Int} {f:Int->Int} {z:Int} (h:NumOn Ae zs f)(b:z∈zs):0<=f z:=by
 obtain⟨a,_,_,e⟩:=h z b;have:=(qEQ (qDB a a.length) ((a.length:Int)+1)).1;rw[e];unfold qKZ
 lia
def TabT (H:Hp) (Pt:Addr):Prop:=H Pt=some (.tbl (.tab "tree_plan.<locals>.<lambda>"))
theorem TreeIn.tin {H:Hp} {a:Addr} {Ae:Aa0} {zs:List Int} {b:Int} (h:TreeIn H a Ae b)(N:qAJ Ae [b] zs):TIn Ae zs b:=.once h.2.1 N h.2.2.1 h.2.2.2.2
def qLK (Pt:Addr):Sp:=λvs H Q _=>∃(a:Addr) (Ae:Aa0) (work:Int),vs=[.ref a,.int work]/\TabT H Pt/\TreeIn H a Ae work/\
 ∀l zs f P H',Same H H'->H l=none->qAJ Ae [work] zs->NumOn Ae zs f->PlOn Ae zs f P->PlanAt H' l (P work)->Q (.ref l) H'
theorem qW7 {p:Nat->Prop} {a c:Nat} (h:a<=c)(d:p a):∃e,a<=e/\e<=c/\p e/\∀t,e<t->t<=c->¬p t:=by
 induction c with
 |zero=>exact⟨a,A7 _,h,d,λt b f=>by lia⟩
 |succ c ih=>
  by_cases q:p (c+1)
  ·exact⟨c+1,h,A7 _,q,λt b f=>by lia⟩
  ·by_cases e:a=c+1
   ·subst e;exact absurd d q
   ·obtain⟨e,b,f,j,i⟩:=ih (by lia)
    refine⟨e,b,by lia,j,λt k l=>?_⟩
    by_cases g:t=c+1
    ·rw[g];exact q
    ·exact i t k (by lia)
theorem qTU {p:Nat->Prop} {a b:Nat} (h:a<=b)(f:¬p a)(d:p b):∃c,a<=c/\c<b/\¬p c/\p (c+1):=by
 induction b with
 |zero=>
  have e:a=0:=by lia
  subst e;exact absurd d f
 |succ b ih=>
  by_cases e:a=b+1
  ·subst e;exact absurd d f
  ·by_cases q:p b
   ·obtain⟨c,i,j,g⟩:=ih (by lia) q
    exact⟨c,i,by lia,g⟩
   ·exact⟨b,by lia,by lia,q,d⟩
theorem qaT {q:Int->Nat->Prop} {a c:Nat} (h:a<=c):∀(l:List Int),l≠[]->(∀o∈l,q o a)->∃o∈l,∃e,a<=e/\e<=c/\q o e/\∀o'∈l,∀t,e<t->t<=c->¬q o' t
 |[],ne,_=>absurd rfl ne
 |o::l,_,hq=>by
  obtain⟨e,h1,h2,h3,h4⟩:=qW7 h (hq o B7);by_cases ne:l=[]
  ·subst ne;exact⟨o,B7,e,h1,h2,h3,λo' m=>by rw[A6.mp m];exact h4⟩
  ·obtain⟨o2,m2,e2,g1,g2,g3,g4⟩:=qaT h l ne λx hx=>hq x (A8 _ hx);by_cases le:e<=e2
   ·refine⟨o2,A8 _ m2,e2,g1,g2,g3,λo' m t k1 k2=>?_⟩;rcases B1.mp m with rfl|m
    ·exact h4 t (by lia) k2
    ·exact g4 o' m t k1 k2
   ·refine⟨o,B7,e,h1,h2,h3,λo' m t k1 k2=>?_⟩;rcases B1.mp m with rfl|m
    ·exact h4 t k1 k2
    ·exact g4 o' m t (by lia) k2
section
variable{Ae:Aa0}{zs:List Int}{work:Int}
theorem TIn.disj (T:TIn Ae zs work){z a b x:Int}(d:z∈zs)(e:a∈nd Ae z)(f:b∈nd Ae z)(g:Nd Ae [a] x)(h:Nd Ae [b] x):a=b:=by
 rcases T.chain (T.has d e).1 (T.has d f).1 g h with c|c
 ·exact T.apart d e f c
 ·exact(T.apart d f e c).symm
theorem qS4 (T:TIn Ae zs work){z:Int}(hz:z∈zs){S:List Int}:∀(l:List Int),l.Nodup->(∀o∈l,o∈nd Ae z)->(∀o∈l,∃x∈S,Nd Ae [o] x)->∃m:List Int,m.Nodup/\m.length=l.length/\∀x∈m,x∈S/\∃o∈l,Nd Ae [o] x
 |[],_,_,_=>⟨[],y3,rfl,λ_ h=>nomatch h⟩
 |o::l,n,h1,h2=>by
  have n2:=J7.mp n;obtain⟨m,a1,a2,a3⟩:=qS4 T hz l n2.2 (λx hx=>h1 x (A8 _ hx)) λx hx=>h2 x (A8 _ hx);obtain⟨x,b1,b2⟩:=h2 o B7;refine⟨x::m,J7.mpr ⟨λhm=>?_,a1⟩,by rw[C6,C6,a2],λy hy=>?_⟩
  ·obtain⟨_,o2,c1,c2⟩:=a3 x hm;have:=T.disj hz (h1 o B7) (h1 o2 (A8 _ c1)) b2 c2;exact n2.1 (by rw[this];exact c1)
  ·rcases B1.mp hy with rfl|hy
   ·exact⟨b1,o,B7,b2⟩
   ·obtain⟨c0,o2,c1,c2⟩:=a3 y hy;exact⟨c0,o2,A8 _ c1,c2⟩
theorem qHO {f:Int->Int} {z:Int} (h:NumOn Ae zs f)(b:z∈zs):1<=f z:=by
 obtain⟨a,_,_,e⟩:=h z b;have:=(qEQ (qDB a a.length) ((a.length:Int)+1)).1;rw[e];unfold qKZ
 lia
theorem qg0 (T:TIn Ae zs work){f:Int->Int}(NO:NumOn Ae zs f):∀(k:Nat) (z:Int),z.toNat=k->z∈zs->∀(st:Nat->List Int) (a b:Nat),a<=b->(∀t,a<=t->t<b->∀x∈st (t+1),x∈st t\/∀y∈nd Ae x,y∈st (t+1))->
  (∀x∈st a,¬Nd Ae [z] x)->z∈st b->∃(τ:Nat) (l:List Int),a<=τ/\τ<=b/\l.Nodup/\(∀x∈l,x∈st τ/\Nd Ae [z] x)/\f z<=(l.length:Int):=by
 intro k
 induction k using d3 with
 |ind k ih=>
  intro z hk hz st a b aa a1 u hb;have zb:=T.N.1.in_ z hz;obtain⟨c,c1,c2,c3,c4⟩:=qTU (p:=λt=>z∈st t) aa (λm=>u z m (.ask (A6.mpr rfl))) hb;have v:∀y∈nd Ae z,y∈st (c+1):=by
   rcases a1 c c1 c2 z c4 with q|q
   ·exact absurd q c3
   ·exact q
  obtain⟨s,pd,sd,ez⟩:=NO z hz;obtain⟨w,po,eo⟩:=L2.G.perm_map_inv pd (nd Ae z) rfl;have lo:s.length=w.length:=by rw[eo,A0]
  have a5:=T.nodup hz;have a7:w.Nodup:=po.nodup_iff.mpr a5;have up:∀{y x:Int},y∈nd Ae z->Nd Ae [y] x->Nd Ae [z] x:=λhy h=>qQD hy h ⟨_,T.get hz⟩;rcases(qEQ (qDB s s.length) ((s.length:Int)+1)).2.2 with h|h
  ·refine⟨c+1,z::nd Ae z,by lia,by lia,J7.mpr ⟨λm=>by have:=T.has hz m;lia,a5⟩,λx hx=>?_,?_⟩
   ·rcases B1.mp hx with rfl|hx
    ·exact⟨c4,.ask (A6.mpr rfl)⟩
    ·exact⟨v x hx,up hx (.ask (A6.mpr rfl))⟩
   ·rw[ez];unfold qKZ;rw[h,C6,lo,po.length_eq]
    lia
  ·have ef:f z=topI ((s.length:Int)+1) (qDB s s.length):=ez;rw[<- ef] at h;unfold qDB at h;obtain⟨i,hi,e⟩:=E1.mp h;have hi:i<s.length:=E5.mp hi;rw[A4 hi,l5] at e;have ab:i<w.length:=by lia
   have d:∀o∈w.take (i+1),o∈nd Ae z:=λo ho=>po.mem_iff.mp (Q7 ho);have a2:∀o∈w.take (i+1),s[i]<=f o:=λo ho=>by
    obtain⟨j,hj⟩:=D6 ho;have lj:j<i+1:=by have:=(A5.mp hj).1;rw[C8] at this;lia
    rw[J8 lj] at hj;have a8:j<s.length:=by lia
    have ej:s[j]=f o:=by
     have:s[j]?=some (f o):=by rw[eo,C5,hj];rfl
     exact(A5.mp this).2
    by_cases g:j=i
    ·subst g;lia
    ·have:=P5.mp sd j i a8 hi (by lia)
     lia
   have a3:(w.take (i+1)).length=i+1:=by rw[C8];lia
   obtain⟨o,mo,e1,g1,g2,g3,g4⟩:=qaT (q:=λo t=>∀x∈st t,¬Nd Ae [o] x) (a:=a) (c:=c+1) (by lia) (w.take (i+1)) (λz=>by rw[z] at a3;cases a3) λo ho x hx q=>u x hx (up (d o ho) q)
   have ho:=T.has hz (d o mo);obtain⟨τ,l,t1,t2,t3,t4,t5⟩:=ih o.toNat (by lia) o rfl ho.1 st e1 (c+1) g2 (λt h1 h2=>a1 t (by lia) (by lia)) g3 (v o (d o mo))
   have f1:=qHO NO ho.1;have a6:e1<τ:=by
    by_cases q:e1=τ
    ·subst q;cases l with
     |nil=>rw[J6] at t5;lia
     |cons x l=>
      have:=t4 x B7;exact absurd this.2 (g3 x this.1)
    ·lia
   have a4:(w.take (i+1)).Nodup:=a7.sublist (Y2 _ _);have a0:∀o'∈(w.take (i+1)).erase o,∃x∈st τ,Nd Ae [o'] x:=λo' m=>by
    have q:=g4 o' (V6 m) τ a6 t2;by_cases r:∃x∈st τ,Nd Ae [o'] x
    ·exact r
    ·exact absurd (λx hx n=>r ⟨x,hx,n⟩) q
   obtain⟨m,m1,m2,m3⟩:=qS4 T hz ((w.take (i+1)).erase o) (a4.erase o) (λo' h=>d o' (V6 h)) a0;refine⟨τ,l++m,by lia,by lia,?_,λx hx=>?_,?_⟩
   ·rw[W3];refine⟨t3,m1,λx hx y hy a9=>?_⟩;subst a9;obtain⟨_,o',k1,k2⟩:=m3 x hy;have:=T.disj hz (d o mo) (d o' (V6 k1)) (t4 x hx).2 k2;rw[<- this] at k1;exact(List.Nodup.mem_erase_iff a4).mp k1 |>.1 rfl
   ·rcases B8.mp hx with q|q
    ·exact⟨(t4 x q).1,up (d o mo) (t4 x q).2⟩
    ·obtain⟨k0,o',k1,k2⟩:=m3 x q;exact⟨k0,up (d o' (V6 k1)) k2⟩
   ·have le:=A05 mo;have:=a2 o mo;rw[A9,m2,le,a3,<- e]
    lia
end
section
variable{Ae:Aa0}{zs:List Int}{work Aa:Int}
theorem Pt.seq (wf:WFn Ae){t:Nat}{st:List Int}(h:Pt Ae Aa t st):∃s:Nat->List Int,s 0=[]/\s t=st/\(∀i,i<t->∀x∈s (i+1),x∈s i\/∀y∈nd Ae x,y∈s (i+1))/\∀i,i<=t->s i=[]\/((s i).length:Int)<=Aa:=by
 induction h with
 |zero=>exact⟨λ_=>[],rfl,rfl,λi n=>by lia,λi _=>.inl rfl⟩
 |@step t st m hp hm ih=>
  obtain⟨s,w,k,z,o⟩:=ih;have r:=hp.rise;obtain⟨⟨a,b,c⟩,d,e⟩:=due_iff.mp hm;have B:=qHB r a;have j:=qKQ r hm;refine⟨λi=>if i<=t then s i else behL st m,by dsimp only;rw[if_pos (E2 _)];exact w,by dsimp only;rw[if_neg (by lia)],λi n x f=>?_,λi n=>?_⟩
  ·dsimp only at f ⊢;by_cases g:i<t
   ·rw[if_pos (by lia)] at f ⊢
    rw[if_pos (by lia)]
    exact z i g x f
   ·have v:i=t:=by lia
    subst v;rw[if_neg (by lia)] at f
    rw[if_pos (A7 _),if_neg (by lia),k]
    rcases a with a|a
    ·obtain⟨p,_⟩:=B.1 a;rcases B8.mp (p.mem_iff.mp f) with q|q
     ·exact .inl q
     ·rw[A6.mp q];exact .inr λy u=>p.mem_iff.mpr (Q5 _ ((d a).2.1 y u))
    ·rw[B.2 a] at f;exact .inl (C7.mp f).1
  ·dsimp only;by_cases g:i<=t
   ·rw[if_pos g];exact o i g
   ·rw[if_neg g];rcases j with⟨a,l⟩|⟨a,l⟩
    ·have:=(d a).2.2;exact .inr (by lia)
    ·rcases o t (A7 _) with q|q
     ·rw[k] at q;rw[q] at l;simp at l
     ·rw[k] at q;exact .inr (by lia)
theorem qZ4 (T:TIn Ae zs work){f:Int->Int}(NO:NumOn Ae zs f){m b:Nat}(h:Rm Ae Aa m b)(k:b.testBit work.toNat=true):f work<=Aa:=by
 have d:=qBM T.N;have wb:=T.N.1.in_ work d;obtain⟨st,t,e,p,_⟩:=h.path T.wf;have r:=p.rise;rw[e,qB3 r,decide_eq_true_eq,show((work.toNat:Nat):Int)=work by lia] at k
 obtain⟨s,v,y,z,u⟩:=p.seq T.wf;obtain⟨τ,l,_,n,w,g,j⟩:=qg0 T NO _ work rfl d s 0 t (E2 _) (λi _ o=>z i o) (λx c=>by rw[v] at c;cases c) (by rw[y];exact k)
 have a:l.length<=(s τ).length:=qGE w λx c=>(g x c).1;have f1:=qHO NO d;rcases u τ n with q|q
 ·rw[q] at a;simp at a;rw[a] at j;simp at j
  lia
 ·lia
theorem qeB {a b:Int} :a<=mx a b/\b<=mx a b:=by unfold mx;split<;>lia
theorem TRun.ge {S t:List Int} {m n:Int} {a:List Mv} (h:TRun Ae S m a t n):m<=n:=by
 induction h with
 |nil=>exact L7 _
 |do_ _ _ _ ih=>exact Int.le_trans qeB.1 ih
 |clr _ _ ih=>exact ih
end
theorem qXC {Ae:Aa0} {Ad ws u:List Int} {R:Int} {k:Nat} (b:WFn Ae)(N:qAJ Ae Ad ws)(a:Rise (Ae.length:Int) Ad)(P:Pt Ae R k u)(e:∀x∈Ad,x∈u):qGD Ae ws Ad R:=by
 obtain⟨v,Q⟩:=prj (ws:=ws) N.1 P;obtain⟨m,_,h⟩:=Q.bits (qDN b N.1);refine⟨m,_,h,?_⟩;rw[qJ3 N a];have g:=qHG N a;refine Q9 λj=>?_;rw[d0,qB3 Q.rise j,qB3 g j];by_cases c:(j:Int)∈qCZ ws Ad
 ·rw[decide_eq_true c,B49];refine decide_eq_true ?_;obtain⟨i,y,d,f⟩:=(qC7 N.1.nodup).mp c;exact(qC7 N.1.nodup).mpr ⟨i,y,d,e y f⟩
 ·rw[decide_eq_false c,X5]
theorem qe0 {Ae:Aa0} {R:Int} {b:List Mv} {t:List Int} (d:MvOk Ae b)(h:Run Ae R [] b t):(∀sts,Play Ae R [] b sts .non->qLV [] sts=t)/\∀sts w0,¬Play Ae R [] b sts (.str w0):=by
 obtain⟨sts,P,e,_⟩:=h.play .nil;refine⟨λa c=>?_,λa w0 c=>?_⟩
 ·rw[(Play.one d c P).1];exact e
 ·have:=(Play.one d c P).2;cases this
section
variable{Ae net':Aa0}{R r r':Int}{Ad asked':List Int}
def Has (Ae:Aa0)(R:Int)(Ad:List Int):Prop:=∃u st,Pt Ae R u st/\∀x∈Ad,x∈st
def Few (Ae:Aa0)(Ad:List Int)(r:Int):Prop:=1<=r/\Has Ae r Ad/\∀r',1<=r'->Has Ae r' Ad->r<=r'
theorem Few.mono (h:Few Ae Ad r)(h':Few Ae asked' r')(s:∀x∈Ad,x∈asked'):r<=r':=by
 obtain⟨u,a,P,b⟩:=h'.2.1;exact h.2.2 r' h'.1 ⟨u,a,P,λx c=>b x (s x c)⟩
theorem Few.of {ws:List Int} {b:List Mv} {a:List Int} (d:WFn Ae)(N:qAJ Ae Ad ws)(e:Rise (Ae.length:Int) Ad)(L:qPI Ae ws Ad r)(P:Run Ae r [] b a)(g:MvOk Ae b)(f:∀x∈Ad,x∈a):Few Ae Ad r:=by
 refine⟨L.1,⟨_,_,qaG P (λm h=>(g m h).2) .zero,f⟩,λr' h1 ⟨u,st,Q,hs⟩=>?_⟩;rcases Int.lt_or_le r' r with c|c
 ·exact absurd (qXC d N e Q hs) (L.2.2 r' h1 c)
 ·exact c
theorem Has.done {ws:List Int} (c:WFn Ae)(N:qAJ Ae Ad ws)(a:Rise (Ae.length:Int) Ad)(h:Has Ae r Ad):qGD Ae ws Ad r:=by
 obtain⟨u,d,P,b⟩:=h;exact qXC c N a P b
theorem qTN {ws:List Int} (b:WFn Ae)(N:qAJ Ae Ad ws)(a:1<=Ad.length)(L:qPI Ae ws Ad r):r<=(ws.length:Int):=by
 obtain⟨x,d,e⟩:=U9 (X1.mp a);have:=U6 ((N.2 x).mpr (.ask (by rw[e];exact B7)))
 exact B41.mp λc=>L.2.2 _ (by lia) c (qOS b N)
theorem Has.part {ws as':List Int} (a:Rise (Ae.length:Int) ws)(h:Has Ae R Ad)(g:∀p∈as',0<=p/\∃x,ws[p.toNat]?=some x/\x∈Ad):Has (qBQ Ae ws) R as':=by
 obtain⟨u,i,P,b⟩:=h;obtain⟨v,Q⟩:=prj a P;refine⟨v,_,Q,λp c=>?_⟩;obtain⟨d,x,e,f⟩:=g p c;exact(qC7 a.nodup).mpr ⟨d,x,e,b x f⟩
theorem Has.emb (k:Ae.length<=net'.length)(j:∀w,0<=w->w<(Ae.length:Int)->∀y∈nd net' w,y∈nd Ae w)(h:Has Ae R Ad):Has net' R Ad:=by
 obtain⟨u,i,P,f⟩:=h;refine⟨u,i,?_,f⟩;clear f
 induction P with
 |zero=>exact .zero
 |step p hm ih=>
  obtain⟨⟨a,b,c⟩,d,e⟩:=due_iff.mp hm;exact ih.step (due_iff.mpr ⟨⟨a,b,by lia⟩,λz=>⟨(d z).1,λy g=>(d z).2.1 y (j _ b c y g),(d z).2.2⟩,e⟩)
theorem Few.emb (a:Ae.length<=net'.length)(b:∀w,0<=w->w<(Ae.length:Int)->∀y∈nd net' w,y∈nd Ae w)(h:Few Ae Ad r)(h':Few net' Ad r'):r'<=r:=h'.2.2 r h.1 (h.2.1.emb a b)
theorem qQ5 {a b:Aa0} (d:WFn a):qBQ (qBZ a b) (qB8 0 (a.length:Int))=a:=by
 have e:qBQ (qBZ a b) (qB8 0 (a.length:Int))=qBQ a (qB8 0 (a.length:Int)):=by
  unfold qBQ;refine L3 λw c=>?_;have c:=mem_rangeI.mp c;have g:(qBZ a b)[w.toNat]?=a[w.toNat]?:=by
   unfold qBZ;exact G4 (by lia)
  rw[g]
 rw[e];exact qYW d
theorem Few.beside {a b:Aa0} (e:WFn a)(j:∀x∈Ad,0<=x/\x<(a.length:Int))(h:Few a Ad r)(h':Few (qBZ a b) Ad r'):r'=r:=by
 have l:=qM4 a b;refine A43 (h.emb (by lia) (λw k m y c=>?_) h') (h.2.2 r' h'.1 ?_)
 ·have g:(qBZ a b)[w.toNat]?=a[w.toNat]?:=by
   unfold qBZ;exact G4 (by lia)
  unfold nd at c ⊢;rw[g] at c;exact c
 ·have f:Rise ((qBZ a b).length:Int) (qB8 0 (a.length:Int)):=⟨qD0 _ _,λx i=>by have:=mem_rangeI.mp i;lia⟩
  have:=h'.2.1.part (as':=Ad) f λp d=>by
   have:=j p d;exact⟨this.1,p,by rw[qCK (by lia)];congr 1;lia,d⟩
  rwa[qQ5 e] at this
theorem qZ8 {z x:Int} (h:Nd Ae [z] x):x=z\/∃y∈nd Ae z,Nd Ae [y] x:=by
 induction h with
 |ask h=>exact .inl (A6.mp h)
 |@need w y zs hw e hy ih=>
  rcases ih with c|⟨v,hv,n⟩
  ·subst c;exact .inr ⟨y,by rw[qAS e];exact hy,.ask (A6.mpr rfl)⟩
  ·exact .inr ⟨v,hv,n.need e hy⟩
theorem qWN (l:WFn Ae)(h:Has Ae R Ad){w:Int}(o:Nd Ae Ad w):((nd Ae w).length:Int)+1<=R:=by
 obtain⟨u,k,P,j⟩:=h;have g:∀x∈k,∀w,Nd Ae [x] w->((nd Ae w).length:Int)+1<=R:=by
  clear j
  induction P with
  |zero=>intro x f;cases f
  |@step t k m hp hm ih=>
   have p:=hp.rise;obtain⟨⟨a,b,c⟩,d,e⟩:=due_iff.mp hm;intro x f w i;rcases(qD7 a x).mp f with⟨a,q⟩|⟨a,q,_⟩
   ·rcases q with q|q
    ·exact ih x q w i
    ·subst q;rcases qZ8 i with z|⟨y,hy,hn'⟩
     ·rw[z];have:=qGE (qRE (qfX l m.2)) (d a).2.1;have:=(d a).2.2
      lia
     ·exact ih y ((d a).2.1 y hy) w hn'
   ·exact ih x q w i
 have:∃x∈Ad,Nd Ae [x] w:=by
  induction o with
  |ask h=>exact⟨_,h,.ask (A6.mpr rfl)⟩
  |need _ e hy ih=>
   obtain⟨x,f,n⟩:=ih;exact⟨x,f,n.need e hy⟩
 obtain⟨x,f,n⟩:=this;exact g x (j x f) w n
def uniL (n:Nat)(a b:List Int):List Int:=(qB8 0 (n:Int)).filter λx=>decide (x∈a\/x∈b)
theorem qGM (n:Nat)(a b:List Int):Rise (n:Int) (uniL n a b):=⟨(qD0 _ _).filter _,λx c=>mem_rangeI.mp (C7.mp c).1⟩
theorem qCR {n:Nat} {a b:List Int} (d:Rise (n:Int) a)(c:Rise (n:Int) b){x:Int}:x∈uniL n a b↔x∈a\/x∈b:=by
 unfold uniL;rw[C7,decide_eq_true_eq];exact⟨λh=>h.2,λh=>⟨mem_rangeI.mpr (h.elim (d.in_ x) (c.in_ x)),h⟩⟩
theorem qY8 {n:Nat} {a b:List Int} (d:Rise (n:Int) a)(c:Rise (n:Int) b):(uniL n a b).length<=a.length+b.length:=by
 have:=qGE (r:=a++b) (qGM n a b).nodup λx e=>B8.mpr ((qCR d c).mp e)
 rwa[A9] at this
theorem qcH {K:List Int} {m:Int} {q:Nat} (f:Rise (Ae.length:Int) K)(h0:Pt Ae (m+(K.length:Int)) q K){k:Nat}{s:List Int}(P:Pt Ae m k s):∃u,Pt Ae (m+(K.length:Int)) u (uniL Ae.length K s):=by
 induction P with
 |zero=>
  have e:uniL Ae.length K []=K:=qHH (qGM _ _ _).up f.up λx=>by rw[qCR f .nil];simp
  rw[e];exact⟨q,h0⟩
 |@step t st mv hp hm ih=>
  obtain⟨u,Q⟩:=ih;have i:=hp.rise;have o:=(hp.step hm).rise;have r:=qGM Ae.length K st;have p:=qGM Ae.length K (behL st mv);have lu:=qY8 f i;obtain⟨⟨a,b,c⟩,d,e⟩:=due_iff.mp hm;by_cases z:mv.2∈K
  ·have j:uniL Ae.length K (behL st mv)=uniL Ae.length K st:=qHH p.up r.up λx=>by
    rw[qCR f o,qCR f i,qD7 a]
    constructor
    ·rintro(h|⟨_,h|h⟩|⟨_,h,_⟩)
     ·exact .inl h
     ·exact .inr h
     ·rw[h];exact .inl z
     ·exact .inr h
    ·rintro(h|h)
     ·exact .inl h
     ·rcases a with a|a
      ·exact .inr (.inl ⟨a,.inl h⟩)
      ·by_cases y:x=mv.2
       ·rw[y];exact .inl z
       ·exact .inr (.inr ⟨a,h,y⟩)
   rw[j];exact⟨u,Q⟩
  ·have n:mv∈qCG Ae (uniL Ae.length K st) (m+(K.length:Int)):=due_iff.mpr ⟨⟨a,b,c⟩,λy=>⟨λg=>((qCR f i).mp g).elim z (d y).1,λw v=>(qCR f i).mpr (.inr ((d y).2.1 w v)),by have:=(d y).2.2;lia⟩,λy=>(qCR f i).mpr (.inr (e y))⟩
   have l:=Q.step n;have j:behL (uniL Ae.length K st) mv=uniL Ae.length K (behL st mv):=qHH l.rise.up p.up λx=>by
    rw[qCR f o,qD7 a,qD7 a,qCR f i]
    constructor
    ·rintro(⟨g,(h|h)|h⟩|⟨g,h|h,y⟩)
     ·exact .inl h
     ·exact .inr (.inl ⟨g,.inl h⟩)
     ·exact .inr (.inl ⟨g,.inr h⟩)
     ·exact .inl h
     ·exact .inr (.inr ⟨g,h,y⟩)
    ·rintro(h|⟨g,h|h⟩|⟨g,h,y⟩)
     ·rcases a with a|a
      ·exact .inl ⟨a,.inl (.inl h)⟩
      ·exact .inr ⟨a,.inl h,λy=>z (by rw[<- y];exact h)⟩
     ·exact .inl ⟨g,.inl (.inr h)⟩
     ·exact .inl ⟨g,.inr h⟩
     ·exact .inr ⟨g,.inr h,y⟩
   rw[j] at l;exact⟨_,l⟩
theorem qSN {u:Nat} {st:List Int} (P:Pt Ae R u st):∀l:List Int,∃v,Pt Ae R v (st.filter λx=>decide (x∉l))
 |[]=>⟨u,by rw[X0.mpr λx _=>by simp];exact P⟩
 |w::l=>by
  obtain⟨v,Q⟩:=qSN P l;by_cases c:w∈st.filter λx=>decide (x∉l)
  ·have wb:=Q.rise.in_ w c;have a:(("clear",w):Mv).1 = "do"\/(("clear",w):Mv).1 = "clear":=.inr rfl
   have nd:¬(("clear",w):Mv).1 = "do":=by show¬B6 "clear" = B6 "do";decide
   have due:(("clear",w):Mv)∈qCG Ae (st.filter λx=>decide (x∉l)) R:=due_iff.mpr ⟨⟨a,wb⟩,λz=>absurd z nd,λ_=>c⟩;have Q':=Q.step due;have e:behL (st.filter λx=>decide (x∉l)) ("clear",w)=st.filter λx=>decide (x∉w::l):=qHH Q'.rise.up (P.rise.up.filter _) λx=>by
    rw[qD7 a,C7,C7,decide_eq_true_eq,decide_eq_true_eq,B1,not_or];exact⟨λh=>h.elim (λz=>absurd z.1 nd) λz=>⟨z.2.1.1,z.2.2,z.2.1.2⟩,λh=>.inr ⟨rfl,⟨h.1,h.2.2⟩,h.2.1⟩⟩
   rw[e] at Q';exact⟨_,Q'⟩
  ·have e:(st.filter λx=>decide (x∉w::l))=st.filter λx=>decide (x∉l):=R9 λx hx=>by
    rw[decide_eq_decide,B1,not_or];exact⟨λh=>h.2,λh=>⟨λy=>c (by rw[<- y];exact C7.mpr ⟨hx,decide_eq_true h⟩),h⟩⟩
   rw[e];exact⟨v,Q⟩
theorem Pt.mono (h:R<=r){u:Nat}{st:List Int}(P:Pt Ae R u st):Pt Ae r u st:=by
 induction P with
 |zero=>exact .zero
 |step p hm ih=>
  obtain⟨a,d,e⟩:=due_iff.mp hm;exact ih.step (due_iff.mpr ⟨a,λz=>⟨(d z).1,(d z).2.1,by have:=(d z).2.2;lia⟩,e⟩)
theorem qXZ {m:Int} (m1:1<=m):∀l:List Int,(∀x∈l,Has Ae m [x])->l≠[]->∃u st,Pt Ae (m+(l.length:Int)-1) u st/\(∀x∈l,x∈st)/\∀x∈st,x∈l
 |[],_,h=>absurd rfl h
 |x::l,h,_=>by
  obtain⟨k,s,P,hs⟩:=h x B7;have hx:x∈s:=hs x (A6.mpr rfl);obtain⟨u0,K,P0,k1,k2⟩:∃u st,Pt Ae (m+(l.length:Int)) u st/\(∀x∈l,x∈st)/\∀x∈st,x∈l:=by
   cases l with
   |nil=>exact⟨0,[],.zero,λ_ z=>(by cases z),λ_ z=>(by cases z)⟩
   |cons y l=>
    obtain⟨u,st,p,q⟩:=qXZ m1 (y::l) (λz hz=>h z (A8 _ hz)) (by simp)
    exact⟨u,st,p.mono (by lia),q⟩
  have rK:=P0.rise;have lk:=qGE rK.nodup k2;have P0':Pt Ae (m+(l.length:Int)) u0 K:=P0;have P1:Pt Ae (m+(l.length:Int)-(K.length:Int)) k s:=P.mono (by lia)
  obtain⟨v,Q⟩:=qcH (m:=m+(l.length:Int)-(K.length:Int)) rK (by rw[show m+(l.length:Int)-(K.length:Int)+(K.length:Int)=m+(l.length:Int) by lia];exact P0) P1
  rw[show m+(l.length:Int)-(K.length:Int)+(K.length:Int)=m+(l.length:Int) by lia] at Q
  obtain⟨v',Q'⟩:=qSN Q ((uniL Ae.length K s).filter λy=>decide (y∉x::l));refine⟨v',_,Q'.mono (by rw[C6];lia),λy hy=>?_,λy hy=>?_⟩
  ·refine C7.mpr ⟨(qCR rK P.rise).mpr ?_,decide_eq_true λz=>?_⟩
   ·rcases B1.mp hy with e|e
    ·rw[e];exact .inr hx
    ·exact .inl (k1 y e)
   ·exact of_decide_eq_true (C7.mp z).2 hy
  ·obtain⟨a,b⟩:=C7.mp hy;apply L6;intro c;exact of_decide_eq_true b (C7.mpr ⟨a,decide_eq_true c⟩)
theorem qcN {m:Int} (h:Few Ae Ad r)(b:1<=m)(d:∀x∈Ad,Has Ae m [x])(a:Ad≠[]):r<=m+(Ad.length:Int)-1:=by
 obtain⟨u,e,P,c,_⟩:=qXZ b Ad d a;have:1<=Ad.length:=by cases Ad with|nil=>exact absurd rfl a|cons _ _=>simp
 exact h.2.2 _ (by lia) ⟨u,e,P,c⟩
end
theorem TRun.lets {Ae:Aa0} {Aa:Int} {S t:List Int} {m n:Int} {s:List Mv} (h:TRun Ae S m s t n):n<=Aa->(∀x∈qCH s,0<=x/\x<(Ae.length:Int))->S.Nodup->(∀x∈S,0<=x/\x<(Ae.length:Int))->∀{k:Nat} {st:List Int},Pt Ae Aa k st->st.Perm S->∃st',Run Ae Aa st s st'/\st'.Perm t/\MvOk Ae s:=by
 induction h with
 |nil=>exactλ_ _ _ _ k st p q=>⟨st,.nil,q,λ_ z=>nomatch z⟩
 |@do_ S m x r t n h1 h2 h3 ih=>
  intro hn j o g k st p q;have u:=j x (G8.mpr ⟨_,B7,if_pos rfl⟩);have ge:=h3.ge;have lq:=q.length_eq;have l2:=(qeB (a:=m) (b:=(S.length:Int)+1)).2;have d:(("do",x):Mv)∈qCG Ae st Aa:=due_iff.mpr ⟨⟨.inl rfl,u⟩,λ_=>⟨λz=>h1 (q.mem_iff.mp z),λy c=>q.mem_iff.mpr (h2 y c),by lia⟩,λz=>absurd z (by show¬B6 "do" = B6 "clear";decide)⟩
  have B:=(qHB (m:=(("do",x):Mv)) p.rise (.inl rfl)).1 rfl
  have i:=p.step d;obtain ⟨st',l,pm,mv⟩:=ih hn (fun y c=>j y (G8.mpr (by
   obtain⟨v,h1,h2⟩:=G8.mp c;exact⟨v,A8 _ h1,h2⟩))) (by
   rw[W3];exact⟨o,by simp,λa ha b g e=>h1 (by rw[<- A6.mp g,<- e];exact ha)⟩) (λy c=>by
   rcases B8.mp c with z|z
   ·exact g y z
   ·rw[A6.mp z];exact u) i (B.1.trans (q.append_right _))
  exact⟨st',.do_ (λz=>h1 (q.mem_iff.mp z)) (λy c=>q.mem_iff.mpr (h2 y c)) (by lia) B.1 i.rise.up l,pm,λf w=>(B1.mp w).elim (λe=>by rw[e];exact⟨.inl rfl,u⟩) (mv f)⟩
 |@clr S m x r t n h1 h2 ih=>
  intro hn j o g k st p q;have d:(("clear",x):Mv)∈qCG Ae st Aa:=due_iff.mpr ⟨⟨.inr rfl,g x h1⟩,λz=>absurd z (by show¬B6 "clear" = B6 "do";decide),λ_=>q.mem_iff.mpr h1⟩
  have B:=(qHB (m:=(("clear",x):Mv)) p.rise (.inr rfl)).2 rfl;have i:=p.step d;obtain ⟨st',l,pm,mv⟩:=ih hn (fun y c=>j y (G8.mpr (by
   obtain⟨v,h1,h2⟩:=G8.mp c;exact⟨v,A8 _ h1,h2⟩))) (o.erase x) (λy c=>g y (V6 c)) i (by
   rw[B,qQC o];exact q.filter _)
  rw[B] at l;exact⟨st',.clear (q.mem_iff.mpr h1) l,pm,λf w=>(B1.mp w).elim (λe=>by rw[e];exact⟨.inr rfl,g x h1⟩) (mv f)⟩
theorem Few.tree {Ae:Aa0} {zs:List Int} {a r:Int} (T:TIn Ae zs a){f:Int->Int}(NO:NumOn Ae zs f)(h:Few Ae [a] r):f a=r:=by
 have o:=T.N.1.in_ a (qBM T.N);have j:=qHO NO (qBM T.N);refine A43 ?_ (h.2.2 _ j ?_)
 ·obtain⟨u,i,P,e⟩:=h.2.1;obtain⟨m,_,R⟩:=P.bits T.wf;refine qZ4 T NO R ?_;rw[qB3 P.rise,decide_eq_true_eq,show((a.toNat:Nat):Int)=a by lia]
  exact e a (A6.mpr rfl)
 ·obtain⟨P,d⟩:=exP T f;have c:=qLI T d;obtain⟨i,k,n,l⟩:=(qRG T NO d (qVT NO (qBM T.N))).lets (L7 _) (λx b=>T.N.1.in_ x (c.mem_iff.mp b)) y3 (λx b=>nomatch b) (.zero) (.refl _);exact⟨_,_,qaG k (λm g=>(l m g).2) .zero,λx b=>n.mem_iff.mpr b⟩
theorem qV5 {α:Type} {l:List α} {j:Nat} (h:j<l.length)(z:α):l.take j++[z]++l.drop (j+1)=l.set j z:=by
 rw[List.set_eq_take_append_cons_drop,if_pos h,F7]
 rfl
theorem qZ7 {Ae:Aa0} {j:Nat} {zs:List Int} (b:j<Ae.length)(h:∀y∈zs,y∈nd Ae (j:Int)){w:Int}(d:0<=w):∀y∈nd (Ae.take j++[zs]++Ae.drop (j+1)) w,y∈nd Ae w:=by
 rw[qV5 b];intro y a;by_cases c:w.toNat=j
 ·have e:nd (Ae.set j zs) w=zs:=qAS (by rw[c,O7 b])
  rw[e] at a;have:=h y a
  rwa[show(j:Int)=w by lia] at this
 ·unfold nd at a ⊢
  rwa[Q6 (F6 c)] at a
theorem qRH {l:List Int} {m:Int} (h:topD none l=some m):m∈l/\∀x∈l,x<=m:=by
 cases l with
 |nil=>cases h
 |cons y r=>
  obtain⟨b,c,a⟩:=qEQ r y;cases h;exact⟨a.elim (λe=>by rw[e];exact B7) (A8 _),λx d=>(B1.mp d).elim (λe=>by rw[e];exact b) (c x)⟩
theorem qZD {l:List Int} {m:Int} (h:lowD none l=some m):m∈l/\∀x∈l,m<=x:=by
 cases l with
 |nil=>cases h
 |cons y r=>
  obtain⟨b,c,a⟩:=qW2 r y;cases h;exact⟨a.elim (λe=>by rw[e];exact B7) (A8 _),λx d=>(B1.mp d).elim (λe=>by rw[e];exact b) (c x)⟩
def qIG (Pt:Addr):Sp:=λvs H Q _=>∃(a t:Addr) (Ae:Aa0) (Ad:List Int),vs=[.ref a,.ref t]/\TabB H Pt/\NetAt H a Ae/\WFn Ae/\Ae.length<=12/\qD8 H t Ae Ad/\1<=Ad.length/\∀r H',Same H H'->Few Ae Ad r->r<=(Ae.length:Int)->Q (.int r) H'
def qRK (Pt:Addr):Sp:=λvs H Q _=>∃(d c a ta:Addr) (t:Int) (ns:List Int) (Ae:Aa0) (Ad:List Int) (r:Int),vs=[.ref d,.ref a,.ref ta,.int r]/\StAt H d c t ns/\t<=TB-100/\TabB H Pt/\NetAt H a Ae/\WFn Ae/\1<=Ae.length/\Ae.length<=10/\qD8 H ta Ae Ad/\1<=Ad.length/\Few Ae Ad r/\
 ∀(t':Int) (ns':List Int) H',StAt H' d c t' ns'->t<=t'->t'<=t+20->Keep d c H H'->Q (.bl true) H'
def qNZ (Pt:Addr):Sp:=λvs H Q _=>∃(a t:Addr) (Ae:Aa0) (Ad:List Int) (r:Int),vs=[.ref a,.ref t,.int r]/\TabB H Pt/\NetAt H a Ae/\WFn Ae/\Ae.length<=12/\qD8 H t Ae Ad/\1<=Ad.length/\Few Ae Ad r/\∀H',Same H H'->Q (.bl true) H'
def qRI (Pt:Addr):Sp:=λvs H Q _=>∃(a t:Addr) (Ae:Aa0) (Ad ws:List Int) (Aa:Int),vs=[.ref a,.ref t,.int Aa]/\TabB H Pt/\NetAt H a Ae/\WFn Ae/\Ae.length<=12/\qD8 H t Ae Ad/\1<=Ad.length/\qAJ Ae Ad ws/\qGD Ae ws Ad Aa/\∀H',Same H H'->Q .non H'
def qMF (K:Ab1)(Pt Po:Addr):Sp:=λvs H Q E=>TabB H Pt/\TabT H Po/\qfH K vs H Q E
section
variable{P:B63}{w:World}{K:Ab1}{mg:Ab0}{base:Heap}{f:Addr}{fd:B77}{qFS qF0 qEZ qFR qEX qEO qH6 qEA qAM qHW qC2 Pt cc qBU qEN qCW qC3 qDO qKD qAO qFP qKF qD3 qKC qKH qN9 qSI qKE qKG Po qNB qX3 qNC qEW qEI qF1 qNA qFQ qDY:Addr}{qG9 qL9 qI5 qN6 qL7 qGK qLZ qFN qQS qDX qCF qGJ qFO qEM qKA qTW qCV qN4 qTX qEU qTV qTY qWY qWZ qN7 qN8 qX1 qcO qX2 qL6 qKB qLA qX0 qN5 qOV:B77}
theorem sc_Lbegin:FnScope ["_law_script","_law_cells"] ["_law_script"] (qA8 qIL):=qBO
theorem ok_Lbegin (F:Fun K "_law_begin" "_law_begin" qIL f fd) (y:mg "list" = none):FnOk P w K mg base CX0 1 f fd ["_law_script"] (qUV K):=by
 refine F.okA sc_Lbegin λa1 A a0 s H vs Q E hr h=>?_;obtain⟨a,m,rfl,hS,z,q⟩:=h;have hu:=qID hr;have o:=hr.units0;refine⟨_,(qA4 (qAF (i:=1) sc_Lbegin.nd rfl (E9 rfl) (qAB qP5 rfl y qXQ (qA0 (qG4 qPW (pv 0) qHL (qHK qA9)) qA3))) (qA4 (qCL (qAU (qVN o) (pv 1) (qBX qA3) (qBF _)) (qA6 (qAF (i:=1) sc_Lbegin.nd rfl (E9 rfl) (qBX (qA0 qA9 qA3)))) qAV) (qA6 (qAK (qbZ (qRY qCI (pv 1) (qRY qCI qA9 qbT)) rfl rfl (by simp) (by decide)))))),?_⟩
 try dsimp only[Cx.nox,Cx.wish,cxOf]
 refine⟨_,rfl,_,rfl,a,_,rfl,hS,λp hp=>?_⟩;rw[qNG];have hl:(cutI m none (some 63)).length<=63:=F3 (qa7 _ _ _) z;refine⟨p,_,rfl,.inl (Ab2 qA1),λc t=>?_⟩;have s1:Same H (Ag (Ag H p (.lst ((cutI m none (some 63)).map V.int))) c (.lst ((cutI m none (some 63)).map V.int))):=(qA2 hp _).trans (qA2 t _);refine⟨_,rfl,(by show 0<=B62;decide),λe n=>?_⟩
 have k:c≠e:=qA5 qA1 n;refine⟨c,e,_,rfl,rfl,Ab2 (by rw[qA7 k];exact qA1),Ab2 qA1,_,rfl,?_⟩
 have j:=s1.trans (qA2 n (.lst []));cases hm:cutI m none (some 63) with
 |nil=>
  rw[hm] at j n;refine iteT ?_;refine⟨(by show 1<=B62;decide),λv l=>?_⟩
  have u:=j.trans (qA2 l (.lst [.int 7]));intro d g;refine⟨_,rfl,?_⟩;have s4:=u.trans (qA2 g (.dK []));refine⟨qA1,[(O0 (B6 "cells"),.ref v),(O0 (B6 "turn"),.int 0)],rfl,(by show 2<=15;decide),?_⟩
  have b:v≠d:=qA5 qA1 g;refine q d v [7] _ ⟨?_,?_,by decide,by decide,by decide⟩ ?_ ?_ ?_
  ·rw[qA1,qaR]
  ·rw[qA7 b,qA7 b];exact qA1
  ·rw[qM7];exact u.trans (qA2 g _)
  ·exact u.free g
  ·exact j.free l
 |cons x r=>
  rw[hm] at j n hl;refine iteF ?_;intro d g;refine⟨_,rfl,?_⟩;refine⟨qA1,[(O0 (B6 "cells"),.ref c),(O0 (B6 "turn"),.int 0)],rfl,(by show 2<=15;decide),?_⟩
  have gc:(Ag (Ag (Ag H p (.lst ((x::r).map V.int))) c (.lst ((x::r).map V.int))) e (.lst [])) c=some (.lst ((x::r).map V.int)):=by rw[qA7 k];exact qA1
  have b:c≠d:=qA5 gc g;refine q d c (x::r) _ ⟨?_,?_,by simp,hl,by decide⟩ ?_ ?_ ?_
  ·rw[qA1,qaR]
  ·rw[qA7 b,qA7 b];exact gc
  ·rw[qM7];exact j.trans (qA2 g _)
  ·exact j.free g
  ·rw[hm] at t;exact(qA2 hp _).free t
theorem sc_Ltake:FnScope ["_law_state","_law_many","_law_turn","_law_place","_law_cell","_law_digit","_law_mixed"] ["_law_state","_law_many"] (qA8 qMM):=qBO
theorem ok_Ltake (F:Fun K "_law_take" "_law_take" qMM f fd) (qBK:mg "len" = none) (a0:mg "divmod" = none):FnOk P w K mg base CX0 1 f fd ["_law_state","_law_many"] qJ9:=by
 refine F.okA sc_Ltake λa3 A a1 s H vs Q E hr h=>?_;obtain⟨d,c,t,g,m,rfl,S,ht,a8,a6,q⟩:=h;have v:=qID hr;refine⟨_,(qA4 (qAF (i:=2) sc_Ltake.nd rfl (E9 rfl) (qAP qD1 (qCB v (pv 0) qCI (λ_ _=>rfl)) qA9)) (qA4 (qFD v (pv 0) qCI (pv 2) rfl) (qA4 (qAF (i:=3) sc_Ltake.nd rfl (E9 rfl) (qAP qJQ (pv 2) (qAC qAA rfl qBK qBR (qA0 (qCB v (pv 0) qCI (λ_ _=>rfl)) qA3)))) (qA4 (qAF (i:=4) sc_Ltake.nd rfl (E9 rfl) (qBY qES (qCB v (pv 0) qCI (λ_ _=>rfl)) (pv 3) (λ_ _=>rfl))) (qA4 (qCL (qAU qc3 (pv 4) (qAP qe8 qA9 qA9) (qBF _)) (qA4 (qRX (qAC qR1 rfl a0 qXS (qA0 (pv 4) (qA0 (pv 1) qA3))) (qOD rfl (qBH (qVC (qCB v (pv 0) qCI (λ_ _=>rfl)) (pv 3) qIH) (qBH (qAW (i:=5) sc_Ltake.nd rfl (E9 rfl)) qFE)))) (qA6 (qAK (pv 5)))) qAV) (qA4 (qAF (i:=6) sc_Ltake.nd rfl (E9 rfl) (qAP qJQ (qAP qLQ (qAP qD1 (qAP qD1 (qAP qJQ (pv 4) qA9) (qAP qLQ (qAP qLQ (pv 2) (pv 2)) qA9)) qA9) qA9) qA9)) (qA4 (qAF (i:=6) sc_Ltake.nd rfl (E9 rfl) (qAP qJQ (qAP qLQ (pv 6) (pv 6)) qA9)) (qA6 (qAK (qAP qJQ (qAP qQ6 (qAP qJQ (qAP qLQ (qAP qD1 (pv 6) (qAP qLQ (pv 2) qA9)) qA9) qA9) qA9) (pv 1))))))))))),?_⟩
 try dsimp only[Cx.nox,Cx.wish,cxOf]
 have a2:=S.pos;have a7:=S.ne;have a5:t<=1000000000:=ht;refine⟨_,rfl,d,_,rfl,qcU S,_,_,rfl,rfl,?_⟩;refine⟨_,rfl,_,rfl,d,_,rfl,qcS S,?_⟩;have l:=S.turn (u:=t+1) (by lia)
 have k1:Keep d c H (Ag H d (.dK [(O0 (B6 "cells"),.ref c),(O0 (B6 "turn"),.int (t+1))])):=λb o e n _=>by rw[qA7 n];exact e
 generalize Ag H d (.dK [(O0 (B6 "cells"),.ref c),(O0 (B6 "turn"),.int (t+1))])=H1 at l k1;have k:(((g.map V.int).length:Nat):Int)=(g.length:Int):=by rw[A0]
 refine⟨_,rfl,_,rfl,d,_,rfl,qNF l,c,_,rfl,.inl (Ab2 l.list),_,_,rfl,rfl,(by rw[k];lia),?_⟩
 have p0:0<=(t+1)%(((g.map V.int).length:Nat):Int):=Y0 _ (by rw[k];lia)
 have p1:(t+1)%(((g.map V.int).length:Nat):Int)<(g.length:Int):=by
  have:=V5 (t+1) (b:=(((g.map V.int).length:Nat):Int)) (by rw[k];lia)
  rw[k] at this ⊢;exact this
 dsimp only;generalize (t+1)%(((g.map V.int).length:Nat):Int)=pl at p0 p1;obtain⟨j,rfl⟩:∃j:Nat,pl=(j:Int):=⟨pl.toNat,by lia⟩
 have hj:j<g.length:=by lia
 have r:atI (g.map V.int) (j:Int)=some (.int g[j]):=qXX (by rw[C5,A4 hj];rfl)
 refine⟨_,rfl,d,_,rfl,qNF l,_,rfl,c,_,_,_,rfl,rfl,Ab2 l.list,r,?_⟩;generalize hx:g[j]=x at r ⊢;refine⟨_,rfl,_,_,rfl,rfl,⟨by decide,by decide,by decide⟩,_,_,rfl,rfl,_,rfl,?_⟩
 refine ite2 (λ_=>?_) (λ_=>?_)
 ·-- a great cell
  refine⟨_,rfl,_,rfl,x,m,rfl,⟨by lia,by lia⟩,λp hp=>?_⟩
  have S2:=l.new hp (.tup [.int (x/m),.int (x%m)]);have a4:p≠c:=(qA5 l.list hp).symm;refine⟨p,_,rfl,Ac0 qA1,rfl,_,_,rfl,?_⟩;refine⟨_,rfl,d,_,rfl,qNF S2,_,rfl,c,_,_,j,rfl,rfl,S2.list,qQQ (by rw[A0];exact hj),?_⟩
  refine⟨_,_,rfl,rfl,?_⟩;refine⟨_,rfl,?_⟩;have e1:(g.map V.int).set j (.int (x/m))=(g.set j (x/m)).map V.int:=by rw[A44]
  rw[e1];refine q (x%m) (g.set j (x/m)) _ (Y0 _ (by lia)) (V5 _ (by lia)) (S2.put (by rw[b7])) ?_
  have k2:=k1.trans (qCC (d:=d) (c:=c) hp (.tup [.int (x/m),.int (x%m)]));exactλb o e n1 n2=>by rw[qA7 n2];exact k2 b o e n1 n2
 ·have b1:0<=x%2147483629:=Y0 _ (by decide)
  have b2:x%2147483629<2147483629:=V5 _ (by decide)
  refine⟨_,rfl,_,_,rfl,rfl,(by show(0:Int)<2147483629;decide),_,rfl,_,rfl,_,_,rfl,rfl,.inl ⟨by lia,by lia⟩,_,_,rfl,rfl,.inr ⟨by decide,by decide⟩,_,_,rfl,rfl,_,_,rfl,rfl,_,_,rfl,rfl,.inr ⟨by decide,by decide⟩,_,_,rfl,rfl,(by show(0:Int)<2147483647;decide),?_⟩
  have c1:=Y0 ((x%2147483629+(t+1)*(t+1)*7919+11)*48271) (b:=2147483647) (by decide)
  have c2:=V5 ((x%2147483629+(t+1)*(t+1)*7919+11)*48271) (b:=2147483647) (by decide)
  dsimp only;generalize ((x%2147483629+(t+1)*(t+1)*7919+11)*48271)%2147483647=y at c1 c2;refine⟨_,rfl,_,rfl,_,_,rfl,rfl,.inl ⟨by lia,by lia⟩,_,_,rfl,rfl,(by show(0:Int)<2147483587;decide),?_⟩
  dsimp only;generalize y*y%2147483587=z;refine⟨_,rfl,_,rfl,_,_,rfl,rfl,.inr ⟨by decide,by decide⟩,_,_,rfl,rfl,_,_,rfl,rfl,.inr ⟨by decide,by decide⟩,_,_,rfl,rfl,(by show(0:Int)<2147483629;decide),_,_,rfl,rfl,⟨by decide,by decide⟩,_,rfl,_,_,rfl,rfl,(by lia),?_⟩
  exact q _ g _ (Y0 _ (by lia)) (V5 _ (by lia)) l k1
theorem sc_Lsome_needs:FnScope ["_law_state","_law_k","_law_found","_law_turn","_law_far"] ["_law_state","_law_k"] (qA8 qDI):=qBO
theorem ok_Lsome_needs (F:Fun K "_law_some_needs" "_law_some_needs" qDI f fd) (qB0:Clb P w K mg base 1 qFS qG9 "_law_take" ["_law_state","_law_many"] qJ9)
  (ae:mg "range" = none) (qKT:mg "min" = none) (ab:mg "tuple" = none) (qBG:mg "sorted" = none) (aj:mg "set" = none):FnOk P w K mg base CX0 2 f fd ["_law_state","_law_k"] qPS:=by
 refine F.okA sc_Lsome_needs λao A ac s H vs Q E hr h=>?_;obtain⟨d,c,t,ns,k,rfl,S,ht,am,ap,q⟩:=h;have an:t<=1000000000-20:=ht;have aq:Room 1 _:=hr;refine⟨_,(qA4 (qAF (i:=2) sc_Lsome_needs.nd rfl (E9 rfl) (qBX qA3)) (qA4 (qC8 F1 rfl (qBT rfl ae (qA0 (qAL qB0 hr rfl (qA0 (pv 0) (qA0 qA9 qA3))) qA3)) (qAW (i:=3) sc_Lsome_needs.nd rfl (E9 rfl)) (qA4 (qAF (i:=4) sc_Lsome_needs.nd rfl (E9 rfl) (qBY qES (qBX (qA0 (qAC (qKN rfl) rfl qKT qP8 (qA0 (pv 1) (qA0 qA9 qA3))) (qA0 (pv 1) qA3))) (qAP qQ6 (qAL qB0 hr rfl (qA0 (pv 0) (qA0 qA9 qA3))) qA9) (λ_ _=>rfl))) (qA6 (qCL (qAU qZ2 (pv 1) qA9 (qBF _)) (qA6 (qEE (qOE J2 L9 M0 qD2 (pv 2) (qA0 (qAP qDD (qAP qDD (pv 1) qA9) (qAL qB0 hr rfl (qA0 (pv 0) (qA0 (pv 4) qA3)))) qA3)))) qAV)))) (qA6 (qAK (qAB qAE rfl ab qAQ (qA0 (qAC (qEC rfl) rfl qBG qD4 (qA0 (qAB (qKM rfl) rfl aj qSQ (qA0 (pv 2) qA3)) qA3)) qA3)))))),?_⟩
 try dsimp only[Cx.nox,Cx.wish,cxOf]
 refine⟨(by show 0<=B62;decide),λl g=>?_⟩
 have S1:=S.new g (.lst []);have nd:l≠d:=(qA5 S.dict g).symm;have nc:l≠c:=(qA5 S.list g).symm;refine⟨_,rfl,d,c,t,ns,5,rfl,S1,(by show t<=1000000000;lia),by decide,by decide,λj ai H1 j0 j5 S2 K2=>?_⟩
 refine ⟨j,rfl,by lia,by lia,qK8 (lo:=0) (n:=j.toNat) (fun i σ Hc=>∃ (t':Int) (ms fs:List Int) (v1 v2:Option V),σ=[some (.ref d),some (.int k),some (.ref l),v1,v2]/\StAt Hc d c t' ms/\t<=t'/\t'<=t+1+2 * i/\Keep d c H Hc/\
  Hc l=some (.lst (fs.map V.int))/\fs.length<=i/\∀x∈fs,0<=x/\x<k)
  ⟨t+1,ai,[],none,none,rfl,S2,by lia,by lia,(qCC g _).trans K2,K2 _ _ qA1 nd nc,A7 _,λ_ z=>nomatch z⟩ ?_ ?_⟩
 ·refineλi σ Hc hi a7=>opq λas a5=>?_;obtain⟨t',ms,fs,v1,v2,rfl,v,a1,a2,K3,h3,l3,m3⟩:=a7;refine a5 ?_;have al:(i:Int)<5:=by lia
  -- far
  refine⟨_,rfl,k,4,rfl,_,rfl,(by show 2<=B62;decide),λp m=>?_⟩
  have S4:=v.new m (.lst [.int (if(4:Int)<k then 4 else k),.int k])
  have aa:p≠d:=(qA5 v.dict m).symm;have ad:p≠c:=(qA5 v.list m).symm;refine⟨_,rfl,d,c,t',ms,4,rfl,S4,(by show t'<=1000000000;lia),by decide,by decide,λk2 a6 H2 g0 g4 S5 K5=>?_⟩
  obtain⟨far,a8,ef⟩:=qfU (a:=if(4:Int)<k then 4 else k) (b:=k) g0 g4
  have ak:far<=k:=by rcases ef with e|e<;>(subst e;first|lia|(split<;>lia))
  have a3:0<k->1<=far:=λhk=>by rcases ef with e|e<;>(subst e;first|lia|(split<;>lia))
  refine⟨_,_,rfl,rfl,⟨by decide,by decide⟩,p,_,_,_,rfl,rfl,Ab2 (K5 _ _ qA1 aa ad),a8,?_⟩
  have K6:=K3.trans ((qCC (d:=d) (c:=c) m (.lst [.int (if(4:Int)<k then 4 else k),.int k])).trans K5)
  have h6:H2 l=some (.lst (fs.map V.int)):=K5 _ _ (by rw[qA7 (qA5 h3 m)];exact h3) nd nc
  refine⟨_,rfl,_,_,rfl,rfl,_,rfl,?_⟩;refine ite2 (λck=>?_) (λck=>?_)
  ·have hk:0<k:=of_decide_eq_true ck;refine⟨_,rfl,.inl ⟨rfl,_,Ab2 h6⟩,_,rfl,_,_,rfl,rfl,_,rfl,_,rfl,d,c,t'+1,a6,far,rfl,S5,(by show t'+1<=1000000000;lia),a3 hk,by lia,λk3 u H3 c0 c1 y K7=>?_⟩
   have h7:=K7 _ _ h6 nd nc;refine⟨_,_,rfl,rfl,l,_,_,rfl,rfl,h7,qAI (by rw[A0];lia),?_⟩
   have S8:StAt (Ag H3 l (.lst (fs.map V.int++[.int (k-1-k3)]))) d c (t'+1+1) u:=⟨by rw[qA7 (F6 nd)];exact y.dict,by rw[qA7 (F6 nc)];exact y.list,y.ne,y.len,y.pos⟩
   have hH:H l=none:=g;refine⟨t'+1+1,u,fs++[k-1-k3],_,_,rfl,S8,by lia,by lia,λb o e n1 n2=>?_,?_,?_,λx hx=>?_⟩
   ·rw[qA7 (qA5 e hH)];exact(K6.trans K7) b o e n1 n2
   ·rw[qA1,C1];rfl
   ·rw[A9,B9];lia
   ·rcases B8.mp hx with hx|hx
    ·exact m3 x hx
    ·rw[A6.mp hx];lia
  ·exact⟨t'+1,a6,fs,_,_,rfl,S5,by lia,by lia,K6,h6,by lia,m3⟩
 ·refineλσ Hc a4=>opq λar a0=>?_;obtain⟨t',ms,fs,v1,v2,rfl,v,a1,a2,K3,h3,l3,m3⟩:=a4;refine a0 ?_;refine⟨_,rfl,l,fs,rfl,Ab2 h3,by lia,λa ha=>?_⟩
  have ag:=qA2 ha (SetM w a (dedI fs));refine⟨a,dedI fs,rfl,qA1,T4 (qIT fs) (by lia),λb zs hb m hs=>?_⟩
  have af:=ag.trans (qA2 hb (.lst (zs.map V.int)));refine⟨b,_,rfl,.inl ⟨Ab2 qA1,λr ah=>?_⟩⟩;have a9:=af.trans (qA2 ah (.tup (zs.map V.int)));exact q r zs t' ms _ (v.same a9) (by lia) (by lia) (K3.trans (.of_same a9)) qA1 (qIN m hs m3)
theorem sc_Ltree_net:FnScope ["_law_state","_law_many","_law_open_ones","_law_found","_law_k","_law_so_many"] ["_law_state","_law_many"] (qA8 qER):=qBO
theorem ok_Ltree_net (F:Fun K "_law_tree_net" "_law_tree_net" qER f fd) (qB0:Clb P w K mg base 1 qFS qG9 "_law_take" ["_law_state","_law_many"] qJ9)
  (an:mg "range" = none) (qKT:mg "min" = none) (a5:mg "tuple" = none) (qBK:mg "len" = none):FnOk P w K mg base CX0 2 f fd ["_law_state","_law_many"] qPR:=by
 refine F.okA sc_Ltree_net λay A aj s H vs Q E hr h=>?_;obtain⟨d,c,t,ns,m,rfl,S,ht,aw,au,q⟩:=h;have ax:t<=1000000000-1000:=ht;have b0:Room 1 _:=hr;refine⟨_,(qA4 (qAF (i:=2) sc_Ltree_net.nd rfl (E9 rfl) (qBX qA3)) (qA4 (qAF (i:=3) sc_Ltree_net.nd rfl (E9 rfl) (qBX qA3)) (qA4 (qC8 F1 rfl (qBT rfl an (qA0 (qAP qDD (pv 1) qA9) qA3)) (qAW (i:=4) sc_Ltree_net.nd rfl (E9 rfl)) (qA4 (qAF (i:=5) sc_Ltree_net.nd rfl (E9 rfl) (qAC (qKN rfl) rfl qKT qP8 (qA0 (qAC qAA rfl qBK qBR (qA0 (pv 2) qA3)) (qA0 (qBY qES (qBX (qA0 qA9 (qA0 qA9 (qA0 qA9 (qA0 qA9 (qA0 qA9 (qA0 qA9 qA3))))))) (qAL qB0 hr rfl (qA0 (pv 0) (qA0 qA9 qA3))) (λ_ _=>rfl)) qA3)))) (qA4 (qEE (qOE J2 L9 M0 qD2 (pv 3) (qA0 (qAB qAE rfl a5 qAQ (qA0 (qG4 qPW (pv 2) (qHK (qAP qDD (qAC qAA rfl qBK qBR (qA0 (pv 2) qA3)) (pv 5))) qHL) qA3)) qA3))) (qA6 (qAF (i:=2) sc_Ltree_net.nd rfl (E9 rfl) (qAP qLR (qG4 qPW (pv 2) qHL (qHK (qAP qDD (qAC qAA rfl qBK qBR (qA0 (pv 2) qA3)) (pv 5)))) (qBX (qA0 (pv 4) qA3)))))))) (qA6 (qAK (qAB qAE rfl a5 qAQ (qA0 (qAP qLR (pv 3) (qBX (qA0 (qAB qAE rfl a5 qAQ (qA0 (pv 2) qA3)) qA3))) qA3))))))),?_⟩
 try dsimp only[Cx.nox,Cx.wish,cxOf]
 refine⟨(by show 0<=B62;decide),λo0 a3=>?_⟩
 have S1:=S.new a3 (.lst []);refine⟨(by show 0<=B62;decide),λg x=>?_⟩
 have S2:=S1.new x (.lst []);have nd:g ≠ d:=(qA5 S1.dict x).symm;have nc:g ≠ c:=(qA5 S1.list x).symm;have ae:o0 ≠ g:=qA5 qA1 x;have hF:H g=none:=(qA2 a3 _).free x;refine ⟨_,rfl,_,_,rfl,rfl,m - 1,rfl,by lia,by lia,qK8 (lo:=0) (n:=(m - 1).toNat) (fun i σ Hc=>∃ (t':Int) (ms os:List Int) (o:Addr) (rs:List Addr) (Ae:Aa0) (v1 v2:Option V),σ=[some (.ref d),some (.int m),some (.ref o),some (.ref g),v1,v2]/\StAt Hc d c t' ms/\t<=t'/\t'<=t+i/\Keep d c H Hc/\
  Hc o=some (.lst (os.map V.int))/\(o≠g/\o≠c)/\Hc g=some (.lst (rs.map V.ref))/\NetL Hc rs Ae/\Ae.length=i/\WFn Ae/\Rise (i:Int) os/\Opens Ae os)
  ⟨t,ns,[],o0,[],[],none,none,rfl,S2,by lia,by lia,(qCC a3 _).trans (qCC x _),by rw[qA7 ae];exact qA1,⟨ae,(qA5 S.list a3).symm⟩,qA1,.nil,rfl,WFn.nil,Rise.nil,Opens.nil⟩ ?_ ?_⟩
 ·refineλi σ Hc hi af=>opq λaz a9=>?_;obtain⟨t',ms,os,o,rs,Ae,v1,v2,rfl,S3,a1,a2,K3,h3,⟨n3,ad⟩,f3,N3,l3,w3,r3,a7⟩:=af;refine a9 ?_;have av:os.length<=i:=r3.len;refine⟨_,rfl,o,_,rfl,.inl (Ab2 h3),(by show 6<=B62;decide),λp hp=>?_⟩
  have S4:=S3.new hp (.lst [.int 0,.int 0,.int 1,.int 2,.int 2,.int 3]);have ag:p≠d:=(qA5 S3.dict hp).symm;have ak:p≠c:=(qA5 S3.list hp).symm;refine⟨_,rfl,d,c,t',ms,6,rfl,S4,(by show t'<=1000000000;lia),by decide,by decide,λk2 aa H2 g0 g6 S5 K5=>?_⟩
  obtain⟨v,hv,v0,v3⟩:=qfT g0 g6;refine⟨p,_,_,_,rfl,rfl,Ab2 (K5 _ _ qA1 ag ak),hv,?_⟩;have sm:Same Hc (Ag Hc p (.lst [.int 0,.int 0,.int 1,.int 2,.int 2,.int 3])):=qA2 hp _;have K6:=(Keep.of_same (d:=d) (c:=c) sm).trans K5;have al:o≠d:=qC6 h3 S3.dict (by intro z;cases z)
  have h6:H2 o=some (.lst (os.map V.int)):=K6 _ _ h3 al ad;have f6:H2 g=some (.lst (rs.map V.ref)):=K6 _ _ f3 nd nc;have N6:NetL H2 rs Ae:=N3.keep (λr zs e=>S3.tup e) K6;refine⟨_,_,rfl,?_⟩;dsimp only;have ah:0<=(if v<(((os.map V.int).length:Nat):Int) then v else(((os.map V.int).length:Nat):Int)):=by split<;>lia
  have ap:(if v<(((os.map V.int).length:Nat):Int) then v else(((os.map V.int).length:Nat):Int))<=(os.length:Int):=by rw[A0];split<;>lia
  generalize (if v<(((os.map V.int).length:Nat):Int) then v else(((os.map V.int).length:Nat):Int))=so at ah ap
  obtain⟨kk,ek⟩:∃kk:Nat,(os.length:Int)-so=(kk:Int):=⟨((os.length:Int)-so).toNat,by lia⟩
  have ab:(((os.map V.int).length:Nat):Int)-so=(kk:Int):=by rw[A0];exact ek
  have aq:kk<=os.length:=by lia
  -- found.append(tuple(open_ones[len(open_ones)-so_many:]))
  refine⟨_,rfl,.inl ⟨rfl,_,Ab2 f6⟩,_,rfl,_,rfl,o,_,rfl,.inl (Ab2 h6),_,rfl,_,_,rfl,rfl,_,rfl,o,_,rfl,Ab2 h6,λp1 ai=>?_⟩;refine⟨p1,_,rfl,.inl ⟨Ab2 qA1,λr a4=>?_⟩⟩;rw[ab,qNG,qXJ _ _ aq] at a4 ⊢;have l:=(qA2 ai (.lst ((os.drop kk).map V.int))).trans (qA2 a4 (.tup ((os.drop kk).map V.int)));have f7:=l _ _ f6;have h7:=l _ _ h6;have N7:NetL _ (rs++[r]) (Ae++[os.drop kk]):=qCT (N6.same λr zs e=>l _ _ e) (show(Ag (Ag H2 p1 (.lst ((os.drop kk).map V.int))) r (.tup ((os.drop kk).map V.int))) r=some (.tup ((os.drop kk).map V.int)) from qA1);have S7:=S5.same l;have K7:=K6.trans (.of_same l);generalize (Ag (Ag H2 p1 (.lst ((os.drop kk).map V.int))) r (.tup ((os.drop kk).map V.int)))=H7 at f7 h7 N7 S7 K7 ⊢;refine⟨g,_,_,rfl,rfl,f7,qAI (by rw[A0,NetAt.len N3];lia),?_⟩
  have e8:rs.map V.ref++[V.ref r]=(rs++[r]).map V.ref:=by rw[C1];rfl
  rw[e8];have S8:StAt (Ag H7 g (.lst ((rs++[r]).map V.ref))) d c (t'+1) aa:=⟨by rw[qA7 (F6 nd)];exact S7.dict,by rw[qA7 (F6 nc)];exact S7.list,S7.ne,S7.len,S7.pos⟩
  have h8:(Ag H7 g (.lst ((rs++[r]).map V.ref))) o=some (.lst (os.map V.int)):=by rw[qA7 n3];exact h7
  have N8:NetL (Ag H7 g (.lst ((rs++[r]).map V.ref))) (rs++[r]) (Ae++[os.drop kk]):=N7.same λr' zs e=>by rw[qA7 (qC6 e f7 (by intro z;cases z))];exact e
  have K8:Keep d c H (Ag H7 g (.lst ((rs++[r]).map V.ref))):=λb u e n1 n2=>by rw[qA7 (qA5 e hF)];exact(K3.trans K7) b u e n1 n2
  have f8:(Ag H7 g (.lst ((rs++[r]).map V.ref))) g=some (.lst ((rs++[r]).map V.ref)):=qA1;generalize Ag H7 g (.lst ((rs++[r]).map V.ref))=H8 at S8 h8 N8 K8 f8 ⊢
  -- open_ones=open_ones[:len(open_ones)-so_many]+[k]
  refine⟨_,rfl,_,rfl,o,_,rfl,.inl (Ab2 h8),_,rfl,_,_,rfl,rfl,_,rfl,o,_,rfl,Ab2 h8,λp2 y=>?_⟩;rw[ab,qNG,qcX];refine⟨_,rfl,(by show 1<=B62;decide),λp3 a0=>?_⟩
  have ao:p2≠p3:=qA5 qA1 a0;refine⟨p2,p3,_,_,rfl,rfl,by rw[qA7 ao];exact qA1,qA1,V2 (qAI (by rw[A0,C8,B9];lia)),λp4 a6=>?_⟩
  have j:=((qA2 y (.lst ((os.take kk).map V.int))).trans (qA2 a0 (.lst [.int (0+(i:Int))]))).trans (qA2 a6 (.lst ((os.take kk).map V.int++[.int (0+(i:Int))])));have e9:(os.take kk).map V.int++[V.int (0+(i:Int))]=(os.take kk++[(i:Int)]).map V.int:=by rw[C1,B06];rfl
  have am:p4≠g:=(qA5 ((qA2 a0 _) _ _ ((qA2 y _) _ _ f8)) a6).symm;have ar:p4≠c:=(qA5 ((qA2 a0 _) _ _ ((qA2 y _) _ _ S8.list)) a6).symm;refine⟨t'+1,aa,os.take kk++[(i:Int)],p4,rs++[r],Ae++[os.drop kk],_,_,rfl,S8.same j,by lia,by lia,K8.trans (.of_same j),by rw[<- e9];exact qA1,⟨am,ar⟩,j _ _ f8,N8.same λr' zs e=>j _ _ e,by rw[A9,B9,l3],w3.snoc ?_,?_,?_⟩
  ·rw[l3];exact r3.sub (A02 _ _)
  ·have:=(r3.sub (Y2 kk os)).snoc (by lia)
   rw[show((i+1:Nat):Int)=(i:Int)+1 by lia]
   exact this
  ·have:=a7.step (kk:=kk) w3 (by rw[l3];exact r3)
   rw[l3] at this;exact this
 ·refineλσ Hc a8=>opq λas ac=>?_;obtain⟨t',ms,os,o,rs,Ae,v1,v2,rfl,S3,a1,a2,K3,h3,⟨n3,ad⟩,f3,N3,l3,w3,r3,a7⟩:=a8;refine ac ?_;refine⟨_,rfl,_,rfl,o,_,rfl,.inl ⟨Ab2 h3,λr a4=>?_⟩⟩;refine⟨(by show 1<=B62;decide),λp hp=>?_⟩
  have l:=(qA2 a4 (.tup (os.map V.int))).trans (qA2 hp (.lst [.ref r]));refine⟨g,p,_,_,rfl,rfl,l _ _ f3,qA1,V2 (qAI (by rw[A0,NetAt.len N3,B9];lia)),λp2 y=>?_⟩
  refine⟨p2,_,rfl,.inl ⟨Ab2 qA1,λa ha=>?_⟩⟩;have j:=(l.trans (qA2 y (.lst (rs.map V.ref++[.ref r])))).trans (qA2 ha (.tup (rs.map V.ref++[.ref r])));have gr:=(qA2 ha (.tup (rs.map V.ref++[.ref r]))) _ _ ((qA2 y (.lst (rs.map V.ref++[.ref r]))) _ _ ((qA2 hp (.lst [.ref r])) r _ (qA1 (H:=Hc) (o:=.tup (os.map V.int)))));have e8:rs.map V.ref++[V.ref r]=(rs++[r]).map V.ref:=by rw[C1];rfl
  refine q a (Ae++[os]) t' ms _ (S3.same j) (by lia) (by lia) (K3.trans (.of_same j)) ⟨rs++[r],by rw[<- e8];exact qA1,qCT (N3.same λr' zs e=>j _ _ e) gr⟩ (w3.snoc (by rw[l3];exact r3)) ?_ ?_
  ·rw[A9,B9,l3]
   lia
  ·exact(a7.step (kk:=0) w3 (by rw[l3];exact r3)).1
theorem sc_Lnet:FnScope ["_law_state","_law_many","_law_way","_law_wide","_law_some","_law_half"] ["_law_state","_law_many"] (qA8 qRQ):=qBO
theorem ok_Lnet (F:Fun K "_law_net" "_law_net" qRQ f fd) (qB0:Clb P w K mg base 1 qFS qG9 "_law_take" ["_law_state","_law_many"] qJ9)
  (bt:Clb P w K mg base 2 qF0 qL9 "_law_some_needs" ["_law_state","_law_k"] qPS)
  (qCN:Clb P w K mg base 2 qEZ qI5 "_law_tree_net" ["_law_state","_law_many"] qPR)
  (ag:mg "range" = none) (cj:mg "max" = none) (qUF:mg "int" = none) (qBD:mg "enumerate" = none) (aa:mg "tuple" = none) (qBG:mg "sorted" = none) (ci:mg "set" = none):FnOk P w K mg base CX0 3 f fd ["_law_state","_law_many"] qdM:=by
 refine F.okA sc_Lnet λcz A c3 s H vs Q E hr h=>?_;obtain⟨d,c,t,ns,m,rfl,S,ht,c5,c0,q⟩:=h;have cw:t<=1000000000-10000:=ht;have d7:Room 2 _:=hr;have cv:Room 2 _:=hr;refine⟨_,(qA4 (qAF (i:=2) sc_Lnet.nd rfl (E9 rfl) (qAL qB0 hr rfl (qA0 (pv 0) (qA0 qA9 qA3)))) (qA4 (qAF (i:=3) sc_Lnet.nd rfl (A30 rfl) (qAP qD1 qA9 (qAL qB0 hr rfl (qA0 (pv 0) (qA0 qA9 qA3))))) (qA4 (qCL (qAU qMU (pv 2) qA9 (qBF _)) (qA6 (qAK (qAB qAE rfl aa qAQ (qA0 (qEJ rfl (lcs (own:=["_law_k"]) (fv:=[3]) (by kernel_rfl)) (qBT rfl ag (qA0 (pv 1) qA3)) (λz1=>qC0 0) (λz1=>qBI) (λz1=>(qAB (qLE rfl) rfl aa qAQ (qA0 (qAB qXN rfl ag qa8 (qA0 (qAC (qXP rfl) rfl cj qP9 (qA0 qA9 (qA0 (qAP qDD (pv 0) (pv 1)) qA3))) (qA0 (pv 0) qA3))) qA3)))) qA3)))) qAV) (qA4 (qCL (qAU qMU (pv 2) qA9 (qBF _)) (qA4 (qOA (i:=4) sc_Lnet.nd rfl rfl rfl (lcs (own:=["_law_k"]) (fv:=[3]) (by kernel_rfl)) (qBT rfl ag (qA0 (pv 1) qA3)) (λz2=>qC0 0) (λz2=>qBI) (λz2=>(qAP qLR (qAP qS3 (qBX (qA0 (qAP qDD (pv 0) (pv 1)) qA3)) (qAB qKO rfl qUF qXR (qA0 (qHM qc3 (pv 0) (pv 1) (qBF _)) qA3))) (qAP qS3 (qBX (qA0 (qAP qDD (pv 0) qA9) qA3)) (qAB qKO rfl qUF qXR (qA0 (qHM qZ2 (qAP qJQ (pv 0) (pv 1)) qA9 (qBF _)) qA3))))) (by kernel_rfl)) (qA6 (qAK (qAB qAE rfl aa qAQ (qA0 (qEJ rfl (lcs (own:=["_law_needs"]) (fv:=[]) (by kernel_rfl)) (qDT (pv 4)) (λz3=>qC0 0) (λz3=>qBI) (λz3=>(qAB (qKK (K:=K) rfl) rfl aa qAQ (qA0 (qAC (qNI (w:=w) rfl rfl) rfl qBG qD4 (qA0 (qAB (qU5 (K:=K) (w:=w) rfl rfl rfl) rfl ci qSQ (qA0 (pv 0) qA3)) qA3)) qA3)))) qA3))))) qAV) (qA4 (qCL (qAU qMU (pv 2) qA9 (qBF _)) (qA6 (qAK (qAL qCN hr rfl (qA0 (pv 0) (qA0 (pv 1) qA3))))) qAV) (qA4 (qCL (qAU qMU (pv 2) qA9 (qBF _)) (qA4 (qAF (i:=5) sc_Lnet.nd rfl (A30 rfl) (qAP qQ6 (pv 1) qA9)) (qA4 (qOA (i:=4) sc_Lnet.nd rfl rfl rfl (lcs (own:=["_law_k"]) (fv:=[0,5]) (by kernel_rfl)) (qBT rfl ag (qA0 (pv 1) qA3)) (λz4=>qC0 0) (λz4=>qBI) (λz4=>(qAL bt hr rfl (qA0 (pv 1) (qA0 (qIO (qAU qOG (pv 0) (pv 2) (qBF _)) (pv 0) (qAP qDD (pv 0) (pv 2))) qA3)))) (by kernel_rfl)) (qA6 (qAK (qAB qAE rfl aa qAQ (qA0 (qEJ rfl (lcs (own:=["_law_k","_law_needs"]) (fv:=[5]) (by kernel_rfl)) (qMQ rfl qBD qD5 (qA0 (pv 4) qA3)) (λz5=>qMR (K:=K) (n:=2) rfl rfl (qBH (qC0 0) (qBH (qC0 1) qFE)) rfl rfl) (λz5=>qBI) (λz5=>(qIO (qAU qOG (pv 0) (pv 2) (qBF _)) (pv 1) (qAB (qKK (K:=K) rfl) rfl aa qAQ (qA0 (qEJ (X:=lcCx _ _ _ _ z5) rfl (lcs (own:=["_law_n"]) (fv:=[2]) (by kernel_rfl)) (qbW (K:=K) rfl (pv 1)) (λz6=>qC0 0) (λz6=>qBI) (λz6=>(qAP qD1 (pv 0) (pv 1)))) qA3))))) qA3)))))) qAV) (qA6 (qAK (qAB qAE rfl aa qAQ (qA0 (qEJ rfl (lcs (own:=["_law_k"]) (fv:=[0]) (by kernel_rfl)) (qBT rfl ag (qA0 (pv 1) qA3)) (λz7=>qC0 0) (λz7=>qBI) (λz7=>(qAL bt hr rfl (qA0 (pv 1) (qA0 (pv 0) qA3))))) qA3)))))))))),?_⟩
 try dsimp only[Cx.nox,Cx.wish,cxOf]
 refine cut λN1 cf=>?_;refine⟨_,rfl,d,c,t,ns,8,rfl,S,(by show t<=1000000000;lia),by decide,by decide,λcu ch H1 w0 w8 S1 K1=>?_⟩
 refine cf _ _ (cut λN2 ce=>?_);refine⟨_,rfl,d,c,t+1,ch,4,rfl,S1,(by show t+1<=1000000000;lia),by decide,by decide,λwd ai H2 d6 cx S2 K2=>⟨_,_,rfl,rfl,?_⟩⟩
 dsimp only;have ae:=K1.trans K2;generalize hwide:(1:Int)+wd=g;have cy:1<=g:=by lia
 have d3:g<=4:=by lia
 refine ce _ _ (cut λN3 cg=>?_);refine⟨_,rfl,rfl,_,rfl,?_⟩;refine ite2 (λ_=>?_) (λ_=>?_)
 ·refine⟨_,rfl,m,rfl,by lia,by lia,λp hp=>?_⟩
  refine qE8 (p:=p) (lo:=0) (n:=m.toNat) (λi σ u=>∃(v:Option V) (rs:List Addr) (Ae:Aa0),σ=[v,some (.int g)]/\Same H2 u/\u p=some (.lst (rs.map V.ref))/\NetL u rs Ae/\Ae.length=i/\WFn Ae) ?_ ?_ ?_
  ·exact⟨none,[],[],rfl,qA2 hp _,qA1,.nil,rfl,WFn.nil⟩
  ·refineλi σ u hi bj=>opq λd4 bi=>?_;obtain⟨v,rs,Ae,rfl,sm,o,N,hl,wf⟩:=bj;refine bi ?_;refine⟨_,rfl,_,rfl,_,_,rfl,rfl,0,_,rfl,_,rfl,_,_,rfl,λp1 b6=>?_⟩;refine⟨p1,_,_,rfl,qA1,by split<;>lia,by split<;>lia,by lia,by lia,λr a9=>?_⟩
   have c9:0<=(if(0+(i:Int))-g>0 then(0+(i:Int))-g else 0):=by split<;>lia
   have bn:=qJF (hi:=0+(i:Int)) c9;dsimp only;rw[qQ0];generalize qB8 (if(0+(i:Int))-g>0 then(0+(i:Int))-g else 0) (0+(i:Int))=l at bn ⊢
   generalize HO.rng (if(0+(i:Int))-g>0 then(0+(i:Int))-g else 0) (0+(i:Int))=ho at b6 a9 ⊢
   have s1:=(qA2 b6 ho).trans (qA2 a9 (.tup (l.map V.int)));have g1:=s1 _ _ o;refine⟨_,g1,qAI (by rw[A0,NetAt.len N];lia),?_⟩
   rw[qB4];refine⟨_,rs++[r],Ae++[l],rfl,qAD (sm.trans s1) hp,qA1,qE7 (qCT (N.same λr' ys e=>s1 _ _ e) qA1) g1,by rw[A9,B9,hl],wf.snoc ?_⟩
   rw[hl];exact bn.mono (by lia)
  ·refineλσ u bg=>opq λd1 b9=>?_;obtain⟨v,rs,Ae,rfl,sm,o,N,hl,wf⟩:=bg;refine b9 ?_;refine⟨p,_,rfl,.inl ⟨Ab2 o,λa ha=>?_⟩⟩;have s1:=qA2 ha (.tup (rs.map V.ref));exact q a Ae (t+1+1) ai _ (S2.same (sm.trans s1)) (by lia) (by lia) (ae.trans (.of_same (sm.trans s1))) ⟨rs,qA1,N.same λr ys e=>s1 _ _ e⟩ wf (by rw[hl];lia)
 refine cg _ _ (cut λN4 c7=>?_);refine⟨_,rfl,rfl,_,rfl,?_⟩;refine ite2 (λ_=>?_) (λ_=>?_)
 ·refine⟨_,rfl,m,rfl,by lia,by lia,λp hp=>?_⟩
  refine qE8 (p:=p) (lo:=0) (n:=m.toNat) (fun i σ u=>∃ (v:Option V) (rs:List Addr) (ls:Aa0),σ=[v,some (.int g)]/\Same H2 u/\u p=some (.lst (rs.map V.ref))/\Paired (fun r l=>r ≠ p/\u r=some (.lst (l.map V.int))) rs ls/\ls.length=i/\
   ∀(j:Nat) l,ls[j]?=some l->l.length<=2/\∀x∈l,0<=x/\x<(j:Int)) ?_ ?_ ?_
  ·exact⟨none,[],[],rfl,qA2 hp _,qA1,.nil,rfl,λj l e=>by simp at e⟩
  ·refineλi σ u hi bu=>opq λd0 ba=>?_;obtain⟨v,rs,ls,rfl,sm,o,N,hl,wf⟩:=bu;refine ba ?_;refine⟨_,rfl,_,rfl,_,_,rfl,rfl,(by show 1<=B62;decide),λa1 bw=>?_⟩
   refine⟨_,rfl,_,rfl,_,_,rfl,rfl,.inr ⟨_,rfl,?_⟩⟩;refine⟨a1,_,_,rfl,rfl,qA1,by split<;>decide,by split<;>decide,?_,λa2 c8=>?_⟩
   ·have:∀b:Bool,[V.int (0+(i:Int)-g)].length*(if b=true then(1:Int) else 0).toNat<=B62:=by intro b;cases b<;>simp[B64]
    exact this _
   dsimp only;rw[qdV];refine⟨_,rfl,_,_,rfl,rfl,(by show 1<=B62;decide),λa3 bf=>?_⟩
   refine⟨_,rfl,_,rfl,_,_,rfl,rfl,(by show 0<g;lia),_,_,rfl,rfl,.inr ⟨_,rfl,?_⟩⟩
   refine⟨a3,_,_,rfl,rfl,qA1,by split<;>decide,by split<;>decide,?_,λa4 bp=>?_⟩
   ·have:∀b:Bool,[V.int (0+(i:Int)-1)].length*(if b=true then(1:Int) else 0).toNat<=B62:=by intro b;cases b<;>simp[B64]
    exact this _
   dsimp only;rw[qdV];have b1:∀x∈(if decide (g<=0+(i:Int))=true then[0+(i:Int)-g] else[]),0<=x/\x<(i:Int):=by
    intro x hx
    split at hx
    ·rename_i hd
     have:=of_decide_eq_true hd;rw[A6.mp hx];lia
    ·cases hx
   have b2:∀x∈(if decide (0<(0+(i:Int))%g)=true then[0+(i:Int)-1] else[]),0<=x/\x<(i:Int):=by
    intro x hx
    split at hx
    ·rename_i hd
     have b8:=of_decide_eq_true hd;have:(i:Int)≠0:=by
      intro e;rw[e] at b8;simp at b8
     rw[A6.mp hx];lia
    ·cases hx
   have c1:(if decide (g<=0+(i:Int))=true then[0+(i:Int)-g] else[]).length<=1:=by split<;>simp
   have c2:(if decide (0<(0+(i:Int))%g)=true then[0+(i:Int)-1] else[]).length<=1:=by split<;>simp
   generalize (if decide (g<=0+(i:Int))=true then[0+(i:Int)-g] else[])=z1 at b1 c1 bf bp ⊢
   generalize (if decide (0<(0+(i:Int))%g)=true then[0+(i:Int)-1] else[])=z2 at b2 c2 ⊢
   have s2:=(qA2 bf (.lst [.int (0+(i:Int)-1)])).trans (qA2 bp (.lst (z2.map V.int)));refine⟨a2,a4,_,_,rfl,rfl,s2 _ _ qA1,qA1,V2 (qAI (by rw[A0,A0];lia)),λa5 bc=>?_⟩
   have s1:=(qA2 bw (.lst [.int (0+(i:Int)-g)])).trans (qA2 c8 (.lst (z1.map V.int)));have s3:=(s1.trans s2).trans (qA2 bc (.lst (z1.map V.int++z2.map V.int)));have e5:z1.map V.int++z2.map V.int=(z1++z2).map V.int:=by rw[C1]
   rw[e5] at s3 ⊢;have g1:=s3 _ _ o;have n5:a5≠p:=(qA5 ((s1.trans s2) _ _ o) bc).symm;refine⟨_,g1,qAI (by rw[A0,C2 N];lia),?_⟩
   rw[qB4];refine⟨_,rs++[a5],ls++[z1++z2],rfl,qAD (sm.trans s3) hp,qA1,U3 (qEK N λr l e=>⟨e.1,by rw[qA7 e.1];exact s3 _ _ e.2⟩) ⟨n5,by rw[qA7 n5];exact qA1⟩,by rw[A9,B9,hl],λj l e=>?_⟩
   rcases qRO e with e|⟨rfl,rfl⟩
   ·exact wf j l e
   ·rw[hl];refine⟨by rw[A9];lia,λx hx=>?_⟩
    rcases B8.mp hx with hx|hx
    ·exact b1 x hx
    ·exact b2 x hx
  ·refineλσ u b7=>opq λcr bo=>?_;obtain⟨v,rs,ls,rfl,sm,o,N,hl,wf⟩:=b7;refine bo ?_;refine⟨_,rfl,p,rfl,⟨_,Ab2 o⟩,λp' ac=>?_⟩;refine qHU (p:=p') (a:=p) (xs:=rs.map V.ref) (λi σ Hd=>∃(v:Option V) (rs':List Addr) (Ae:Aa0),σ=[v]/\Same u Hd/\Hd p'=some (.lst (rs'.map V.ref))/\NetL Hd rs' Ae/\Ae.length=i/\WFn Ae) ?_ ?_ ?_ ?_
   ·exact⟨none,[],[],rfl,qA2 ac _,qA1,.nil,rfl,WFn.nil⟩
   ·rintro i σ Hd hi ⟨v,rs',Ae,rfl,sm2,_⟩;exact Ab2 (sm2 _ _ o)
   ·refineλi x σ Hd hx bb=>opq λd2 bd=>?_;obtain⟨v,rs',Ae,rfl,sm2,ab,N2,a0,a8⟩:=bb;obtain⟨r,a9,rfl⟩:=qEG hx;obtain⟨l,hz,_,ar⟩:=qAY N a9;obtain⟨l2,m2⟩:=wf i l hz;refine bd ?_;refine⟨_,rfl,r,l,rfl,Ab2 (sm2 _ _ ar),by lia,λa ha=>?_⟩
    refine⟨a,dedI l,rfl,qA1,T4 (qIT l) (by lia),λb ys hb ca hs=>?_⟩
    refine⟨b,_,rfl,.inl ⟨Ab2 qA1,λr2 aw=>?_⟩⟩;have s1:=((qA2 ha (SetM w a (dedI l))).trans (qA2 hb (.lst (ys.map V.int)))).trans (qA2 aw (.tup (ys.map V.int)));have g1:=s1 _ _ ab;have cc:rs.length=m.toNat:=by rw[C2 N,hl]
    have hi:i<rs.length:=(A5.mp a9).1;refine⟨_,g1,qAI (by rw[A0,NetAt.len N2];lia),?_⟩
    rw[qB4];refine⟨_,rs'++[r2],Ae++[ys],rfl,qAD (sm2.trans s1) ac,qA1,qE7 (qCT (N2.same λr' bs e=>s1 _ _ e) qA1) g1,by rw[A9,B9,a0],a8.snoc ?_⟩
    rw[a0];exact qIN ca hs m2
   ·refineλσ Hd br=>opq λcs be=>?_;obtain⟨v,rs',Ae,rfl,sm2,ab,N2,a0,a8⟩:=br;refine be ?_;refine⟨p',_,rfl,.inl ⟨Ab2 ab,λa ha=>?_⟩⟩;have s1:=qA2 ha (.tup (rs'.map V.ref));refine q a Ae (t+1+1) ai _ (S2.same ((sm.trans sm2).trans s1)) (by lia) (by lia) (ae.trans (.of_same ((sm.trans sm2).trans s1))) ⟨rs',qA1,N2.same λr ys e=>s1 _ _ e⟩ a8 ?_
    rw[a0,A0,C2 N,hl]
    lia
 refine c7 _ _ (cut λN5 cb=>?_);refine⟨_,rfl,rfl,_,rfl,?_⟩;refine ite2 (λ_=>?_) (λ_=>?_)
 ·refine⟨_,rfl,_,rfl,d,c,t+1+1,ai,m,rfl,S2,?_,c5,c0,λa Ae t' ms H' a1 a2 a3 a4 a5 a6 a7 _=>?_⟩
  ·show t+1+1<=1000000000-1000;lia
  ·exact q a Ae t' ms H' a1 (by lia) (by lia) (ae.trans a4) a5 a6 a7
 refine cb _ _ (cut λN6 bx=>?_);refine⟨_,rfl,rfl,_,rfl,?_⟩;refine ite2 (λ_=>?_) (λ_=>?_)
 ·refine⟨_,rfl,_,_,rfl,rfl,⟨by decide,by decide⟩,?_⟩
  dsimp only;have bk:0<=m/2:=by lia
  have cd:m/2<=m:=by lia
  generalize m/2=k at bk cd;refine⟨_,rfl,m,rfl,by lia,by lia,λp hp=>?_⟩
  refine qE8 (p:=p) (lo:=0) (n:=m.toNat) (fun i σ u=>∃ (v:Option V) (t':Int) (ms:List Int) (rs:List Addr) (Ae:Aa0),σ=[v,some (.ref d),some (.int k)]/\StAt u d c t' ms/\t+2<=t'/\t'<=t+2+9 * i/\Keep d c H2 u/\u p=some (.lst (rs.map V.ref))/\NetL u rs Ae/\Ae.length=i/\
   ∀(j:Nat) l,Ae[j]?=some l->Rise (if(j:Int)<k then(j:Int) else(j:Int)-k) l) ?_ ?_ ?_
  ·exact⟨none,t+1+1,ai,[],[],rfl,S2.new hp _,by lia,by lia,qCC hp _,qA1,.nil,rfl,λj l e=>by simp at e⟩
  ·refine fun i σ u hi bv=>opq fun ct bl=>?_;obtain ⟨v,t',ms,rs,Ae,rfl,S3,b1,b2,k3,o,N,hl,wf⟩:=bv;refine bl ?_;have ad:p ≠ d:=(qA5 S2.dict hp).symm;have af:p ≠ c:=(qA5 S2.list hp).symm;have nx:∀ (kk:Int),kk=(if (i:Int)<k then (i:Int) else (i:Int) - k)->qPS [.ref d,.int kk] u (fun y H4=>∃ ys,H4 p=some (.lst ys)/\ys.length<B62/\∃ (v:Option V) (t':Int) (ms:List Int) (rs:List Addr) (Ae:Aa0),[some (V.int (0+(i:Int))),some (.ref d),some (.int k)]=[v,some (.ref d),some (.int k)]/\StAt (Ag H4 p (.lst (ys++[y]))) d c t' ms/\t+2<=t'/\t'<=t+2+9 * (i+1:Nat)/\Keep d c H2 (Ag H4 p (.lst (ys++[y])))/\(Ag H4 p (.lst (ys++[y]))) p=some (.lst (rs.map V.ref))/\NetL (Ag H4 p (.lst (ys++[y]))) rs Ae/\Ae.length=i+1/\
     ∀(j:Nat) l,Ae[j]?=some l->Rise (if(j:Int)<k then(j:Int) else(j:Int)-k) l) E0:=by
    intro kk ek;refine⟨d,c,t',ms,kk,rfl,S3,(by show t'<=1000000000-20;lia),by rw[ek];split<;>lia,by rw[ek];split<;>lia,λr l an ay H3 e1 e2 e3 e4 e5 e6=>?_⟩
    have g1:=e4 _ _ o ad af;refine⟨_,g1,qAI (by rw[A0,NetAt.len N];lia),?_⟩
    rw[qB4];refine⟨_,an,ay,rs++[r],Ae++[l],rfl,⟨by rw[qA7 (F6 ad)];exact e1.dict,by rw[qA7 (F6 af)];exact e1.list,e1.ne,e1.len,e1.pos⟩,by lia,by lia,qH0 (k3.trans e4) hp,qA1,qE7 (qCT (N.keep (λr ys e=>S3.tup e) e4) e5) g1,by rw[A9,B9,hl],λj ys e=>?_⟩
    rcases qRO e with e|⟨rfl,rfl⟩
    ·exact wf j ys e
    ·rw[hl,<- ek];exact e6
   refine⟨_,rfl,_,rfl,_,rfl,_,_,rfl,rfl,_,rfl,?_⟩;refine ite2 (λck=>?_) (λck=>?_)
   ·have ah:0+(i:Int)<k:=of_decide_eq_true ck;exact⟨_,rfl,nx _ (by rw[if_pos (by lia)];lia)⟩
   ·have ah:¬0+(i:Int)<k:=of_decide_eq_false (R8.mpr ck);exact⟨_,rfl,_,rfl,_,_,rfl,rfl,nx _ (by rw[if_neg (by lia)];lia)⟩
  ·refineλσ u bh=>opq λd5 bq=>?_;obtain⟨v,t',ms,rs,Ae,rfl,S3,b1,b2,k3,o,N,hl,wf⟩:=bh;refine bq ?_;have cc:rs.length=m.toNat:=by rw[C2 N,hl]
   refine⟨_,rfl,p,rfl,⟨_,Ab2 o⟩,λp' ac=>?_⟩;refine qQL (p:=p') (a:=p) (xs:=rs.map V.ref) (λi σ Hd=>∃(v1 v2:Option V) (rs':List Addr) (net':Aa0),σ=[v1,v2,some (.int k)]/\Same u Hd/\Hd p'=some (.lst (rs'.map V.ref))/\NetL Hd rs' net'/\net'.length=i/\WFn net') ?_ ?_ ?_ ?_
   ·exact⟨none,none,[],[],rfl,qA2 ac _,qA1,.nil,rfl,WFn.nil⟩
   ·rintro i σ Hd hi ⟨v1,v2,rs',net',rfl,sm2,_⟩;exact Ab2 (sm2 _ _ o)
   ·refineλi x σ Hd T hx b0 hT=>opq λcl am=>?_;obtain⟨v1,v2,rs',net',rfl,sm2,ab,N2,a0,a8⟩:=b0;obtain⟨r,a9,rfl⟩:=qEG hx;obtain⟨l,hz,ar⟩:=qAY N a9;refine am ?_;have hi:i<rs.length:=(A5.mp a9).1;have rz:=wf i l hz;have sT:=qA2 hT (.tup [.int (i:Int),.ref r]);have al:=sT _ _ (sm2 _ _ ar);have aj:=sT _ _ ab;have NT:=N2.same λr' bs e=>sT _ _ e;have b5:=sm2.trans sT;have gT:SqT K (Ag Hd T (.tup [.int (i:Int),.ref r])) T [.int (i:Int),.ref r]:=Ac0 qA1;generalize Ag Hd T (.tup [.int (i:Int),.ref r])=bz at al aj NT b5 gT ⊢;refine⟨T,_,rfl,gT,rfl,_,_,rfl,_,_,rfl,rfl,?_⟩;refine⟨_,rfl,_,rfl,_,_,rfl,rfl,_,rfl,?_⟩;refine ite2 (λck=>?_) (λck=>?_)
    ·have ah:(i:Int)<k:=of_decide_eq_true ck;rw[if_pos ah] at rz;refine⟨_,rfl,_,aj,qAI (by rw[A0,NetAt.len N2];lia),?_⟩
     rw[qB4];refine⟨_,_,rs'++[r],net'++[l],rfl,qAD b5 ac,qA1,qE7 (qCT NT al) aj,by rw[A9,B9,a0],a8.snoc ?_⟩
     rw[a0];exact rz
    ·have ah:¬(i:Int)<k:=of_decide_eq_false (R8.mpr ck);rw[if_neg ah] at rz;have lz:l.length<=i:=by
      have e:((i:Int)-k)=(((i:Int)-k).toNat:Nat):=by lia
      rw[e] at rz;have:=rz.len
      lia
     refine⟨_,rfl,r,rfl,⟨_,Ac0 al⟩,λp2 bm=>?_⟩;refine qFJ (p:=p2) (a:=r) (xs:=l.map V.int) (λj σ He=>∃(v:Option V),σ=[v,some (.int k)]/\Same bz He/\He p2=some (.lst (((l.take j).map (·+k)).map V.int))) ?_ ?_ ?_ ?_
     ·exact⟨none,rfl,qA2 bm _,qA1⟩
     ·rintro j σ He hj ⟨v,rfl,sm3,_⟩;exact Ac0 (sm3 _ _ al)
     ·refineλj x σ He c6 ao=>opq λcp ax=>?_;obtain⟨v,rfl,sm3,ak⟩:=ao;obtain⟨z,c4,rfl⟩:=qB5 c6;refine ax ?_;refine⟨_,rfl,_,rfl,_,_,rfl,rfl,_,ak,qAI (by rw[A0,A0,C8];lia),_,rfl,qAD sm3 bm,?_⟩
      rw[qA1,D3,c4,D5,C1,C1]
      rfl
     ·refineλσ He az=>opq λcn as=>?_;obtain⟨v,rfl,sm3,ak⟩:=az;refine as ?_;rw[A0,E3 (A7 _)] at ak;refine⟨p2,_,rfl,.inl ⟨Ab2 ak,λr2 aw=>?_⟩⟩;have s1:=qA2 aw (.tup ((l.map (·+k)).map V.int));have s2:=sm3.trans s1;have g1:=s2 _ _ aj;refine⟨_,g1,qAI (by rw[A0,NetAt.len N2];lia),?_⟩
      rw[qB4];refine⟨_,_,rs'++[r2],net'++[l.map (·+k)],rfl,qAD (b5.trans s2) ac,qA1,qE7 (qCT (NT.same λr' bs e=>s2 _ _ e) qA1) g1,by rw[A9,B9,a0],a8.snoc ?_⟩
      rw[a0];have:=rz.shift bk;rw[show(i:Int)-k+k=(i:Int) by lia] at this
      exact this
   ·refineλσ Hd ap=>opq λcm av=>?_;obtain⟨v1,v2,rs',net',rfl,sm2,ab,N2,a0,a8⟩:=ap;refine av ?_;refine⟨p',_,rfl,.inl ⟨Ab2 ab,λa ha=>?_⟩⟩;have s1:=qA2 ha (.tup (rs'.map V.ref));refine q a net' t' ms _ (S3.same (sm2.trans s1)) (by lia) (by lia) (ae.trans (k3.trans (.of_same (sm2.trans s1)))) ⟨rs',qA1,N2.same λr ys e=>s1 _ _ e⟩ a8 ?_
    rw[a0,A0,C2 N,hl]
    lia
 refine bx _ _ ?_;refine⟨_,rfl,m,rfl,by lia,by lia,λp hp=>?_⟩
 refine qE8 (p:=p) (lo:=0) (n:=m.toNat) (λi σ u=>∃(v:Option V) (t':Int) (ms:List Int) (rs:List Addr) (Ae:Aa0),σ=[v,some (.ref d)]/\StAt u d c t' ms/\t+2<=t'/\t'<=t+2+9*i/\Keep d c H2 u/\u p=some (.lst (rs.map V.ref))/\NetL u rs Ae/\Ae.length=i/\WFn Ae) ?_ ?_ ?_
 ·exact⟨none,t+1+1,ai,[],[],rfl,S2.new hp _,by lia,by lia,qCC hp _,qA1,.nil,rfl,WFn.nil⟩
 ·refineλi σ u hi b4=>opq λco au=>?_;obtain⟨v,t',ms,rs,Ae,rfl,S3,b1,b2,k3,o,N,hl,wf⟩:=b4;refine au ?_;have ad:p≠d:=(qA5 S2.dict hp).symm;have af:p≠c:=(qA5 S2.list hp).symm;refine⟨_,rfl,_,rfl,d,c,t',ms,0+(i:Int),rfl,S3,(by show t'<=1000000000-20;lia),by lia,by lia,λr l an ay H3 e1 e2 e3 e4 e5 e6=>?_⟩
  have g1:=e4 _ _ o ad af;refine⟨_,g1,qAI (by rw[A0,NetAt.len N];lia),?_⟩
  rw[qB4];refine⟨_,an,ay,rs++[r],Ae++[l],rfl,⟨by rw[qA7 (F6 ad)];exact e1.dict,by rw[qA7 (F6 af)];exact e1.list,e1.ne,e1.len,e1.pos⟩,by lia,by lia,qH0 (k3.trans e4) hp,qA1,qE7 (qCT (N.keep (λr ys e=>S3.tup e) e4) e5) g1,by rw[A9,B9,hl],wf.snoc ?_⟩
  rw[hl];exact e6.mono (by lia)
 ·refineλσ u b3=>opq λcq aq=>?_;obtain⟨v,t',ms,rs,Ae,rfl,S3,b1,b2,k3,o,N,hl,wf⟩:=b3;refine aq ?_;refine⟨p,_,rfl,.inl ⟨Ab2 o,λa ha=>?_⟩⟩;have s1:=qA2 ha (.tup (rs.map V.ref));exact q a Ae t' ms _ (S3.same s1) (by lia) (by lia) (ae.trans (k3.trans (.of_same s1))) ⟨rs,qA1,N.same λr ys e=>s1 _ _ e⟩ wf (by rw[hl];lia)
theorem qYO {k:Int} (a:0<=k)(b:k<4):∃v,atI [V.int 0,V.int 0,V.int 1,V.int 3] k=some (.int v)/\0<=v/\v<=3:=by
 rcases(by lia:k=0\/k=1\/k=2\/k=3) with rfl|rfl|rfl|rfl
 all_goals exact⟨_,rfl,by decide,by decide⟩
theorem sc_Lasked:FnScope ["_law_state","_law_net_here","_law_found","_law_turn"] ["_law_state","_law_net_here"] (qA8 qIM):=qBO
theorem ok_Lasked (F:Fun K "_law_asked" "_law_asked" qIM f fd)
  (qB0:Clb P w K mg base 1 qFS qG9 "_law_take" ["_law_state","_law_many"] qJ9)
  (qBK:mg "len" = none) (qKT:mg "min" = none) (ag:mg "range" = none) (al:mg "set" = none) (qBG:mg "sorted" = none) (ab:mg "tuple" = none):FnOk P w K mg base CX0 2 f fd ["_law_state","_law_net_here"] qUW:=by
 refine F.okA sc_Lasked λao A ac s H vs Q E hr h=>?_;obtain⟨d,c,t,ns,a,Ae,rfl,S,ht,hN,wf,n1,am,q⟩:=h;have an:t<=1000000000-100:=ht;have ap:Room 1 _:=hr;refine⟨_,(qA4 (qAF (i:=2) sc_Lasked.nd rfl (E9 rfl) (qBX (qA0 (qAP qDD (qAP qDD (qAC qAA rfl qBK qBR (qA0 (pv 1) qA3)) qA9) (qAL qB0 hr rfl (qA0 (pv 0) (qA0 (qAC (qKN rfl) rfl qKT qP8 (qA0 (qAC qAA rfl qBK qBR (qA0 (pv 1) qA3)) (qA0 qA9 qA3))) qA3)))) qA3))) (qA4 (qC8 F1 rfl (qBT rfl ag (qA0 (qBY qES (qBX (qA0 qA9 (qA0 qA9 (qA0 qA9 (qA0 qA9 qA3))))) (qAL qB0 hr rfl (qA0 (pv 0) (qA0 qA9 qA3))) (λ_ _=>rfl)) qA3)) (qAW (i:=3) sc_Lasked.nd rfl (E9 rfl)) (qA6 (qEE (qOE J2 L9 M0 qD2 (pv 2) (qA0 (qAL qB0 hr rfl (qA0 (pv 0) (qA0 (qAC qAA rfl qBK qBR (qA0 (pv 1) qA3)) qA3))) qA3))))) (qA6 (qAK (qAB qAE rfl ab qAQ (qA0 (qAC (qEC rfl) rfl qBG qD4 (qA0 (qAB (qKM rfl) rfl al qSQ (qA0 (pv 2) qA3)) qA3)) qA3)))))),?_⟩
 try dsimp only[Cx.nox,Cx.wish,cxOf]
 obtain⟨rs,hA,NL⟩:=id hN;have l:(((rs.map V.ref).length:Nat):Int)=(Ae.length:Int):=by rw[A0,C2 NL]
 refine⟨_,rfl,a,_,rfl,.inr (Ac0 hA),_,_,rfl,rfl,?_⟩;refine⟨_,rfl,_,rfl,a,_,rfl,.inr (Ac0 hA),_,_,rfl,?_⟩;refine⟨d,c,t,ns,_,rfl,S,(by show t<=1000000000;lia),by split<;>lia,by split<;>lia,λk ak H1 k0 k1 S1 K1=>?_⟩
 have kb:0<=(Ae.length:Int)-1-k/\(Ae.length:Int)-1-k<(Ae.length:Int):=by
  rw[l] at k1
  split at k1<;>lia
 refine⟨_,_,rfl,rfl,(by show 1<=B62;decide),λg v=>?_⟩
 dsimp only;rw[l];generalize (Ae.length:Int)-1-k=x0 at kb;have a0:g≠d:=(qA5 S1.dict v).symm;have a1:g≠c:=(qA5 S1.list v).symm;have S2:=S1.new v (.lst [.int x0]);have k2:=K1.trans (qCC (d:=d) (c:=c) v (.lst [.int x0]));have aj:∀o,H g=some o->False:=λo z=>by
  by_cases e1:g=d
  ·exact a0 e1
  ·by_cases e2:g=c
   ·exact a1 e2
   ·have:=K1 g o z e1 e2;rw[v] at this;cases this
 have a2:(Ag H1 g (.lst [.int x0])) g=some (.lst ([x0].map V.int)):=qA1;generalize Ag H1 g (.lst [.int x0])=H2 at S2 k2 a2;refine⟨(by show 4<=B62;decide),λp hp=>?_⟩
 have a5:p≠d:=(qA5 S2.dict hp).symm;have a4:p≠c:=(qA5 S2.list hp).symm;have sp:=qA2 hp (.lst [.int 0,.int 0,.int 1,.int 3]);refine⟨_,rfl,d,c,t+1,ak,4,rfl,S2.same sp,(by show t+1<=1000000000;lia),by decide,by decide,λj ah H3 j0 j1 S3 K3=>?_⟩
 have gp:=K3 _ _ qA1 a5 a4;have a6:=K3 _ _ (sp _ _ a2) a0 a1;have k3:=(k2.trans (.of_same sp)).trans K3;obtain⟨m,hm,m0,m3⟩:=qYO j0 j1;refine⟨p,_,_,_,rfl,rfl,Ab2 gp,hm,m,rfl,by lia,by lia,qK8 (lo:=0) (n:=m.toNat) (λi σ Hc=>∃(t':Int) (ms fs:List Int) (v3:Option V),σ=[some (.ref d),some (.ref a),some (.ref g),v3]/\StAt Hc d c t' ms/\t+2<=t'/\t'<=t+2+i/\Keep d c H Hc/\Hc g=some (.lst (fs.map V.int))/\fs.length=i+1/\∀x∈fs,0<=x/\x<(Ae.length:Int))
  ⟨t+1+1,ah,[x0],none,rfl,S3,by lia,by lia,k3,a6,rfl,λx hx=>by rw[A6.mp hx];exact kb⟩ ?_ ?_⟩
 ·refineλi σ Hc hi aa=>opq λar a9=>?_;obtain⟨t',ms,fs,v3,rfl,S4,b1,b2,k4,gf,lf,fb⟩:=aa;refine a9 ?_;have af:=hN.keep S k4;obtain⟨rs,hA,NL⟩:=id af;have l:(((rs.map V.ref).length:Nat):Int)=(Ae.length:Int):=by rw[A0,C2 NL]
  refine⟨_,rfl,.inl ⟨rfl,_,Ab2 gf⟩,_,rfl,_,rfl,a,_,rfl,.inr (Ac0 hA),d,c,t',ms,_,rfl,S4,(by show t'<=1000000000;lia),by rw[l];lia,by rw[l];lia,λx ai H5 x0 x1 S5 K5=>?_⟩
  rw[l] at x1;have ae:=K5 _ _ gf a0 a1;refine⟨g,_,_,rfl,rfl,ae,qAI (by rw[A0];lia),?_⟩
  refine⟨t'+1,ai,fs++[x],_,rfl,⟨by rw[qA7 (F6 a0)];exact S5.dict,by rw[qA7 (F6 a1)];exact S5.list,S5.ne,S5.len,S5.pos⟩,by lia,by lia,λb u e n1 n2=>?_,by rw[qA1,C1];rfl,by rw[A9,B9,lf],λy hy=>?_⟩
  ·by_cases e3:b=g
   ·subst e3;exact(aj _ e).elim
   ·rw[qA7 e3];exact(k4.trans K5) b u e n1 n2
  ·rcases B8.mp hy with hy|hy
   ·exact fb y hy
   ·rw[A6.mp hy];exact⟨x0,x1⟩
 ·refineλσ Hc a7=>opq λaq a3=>?_;obtain⟨t',ms,fs,v3,rfl,S4,b1,b2,k4,gf,lf,fb⟩:=a7;refine a3 ?_;refine⟨_,rfl,g,fs,rfl,Ab2 gf,by lia,λe he=>?_⟩
  have ld:=qIT fs;refine⟨e,dedI fs,rfl,qA1,by lia,λb ys hb a8 hs=>?_⟩
  refine⟨b,_,rfl,.inl ⟨Ab2 qA1,λr ad=>?_⟩⟩;have s1:=((qA2 he (SetM w e (dedI fs))).trans (qA2 hb (.lst (ys.map V.int)))).trans (qA2 ad (.tup (ys.map V.int)));have ne:fs≠[]:=λz=>by rw[z] at lf;simp at lf
  obtain⟨y,hy⟩:=List.exists_mem_of_ne_nil fs ne;refine q r ys t' ms _ (S4.same s1) (by lia) (by lia) (k4.trans (.of_same s1)) qA1 (qIN a8 hs fb) (U6 (a8.mem_iff.mpr (mem_dedI.mpr hy)))
structure Fnd2 (Ae:Aa0)(Ad ks:List Int)(j:Int):Prop where
 in_:∀x∈ks,(0<=x/\x<(Ae.length:Int))/\Nd Ae Ad x
 ask:∀x∈Ad,j<=x->x∈ks
 clo:∀(w:Nat) zs,j<=(w:Int)->(w:Int)∈ks->Ae[w]?=some zs->∀y∈zs,y∈ks
theorem repF:∀n:Nat,(D8 n [V.bl false]).flatten=(D8 n false).map V.bl
 |0=>rfl
 |n+1=>by rw[M5,M5,R6,repF n];rfl
structure Bls (n:Nat)(ks:List Int)(bs:List Bool):Prop where
 len:bs.length=n
 at_:∀x:Nat,x<n->bs[x]?=some (decide ((x:Int)∈ks))
theorem Bls.set {n:Nat} {ks:List Int} {b:List Bool} (h:Bls n ks b){x:Int}(d:0<=x)(f:x<n):Bls n (addI ks x) (b.set x.toNat true):=by
 refine⟨by rw[b7];exact h.len,λy a=>?_⟩
 by_cases e:(y:Int)=x
 ·have c:x.toNat=y:=by lia
  rw[c,O7 (by rw[h.len];exact a),decide_eq_true (mem_addI.mpr (.inr e))]
 ·rw[Q6 (by lia),h.at_ y a]
  congr 1;exact decide_eq_decide.mpr ⟨λz=>mem_addI.mpr (.inl z),λz=>(mem_addI.mp z).resolve_right e⟩
theorem qaY {a:List Bool} {i:Nat} {b:Bool} (h:a[i]?=some b):(a.map V.bl)[i]?=some (.bl b):=by rw[C5,h];rfl
theorem sc_Lneeded:FnScope ["_law_net_here","_law_asked_here","_law_found","_law_work","_law_need"] ["_law_net_here","_law_asked_here"] (qA8 qGT):=qBO
theorem ok_Lneeded (F:Fun K "_law_needed" "_law_needed" qGT f fd) (qBK:mg "len" = none) (a9:mg "range" = none):FnOk P w K mg base CX0 1 f fd ["_law_net_here","_law_asked_here"] qRJ:=by
 refine F.okA sc_Lneeded λar A al s H vs Q E hr h=>?_;obtain⟨a,t,b,Ad,rfl,hN,wf,an,⟨hT,rA⟩,q⟩:=h;refine⟨_,(qA4 (qAF (i:=2) sc_Lneeded.nd rfl (A30 rfl) (qAP qS3 (qBX (qA0 qHN qA3)) (qAC qAA rfl qBK qBR (qA0 (pv 0) qA3)))) (qA4 (qC8 F1 rfl (qVB rfl a9 (qA0 (qAP qDD (qAC qAA rfl qBK qBR (qA0 (pv 0) qA3)) qA9) (qA0 (qMS qGN qA9) (qA0 (qMS qGN qA9) qA3)))) (qAW (i:=3) sc_Lneeded.nd rfl (E9 rfl)) (qA4 (qbR (qCL (qAU qJR (pv 3) (pv 1) (by with_unfolding_all rfl)) (qA6 (qRX qHN (qVC (pv 2) (pv 3) qIH))) qAV)) (qA6 (qCL (qJG (qBY qES (pv 2) (pv 3) (λ_ _=>rfl))) (qA6 (qC8 F1 rfl (qDC (qBY qCD (pv 0) (pv 3) (λ_ _=>rfl))) (qAW (i:=4) sc_Lneeded.nd rfl (E9 rfl)) (qA6 (qRX qHN (qVC (pv 2) (pv 4) qIH))))) qAV)))) (qA6 (qAK (qEJ rfl (lcs (own:=["_law_work"]) (fv:=[2]) (by kernel_rfl)) (qBT rfl a9 (qA0 (qAC qAA rfl qBK qBR (qA0 (pv 0) qA3)) qA3)) (λz1=>qC0 0) (λz1=>(qFC (qJG (qBY (qSB (K:=K) rfl) (pv 1) (pv 0) (λ_ _=>rfl))))) (λz1=>(pv 0))))))),?_⟩
 try dsimp only[Cx.nox,Cx.wish,cxOf]
 obtain⟨rs,hA,NL⟩:=id hN;have g:(((rs.map V.ref).length:Nat):Int)=(b.length:Int):=by rw[A0,C2 NL]
 refine⟨(by show 1<=B62;decide),λp0 am=>?_⟩
 have s0:=qA2 am (.lst [.bl false]);refine⟨_,rfl,a,_,rfl,.inr (Ac0 (s0 _ _ hA)),p0,_,_,rfl,rfl,qA1,by rw[g];lia,by rw[g];lia,?_,λm a2=>?_⟩
 ·rw[g,B64];simp;lia
 have ai:H m=none:=s0.free a2;have s1:=s0.trans (qA2 a2 (.lst (D8 ((((rs.map V.ref).length:Nat):Int)).toNat [V.bl false]).flatten));have a5:(Ag (Ag H p0 (.lst [.bl false])) m (.lst (D8 ((((rs.map V.ref).length:Nat):Int)).toNat [V.bl false]).flatten)) m=some (.lst ((D8 b.length false).map V.bl)):=by
  rw[qA1,repF,g,D0]
 generalize Ag (Ag H p0 (.lst [.bl false])) m (.lst (D8 ((((rs.map V.ref).length:Nat):Int)).toNat [V.bl false]).flatten)=H1 at s1 a5;refine⟨_,rfl,a,_,rfl,.inr (Ac0 (s1 _ _ hA)),_,_,rfl,rfl,_,rfl,_,rfl,_,_,rfl,⟨by rw[g];lia,by rw[g];lia,by decide,by decide⟩,qSH (lo:=(((rs.map V.ref).length:Nat):Int)-1) (n:=((((rs.map V.ref).length:Nat):Int)-1 - -1).toNat) (λi σ Hc=>∃(bs:List Bool) (ks:List Int) (v3 v4:Option V),σ=[some (.ref a),some (.ref t),some (.ref m),v3,v4]/\Same H Hc/\Hc m=some (.lst (bs.map V.bl))/\Bls b.length ks bs/\Fnd2 b Ad ks ((b.length:Int)-i))
  ⟨_,[],none,none,rfl,s1,a5,⟨by simp,λx hx=>by simp[hx]⟩,⟨λx hx=>(nomatch hx),λx hx hl=>?_,λw zs h1 h2=>(nomatch h2)⟩⟩ ?_ ?_⟩
 ·have:=(rA.in_ x hx).2
  lia
 ·refineλi σ Hc hi ae=>opq λaw ad=>?_;obtain⟨bs,ks,v3,v4,rfl,o,hf,B,u⟩:=ae;refine ad ?_;rw[g] at hi ⊢;obtain⟨d,ew⟩:∃d:Nat,(b.length:Int)-1-i=(d:Int):=⟨b.length-1-i,by lia⟩
  have hw:d<b.length:=by lia
  rw[ew];obtain⟨r,h3,h4⟩:=NL.get (A4 hw);have hz:=A4 hw;have rz:=wf d _ hz;generalize b[d]=zs at h4 hz rz;have ix:∀{bs:List Bool} {ks:List Int} {x:Int},Bls b.length ks bs->0<=x->x<(b.length:Int)->ixN (bs.map V.bl).length x=some x.toNat:=λ{bs ks x} B h0 h1=>by
   have:=qQQ (xs:=bs.map V.bl) (j:=x.toNat) (by rw[A0,B.len];lia)
   rw[show((x.toNat:Nat):Int)=x by lia] at this
   exact this
  -- Ad
  refine⟨λσ Hc=>∃(bs:List Bool) (ks:List Int),σ=[some (.ref a),some (.ref t),some (.ref m),some (.int (d:Int)),v4]/\Same H Hc/\Hc m=some (.lst (bs.map V.bl))/\Bls b.length ks bs/\(∀x∈ks,(0<=x/\x<(b.length:Int))/\Nd b Ad x)/\(∀x∈Ad,(d:Int)<=x->x∈ks)/\(∀(w:Nat) zs,(d:Int)+1<=(w:Int)->(w:Int)∈ks->b[w]?=some zs->∀y∈zs,y∈ks),?_,?_⟩
  ·refine⟨_,rfl,_,rfl,t,_,rfl,.inr (Ac0 (o _ _ hT)),rfl,qFM Ad,_,rfl,?_⟩;rw[qK4];by_cases c:(d:Int)∈Ad
   ·rw[decide_eq_true c];refine⟨_,rfl,_,rfl,m,_,_,d,rfl,rfl,hf,?_,?_⟩
    ·have:=ix B (x:=(d:Int)) (by lia) (by lia)
     rw[D0] at this;exact this
    ·have st:=B.set (x:=(d:Int)) (by lia) (by lia)
     rw[D0] at st;refine⟨_,addI ks (d:Int),rfl,qAD o ai,by rw[qA1,A44],st,λx hx=>?_,λx hx hl=>?_,λw1 ys h1 h2 h9 y hy=>?_⟩
     ·rcases mem_addI.mp hx with hx|hx
      ·exact u.in_ x hx
      ·rw[hx];exact⟨⟨by lia,by lia⟩,.ask c⟩
     ·by_cases e:x=(d:Int)
      ·exact mem_addI.mpr (.inr e)
      ·exact mem_addI.mpr (.inl (u.ask x hx (by lia)))
     ·rcases mem_addI.mp h2 with h2|h2
      ·exact mem_addI.mpr (.inl (u.clo w1 ys (by lia) h2 h9 y hy))
      ·lia
   ·rw[decide_eq_false c];refine⟨bs,ks,rfl,o,hf,B,u.in_,λx hx hl=>?_,λw1 ys h1 h2 h9=>u.clo w1 ys (by lia) h2 h9⟩
    by_cases e:x=(d:Int)
    ·rw[e] at hx;exact absurd hx c
    ·exact u.ask x hx (by lia)
  refineλσ Hc ac=>opq λau a6=>?_;obtain⟨bs,ks,rfl,o,hf,B,f1,f2,f3⟩:=ac;refine a6 ?_;refine⟨_,rfl,_,rfl,m,_,_,_,rfl,rfl,Ab2 hf,qDV (by lia) (by rw[D0];exact qaY (B.at_ d hw)),_,rfl,?_⟩
  by_cases c:(d:Int)∈ks
  ·rw[decide_eq_true c];refine⟨_,rfl,_,rfl,a,_,_,_,rfl,rfl,Ac0 (o _ _ hA),qDV (by lia) (by rw[D0,C5,h3];rfl),r,rfl,⟨_,Ac0 (o _ _ h4)⟩,qHV (a:=r) (xs:=zs.map V.int) (λk σ Hd=>∃(bs:List Bool) (ks:List Int) (v4:Option V),σ=[some (.ref a),some (.ref t),some (.ref m),some (.int (d:Int)),v4]/\Same H Hd/\Hd m=some (.lst (bs.map V.bl))/\Bls b.length ks bs/\(∀x∈ks,(0<=x/\x<(b.length:Int))/\Nd b Ad x)/\(∀x∈Ad,(d:Int)<=x->x∈ks)/\(∀(w:Nat) zs,(d:Int)+1<=(w:Int)->(w:Int)∈ks->b[w]?=some zs->∀y∈zs,y∈ks)/\(d:Int)∈ks/\∀y∈zs.take k,y∈ks)
    ⟨bs,ks,v4,rfl,o,hf,B,f1,f2,f3,c,λy hy=>by simp at hy⟩ (λk σ Hd _ hP=>by obtain⟨_,_,_,_,sd,_⟩:=hP;exact Ac0 (sd _ _ h4)) ?_ ?_⟩
   ·refineλk x σ Hd hx ak=>opq λas a7=>?_;obtain⟨bs,ks,v4,rfl,sd,a1,B,f1,f2,f3,c,ty⟩:=ak;obtain⟨y,ey,rfl⟩:=qB5 hx;refine a7 ?_;have my:=B0 ey;have yb:=rz.in_ y my;refine⟨_,rfl,_,rfl,m,_,_,y.toNat,rfl,rfl,a1,ix B yb.1 (by lia),?_⟩
    refine⟨_,addI ks y,_,rfl,qAD sd ai,by rw[qA1,A44],B.set yb.1 (by lia),λx hx=>?_,λx hx hl=>mem_addI.mpr (.inl (f2 x hx hl)),λw1 ys h1 h2 h9 z hz'=>?_,mem_addI.mpr (.inl c),λz hz'=>?_⟩
    ·rcases mem_addI.mp hx with hx|hx
     ·exact f1 x hx
     ·rw[hx];exact⟨⟨yb.1,by lia⟩,.need (f1 _ c).2 (by rw[D0];exact hz) my⟩
    ·rcases mem_addI.mp h2 with h2|h2
     ·exact mem_addI.mpr (.inl (f3 w1 ys h1 h2 h9 z hz'))
     ·lia
    ·rw[D3,ey,D5,B8,A6] at hz';rcases hz' with hz'|hz'
     ·exact mem_addI.mpr (.inl (ty z hz'))
     ·exact mem_addI.mpr (.inr hz')
   ·refineλσ Hd a3=>opq λao ag=>?_;obtain⟨bs,ks,v4,rfl,sd,a1,B,f1,f2,f3,c,ty⟩:=a3;refine ag ?_;rw[A0,qB2 rfl] at ty;refine⟨bs,ks,_,_,rfl,sd,a1,B,f1,λx hx hl=>f2 x hx (by lia),λw1 ys h1 h2 h9=>?_⟩
    by_cases e:w1=d
    ·subst e;rw[hz] at h9;cases h9;exact ty
    ·exact f3 w1 ys (by lia) h2 h9
  ·rw[decide_eq_false c];refine⟨bs,ks,_,_,rfl,o,hf,B,f1,λx hx hl=>f2 x hx (by lia),λw1 ys h1 h2 h9=>?_⟩
   by_cases e:w1=d
   ·subst e;exact absurd h2 c
   ·exact f3 w1 ys (by lia) h2 h9
 ·refineλσ Hc af=>opq λaq a4=>?_;obtain⟨bs,ks,v3,v4,rfl,o,hf,B,u⟩:=af;refine a4 ?_;rw[g,show((b.length:Int)-(((b.length:Int)-1 - -1).toNat:Nat))=0 by lia] at u
  have all:=Fnd.all wf (⟨u.in_,λx hx=>u.ask x hx (rA.in_ x hx).1,u.clo⟩:Fnd b Ad ks 0);have ah:((((rs.map V.ref).length:Nat):Int)).toNat=b.length:=by rw[g];lia
  refine⟨_,rfl,a,_,rfl,.inr (Ac0 (o _ _ hA)),_,rfl,by rw[g];lia,by rw[g];lia,λp hp=>?_⟩
  refine qE8 (p:=p) (lo:=0) (n:=((((rs.map V.ref).length:Nat):Int)).toNat) (λi σ Hd=>∃(v:Option V),σ=[v,some (.ref m)]/\Same Hc Hd/\Hd p=some (.lst ((((qB8 0 b.length).take i).filter λx=>decide (x∈ks)).map V.int))) ?_ ?_ ?_
  ·exact⟨none,rfl,qA2 hp _,qA1⟩
  ·refineλi σ Hd hi a8=>opq λav aa=>?_;obtain⟨v,rfl,sd,a0⟩:=a8;refine aa ?_;rw[ah] at hi;have lk:=qCE (p:=λx=>decide (x∈ks)) (l:=qB8 0 b.length) (i:=i);refine⟨_,rfl,_,rfl,m,_,_,_,rfl,rfl,Ab2 (sd _ _ hf),qDV (by lia) (by rw[show(0+(i:Int)).toNat=i by lia];exact qaY (B.at_ i hi)),_,rfl,?_⟩
   rw[qDW (qCK (by lia)),B06]
   by_cases c:(i:Int)∈ks
   ·rw[decide_eq_true c];refine⟨_,rfl,_,a0,qAI (by rw[A0];lia),_,rfl,qAD sd hp,?_⟩
    rw[qA1,if_pos rfl,C1]
    rfl
   ·rw[decide_eq_false c];refine⟨_,rfl,sd,?_⟩;simpa using a0
  ·refineλσ Hd aj=>opq λap ab=>?_;obtain⟨v,rfl,sd,a0⟩:=aj;refine ab ?_;rw[qB2 (by rw[qG3,ah];lia)] at a0
   refine q p _ Hd (o.trans sd) (o.free hp) a0 ⟨⟨(qD0 _ _).filter _,λx hx=>mem_rangeI.mp (C7.mp hx).1⟩,λx=>?_⟩;rw[C7,mem_rangeI,decide_eq_true_eq,<- all x];exact⟨λz=>z.2,λz=>⟨(u.in_ x z).1,z⟩⟩
theorem sc_all_needed:FnScope ["net","asked","wanted","work","need"] ["net","asked"] (qA8 qE5):=qBO
theorem ok_all_needed (F:Fun K "all_needed" "all_needed" qE5 f fd) (ah:mg "range" = none) (qBK:mg "len" = none) (qBG:mg "sorted" = none):FnOk P w K mg base CX0 1 f fd ["net","asked"] qUX:=by
 refine F.okA sc_all_needed λam A ag s H vs Q E hr h=>?_;obtain⟨a,t,c,Ad,rfl,hN,wf,ai,hT,a5,q⟩:=h;have hu:=qID hr;refine⟨_,(qA4 (qAF (i:=2) sc_all_needed.nd rfl (E9 rfl) qGV) (qA4 (qC8 F1 rfl (qDC (pv 1)) (qAW (i:=3) sc_all_needed.nd rfl (E9 rfl)) (qA6 (qFD hu (pv 2) (pv 3) qHN rfl))) (qA4 (qC8 F1 rfl (qVB rfl ah (qA0 (qAP qDD (qAC qAA rfl qBK qBR (qA0 (pv 0) qA3)) qA9) (qA0 (qMS qGN qA9) (qA0 (qMS qGN qA9) qA3)))) (qAW (i:=3) sc_all_needed.nd rfl (E9 rfl)) (qA6 (qCL (qF6 (qVH hu (pv 3) (pv 2))) (qA6 (qC8 F1 rfl (qDC (qBY qCD (pv 0) (pv 3) (λ_ _=>rfl))) (qAW (i:=4) sc_all_needed.nd rfl (E9 rfl)) (qA6 (qFD hu (pv 2) (pv 4) qHN rfl)))) qAV))) (qA6 (qAK (qAC (qI6 rfl) rfl qBG qD4 (qA0 (pv 2) qA3))))))),?_⟩
 try dsimp only[Cx.nox,Cx.wish,cxOf]
 obtain⟨rs,hA,NL⟩:=id hN;have v:(((rs.map V.ref).length:Nat):Int)=(c.length:Int):=by rw[A0,C2 NL]
 refineλu a1=>?_;have sn:=qA2 a1 (.dK []);refine⟨_,rfl,t,rfl,⟨_,Ac0 (sn _ _ hT)⟩,qHV (a:=t) (xs:=Ad.map V.int) (λj σ Hf=>∃(Af:List (Key×V)) (ks:List Int) (v3 v4:Option V),σ=[some (.ref a),some (.ref t),some (.ref u),v3,v4]/\Same H Hf/\Hf u=some (.dK Af)/\KeysI Af ks/\∀x,x∈ks↔x∈Ad.take j)
  ⟨[],[],none,none,rfl,sn,qA1,KeysI.nil,λx=>by simp⟩ (λj σ Hf _ hP=>by obtain⟨_,_,_,_,_,d,_⟩:=hP;exact Ac0 (d _ _ hT)) ?_ ?_⟩
 ·refineλj x σ Hf hx ac=>opq λaq ab=>?_;obtain⟨Af,ks,v3,v4,rfl,d,hd,g,mk⟩:=ac;obtain⟨y,ey,rfl⟩:=qB5 hx;refine ab ?_;have lk:ks.length<=c.length:=qS7 g.nd λx hx=>a5 x (Q7 ((mk x).mp hx));refine⟨_,rfl,_,rfl,u,_,rfl,DPut.k (k:=F4 y) hd (small_n (by rw[g.len];lia)),?_⟩
  refine⟨_,_,_,_,rfl,qAD d a1,qA1,g.put y _,λx=>?_⟩;rw[mem_addI,mk,D3,ey,D5,B8,A6]
 refineλσ Hf aa=>opq λao a6=>?_;obtain⟨Af,ks,v3,v4,rfl,d,hd,g,mk⟩:=aa;refine a6 ?_;rw[A0,qB2 rfl] at mk;refine⟨_,rfl,a,_,rfl,.inr (Ac0 (d _ _ hA)),_,_,rfl,rfl,_,rfl,_,rfl,_,_,rfl,⟨by rw[v];lia,by rw[v];lia,by decide,by decide⟩,qSH (lo:=(((rs.map V.ref).length:Nat):Int)-1) (n:=((((rs.map V.ref).length:Nat):Int)-1 - -1).toNat) (λi σ Hc=>∃(Af:List (Key×V)) (ks:List Int) (v3 v4:Option V),σ=[some (.ref a),some (.ref t),some (.ref u),v3,v4]/\Same H Hc/\Hc u=some (.dK Af)/\KeysI Af ks/\Fnd c Ad ks ((c.length:Int)-i))
  ⟨Af,ks,v3,v4,rfl,d,hd,g,⟨λx hx=>⟨a5 x ((mk x).mp hx),.ask ((mk x).mp hx)⟩,λx hx=>(mk x).mpr hx,λw zs h1 h2 h3=>?_⟩⟩ ?_ ?_⟩
 ·have:=(A5.mp h3).1
  lia
 ·refineλi σ Hc hi af=>opq λan a7=>?_;obtain⟨Af,ks,v3,v4,rfl,d,hd,g,fn⟩:=af;refine a7 ?_;rw[v] at hi ⊢;have aj:i<c.length:=by lia
  obtain⟨m,ew⟩:∃m:Nat,(c.length:Int)-1-i=(m:Int):=⟨c.length-1-i,by lia⟩
  have hw:m<c.length:=by lia
  rw[ew];obtain⟨r,h3,h4⟩:=NL.get (A4 hw);have hz:=A4 hw;have rz:=wf m _ hz;generalize c[m]=zs at h4 hz rz;refine⟨_,rfl,_,rfl,u,_,rfl,DGet.k (k:=F4 (m:Int)) hd,_,rfl,?_⟩;rw[g.has];by_cases mw:(m:Int)∈ks
  ·rw[decide_eq_true mw];refine⟨_,rfl,_,rfl,a,_,_,_,rfl,rfl,Ac0 (d _ _ hA),qDV (by lia) (by rw[D0,C5,h3];rfl),r,rfl,⟨_,Ac0 (d _ _ h4)⟩,qHV (a:=r) (xs:=zs.map V.int) (λk σ Hd=>∃(Af:List (Key×V)) (ks:List Int) (v4:Option V),σ=[some (.ref a),some (.ref t),some (.ref u),some (.int (m:Int)),v4]/\Same H Hd/\Hd u=some (.dK Af)/\KeysI Af ks/\Fnd c Ad ks ((m:Int)+1)/\(m:Int)∈ks/\∀y∈zs.take k,y∈ks)
    ⟨Af,ks,v4,rfl,d,hd,g,by rw[show(m:Int)+1=(c.length:Int)-i by lia];exact fn,mw,λy hy=>by simp at hy⟩ (λk σ Hd _ hP=>by obtain⟨_,_,_,_,o,_⟩:=hP;exact Ac0 (o _ _ h4)) ?_ ?_⟩
   ·refineλk x σ Hd hx a3=>opq λak ae=>?_;obtain⟨Af,ks,v4,rfl,o,a0,p,b,a2,ty⟩:=a3;obtain⟨y,ey,rfl⟩:=qB5 hx;refine ae ?_;have my:=B0 ey;have yb:=rz.in_ y my;have lk:ks.length<=c.length:=qS7 p.nd λx hx=>(b.in_ x hx).1;refine⟨_,rfl,_,rfl,u,_,rfl,DPut.k (k:=F4 y) a0 (small_n (by rw[p.len];lia)),?_⟩
    refine⟨_,_,_,rfl,qAD o a1,qA1,p.put y _,⟨λx hx=>?_,λx hx=>mem_addI.mpr (.inl (b.ask x hx)),λw1 ys h1 h2 h3 z hz'=>?_⟩,mem_addI.mpr (.inl a2),λz hz'=>?_⟩
    ·rcases mem_addI.mp hx with hx|hx
     ·exact b.in_ x hx
     ·rw[hx];exact⟨⟨yb.1,by lia⟩,.need (b.in_ _ a2).2 (by rw[D0];exact hz) my⟩
    ·rcases mem_addI.mp h2 with h2|h2
     ·exact mem_addI.mpr (.inl (b.clo w1 ys h1 h2 h3 z hz'))
     ·lia
    ·rw[D3,ey,D5,B8,A6] at hz';rcases hz' with hz'|hz'
     ·exact mem_addI.mpr (.inl (ty z hz'))
     ·exact mem_addI.mpr (.inr hz')
   ·refineλσ Hd ad=>opq λal a4=>?_;obtain⟨Af,ks,v4,rfl,o,a0,p,b,a2,ty⟩:=ad;refine a4 ?_;rw[A0,qB2 rfl] at ty;refine⟨Af,ks,_,_,rfl,o,a0,p,b.in_,b.ask,λw1 ys h1 h2 h9=>?_⟩;by_cases e:w1=m
    ·subst e;rw[hz] at h9;cases h9;exact ty
    ·exact b.clo w1 ys (by lia) h2 h9
  ·rw[decide_eq_false mw];refine⟨Af,ks,_,_,rfl,d,hd,g,fn.in_,fn.ask,λw1 ys h1 h2 h3=>?_⟩;by_cases e:w1=m
   ·subst e;exact absurd h2 mw
   ·exact fn.clo w1 ys (by lia) h2 h3
 ·refineλσ Hc a8=>opq λap a9=>?_;obtain⟨Af,ks,v3,v4,rfl,d,hd,g,fn⟩:=a8;refine a9 ?_;rw[v,show((c.length:Int)-(((c.length:Int)-1 - -1).toNat:Nat))=0 by lia] at fn
  refine⟨_,rfl,u,ks,rfl,.inr (.inr ⟨Af,hd,g.keys⟩),T4 (qS7 g.nd λx hx=>(fn.in_ x hx).1) (by lia),λl zs hl hp hs=>?_⟩
  have s1:=qA2 hl (.lst (zs.map V.int));refine q l zs _ (d.trans s1) (d.free hl) qA1 ⟨⟨qFI hs (hp.nodup_iff.mpr g.nd),λx hx=>(fn.in_ x (hp.mem_iff.mp hx)).1⟩,λx=>?_⟩;rw[hp.mem_iff];exact fn.all wf x
theorem qMJ:FnScope ["needs","numbers"] ["needs","numbers"] (qA8 qE3):=qBO
theorem ok_renumbered (F:Fun K "renumbered" "renumbered" qE3 f fd) (a0:mg "tuple" = none):FnOk P w K mg base CX0 1 f fd ["needs","numbers"] qdL:=by
 refine F.okA qMJ λa2 A a1 s H vs Q E hr h=>?_;obtain⟨r,d,v,Af,c,rfl,hR,z,hd,hv,q⟩:=h;have hu:=qID hr;refine⟨_,(qA6 (qAK (qAB qAE rfl a0 qAQ (qA0 (qEJ rfl (lcs (own:=["need"]) (fv:=[1]) (by kernel_rfl)) (qDC (pv 0)) (λz1=>qC0 0) (λz1=>(qFC (qF6 (qVH hu (pv 0) (pv 1))))) (λz1=>(qCB hu (pv 1) (pv 0) (λ_ _=>rfl)))) qA3)))),?_⟩
 try dsimp only[Cx.nox,Cx.wish,cxOf]
 refine⟨_,rfl,r,rfl,⟨_,Ac0 hR⟩,λp hp=>?_⟩;refine qFJ (p:=p) (a:=r) (xs:=v.map V.int) (λi σ o=>∃(v0:Option V),σ=[v0,some (.ref d)]/\Same H o/\o p=some (.lst (((v.take i).filterMap c).map V.int))) ?_ ?_ ?_ ?_
 ·exact⟨none,rfl,qA2 hp _,qA1⟩
 ·rintro i σ o hi ⟨v0,rfl,sm,_⟩;exact Ac0 (sm _ _ hR)
 ·refineλi x σ o hx j=>opq λa4 t=>?_;obtain⟨v0,rfl,sm,b⟩:=j;obtain⟨y,ey,rfl⟩:=qB5 hx;refine t ?_;have lt:=(A5.mp ey).1;have g:=DGet.k (k:=F4 y) (sm _ _ hd);have lk:((v.take i).filterMap c).length<=i:=F3 (a9 _ _) (by rw[C8];lia)
  refine⟨_,rfl,_,rfl,d,_,rfl,g,_,rfl,?_⟩;rw[D3,ey,D5,Y1,M3,List.filterMap_nil];rw[hv] at g ⊢;cases e:c y with
  |none=>
   rw[e] at g;refine⟨_,rfl,sm,?_⟩;simpa using b
  |some n=>
   rw[e] at g;refine⟨_,rfl,_,rfl,d,_,rfl,g,_,b,qAI (by rw[A0];lia),_,rfl,qAD sm hp,?_⟩
   rw[qA1,C1]
   rfl
 ·refineλσ o l=>opq λa3 m=>?_;obtain⟨v0,rfl,sm,b⟩:=l;refine m ?_;rw[A0,qB2 rfl] at b;refine⟨p,_,rfl,.inl ⟨Ab2 b,λr' u=>?_⟩⟩;exact q r' _ (sm.trans (qA2 u _)) qA1
theorem sc_part_net:FnScope ["net","works","numbers","number","work"] ["net","works"] (qA8 qG0):=qBO
theorem ok_part_net (F:Fun K "part_net" "part_net" qG0 f fd) (ae:Clb P w K mg base 1 qFR qN6 "renumbered" ["needs","numbers"] qdL)
  (qBD:mg "enumerate" = none) (af:mg "tuple" = none):FnOk P w K mg base CX0 2 f fd ["net","works"] qMD:=by
 refine F.okA sc_part_net λai A ag s H vs Q E hr h=>?_;obtain⟨a,t,Ae,g,rfl,hN,wf,ab,hT,l,q⟩:=h;have hu:=qID hr;have ah:Room 1 _:=hr;have lw:=l.len;refine⟨_,(qA4 (qAF (i:=2) sc_part_net.nd rfl (A30 rfl) qGV) (qA4 (qC8 F1 rfl (qYP rfl qBD qD5 (qA0 (pv 1) qA3)) (qOD rfl (qBH (qAW (i:=3) sc_part_net.nd rfl (E9 rfl)) (qBH (qAW (i:=4) sc_part_net.nd rfl (E9 rfl)) qFE))) (qA6 (qFD hu (pv 2) (pv 4) (pv 3) rfl))) (qA6 (qAK (qAB qAE rfl af qAQ (qA0 (qEJ rfl (lcs (own:=["work"]) (fv:=[0,2]) (by kernel_rfl)) (qDC (pv 1)) (λz2=>qC0 0) (λz2=>qBI) (λz2=>(qAL ae hr rfl (qA0 (qBY (qK1 (K:=K) rfl) (pv 1) (pv 0) (λ_ _=>rfl)) (qA0 (pv 2) qA3))))) qA3)))))),?_⟩
 try dsimp only[Cx.nox,Cx.wish,cxOf]
 obtain⟨rs,hA,NL⟩:=id hN;refineλdn a9=>?_;have sn:=qA2 a9 (.dK []);refine⟨_,rfl,t,rfl,⟨_,.inl (Rd.same hT sn)⟩,qWU (a:=t) (xs:=g.map V.int) (λi σ m=>∃(Af:List (Key×V)) (v3 v4:Option V),σ=[some (.ref a),some (.ref t),some (.ref dn),v3,v4]/\Same H m/\m dn=some (.dK Af)/\Af.length<=i/\∀x,valV Af (F4 x)=(qGF (g.take i) x).map V.int)
  ⟨[],none,none,rfl,sn,qA1,A7 _,λx=>by simp[qGF,valV]⟩ (λi σ m _ ⟨_,_,_,_,sm,_⟩=>.inl (Rd.same hT sm)) ?_ ?_⟩
 ·refineλi x σ m T hx a1 aa=>opq λaj v=>?_;obtain⟨Af,v3,v4,rfl,sm,hd,lk,hv⟩:=a1;obtain⟨y,n,rfl⟩:=qB5 hx;refine v ?_;have lt:=(A5.mp n).1;have sT:=qA2 aa (.tup [.int (i:Int),.int y]);refine⟨T,_,rfl,Ac0 qA1,rfl,_,_,rfl,_,_,rfl,rfl,?_⟩;refine⟨_,rfl,_,rfl,_,rfl,dn,_,rfl,DPut.k (k:=F4 y) (sT _ _ hd) (small_n (by lia)),?_⟩
  refine⟨_,_,_,rfl,qAD (sm.trans sT) a9,qA1,F3 (qCM _ _ _) (by lia),λx=>?_⟩
  rw[qRB,qTA l.nodup n x];by_cases e:x=y
  ·rw[e,if_pos rfl,if_pos rfl]
   rfl
  ·rw[if_neg e,if_neg λz=>e (W6 z)];exact hv x
 refineλσ m a6=>opq λam a2=>?_;obtain⟨Af,v3,v4,rfl,sm,hd,lk,hv⟩:=a6;refine a2 ?_;rw[A0,qB2 rfl] at hv;refine⟨_,rfl,t,rfl,⟨_,.inl (Rd.same hT sm)⟩,λp hp=>?_⟩;refine qFJ (p:=p) (a:=t) (xs:=g.map V.int) (λi σ o=>∃(v0:Option V) (ss:List Addr),σ=[v0,some (.ref a),some (.ref dn)]/\Same m o/\o p=some (.lst (ss.map V.ref))/\NetL o ss ((qBQ Ae g).take i)) ?_ ?_ ?_ ?_
 ·exact⟨none,[],rfl,qA2 hp _,qA1,by rw[A62];exact .nil⟩
 ·refineλi σ o hi a4=>opq λal a5=>?_;obtain⟨v0,ss,rfl,c,_⟩:=a4;refine a5 ?_;exact .inl (Rd.same (Rd.same hT sm) c)
 ·refineλi x σ o hx a0=>opq λak a8=>?_;obtain⟨v0,ss,rfl,c,d,u⟩:=a0;obtain⟨y,n,rfl⟩:=qB5 hx;refine a8 ?_;have lt:=(A5.mp n).1;have yb:=l.in_ y (B0 n);have s3:=sm.trans c;have hy:y.toNat<Ae.length:=by lia
  obtain⟨r,h3,h4⟩:=NL.get (A4 hy);have lz:=(wf y.toNat _ (A4 hy)).len;refine⟨_,rfl,_,rfl,a,_,_,_,rfl,rfl,Ac0 (s3 _ _ hA),qDV yb.1 (by rw[C5,h3];rfl),_,rfl,r,dn,_,Af,qGF g,rfl,s3 _ _ h4,by lia,c _ _ hd,hv,λr' H' j ac=>?_⟩
  have g1:=j _ _ d;have ad:ss.length=((qBQ Ae g).take i).length:=C2 u;refine⟨_,g1,qAI (by rw[A0,ad,C8,qBP];lia),?_⟩
  rw[qB4];refine⟨_,ss++[r'],rfl,qAD (c.trans j) hp,qA1,?_⟩;rw[D3,qFG n,A4 hy];exact qE7 (qCT (u.same λr' ys e=>j _ _ e) ac) g1
 ·refineλσ o a7=>opq λan a3=>?_;obtain⟨v0,ss,rfl,c,d,u⟩:=a7;refine a3 ?_;rw[A0,qB2 (qBP Ae g)] at u;refine⟨p,_,rfl,.inl ⟨Ab2 d,λb hb=>?_⟩⟩;have s1:=qA2 hb (.tup (ss.map V.ref));exact q b _ ((sm.trans c).trans s1) ⟨ss,qA1,u.same λr ys e=>s1 _ _ e⟩
theorem sc_fault_of_do:FnScope ["net","rooms","stand","work","there","result","need"] ["net","rooms","stand","work"] (qA8 qDG):=qBO
theorem ok_fault_of_do (F:Fun K "fault_of_do" "fault_of_do" qDG f fd) (qBK:mg "len" = none):FnOk P w K mg base CX0 1 f fd ["net","rooms","stand","work"] qNY:=by
 refine F.okA sc_fault_of_do λad A ab s H vs Q E hr h=>?_;obtain⟨a,so,Ae,c,ns,m,j,rfl,hN,t,aj,a9,ac,q⟩:=h;have hu:=qID hr;refine⟨_,(qA4 (qAF (i:=4) sc_fault_of_do.nd rfl (E9 rfl) qGV) (qA4 (qC8 F1 rfl (qDC (pv 2)) (qAW (i:=5) sc_fault_of_do.nd rfl (E9 rfl)) (qA6 (qFD hu (pv 4) (pv 5) qHN rfl))) (qA4 (qCL (qF6 (qVH hu (pv 3) (pv 4))) (qA6 (qAK qCI)) qAV) (qA4 (qC8 F1 rfl (qDC (qBY qCD (pv 0) (pv 3) (λ_ _=>rfl))) (qAW (i:=6) sc_fault_of_do.nd rfl (E9 rfl)) (qA6 (qCL (qF6 (qOF hu (pv 6) (pv 4))) (qA6 (qAK qCI)) qAV))) (qA4 (qCL (qAU qc3 (qAC qAA rfl qBK qBR (qA0 (pv 2) qA3)) (pv 1) (qBF _)) (qA6 (qAK qCI)) qAV) (qA6 (qAK qJK))))))),?_⟩
 try dsimp only[Cx.nox,Cx.wish,cxOf]
 refineλp hp=>?_;have s0:=qA2 hp (.dK []);refine⟨_,rfl,so,rfl,⟨_,Ac0 (s0 _ _ t)⟩,qHV (a:=so) (xs:=c.map V.int) (λi σ u=>∃(Af:List (Key×V)) (v:Option V),σ=[some (.ref a),some (.int m),some (.ref so),some (.int j),some (.ref p),v,none]/\Same H u/\u p=some (.dK Af)/\Af.length<=i/\∀x:Int,(valV Af (F4 x)).isSome=true↔x∈c.take i)
  ⟨[],none,rfl,s0,qA1,A7 _,λx=>by simp[valV]⟩ (λi σ u _ hP=>by obtain⟨_,_,_,g,_⟩:=hP;exact Ac0 (g _ _ t)) ?_ ?_⟩
 ·refineλi x σ u l a4=>opq λae a3=>?_;obtain⟨Af,v,rfl,g,hd,lk,n⟩:=a4;refine a3 ?_;rw[C5] at l;cases ez:c[i]? with
  |none=>rw[ez] at l;cases l
  |some z=>
   rw[ez] at l;cases l;have ag:i<c.length:=(A5.mp ez).1;refine⟨_,rfl,_,rfl,p,_,rfl,DPut.k (k:=F4 z) hd (qAI (by lia)),?_⟩
   refine⟨putK Af (F4 z) (.bl true),_,rfl,λb o e=>?_,qA1,F3 (qCM _ _ _) (by lia),λy=>?_⟩
   ·rw[qA7 (qA5 e hp)];exact g b o e
   ·rw[qRB,D3,ez,D5,B8,A6];by_cases a0:y=z
    ·subst a0;simp
    ·have:¬(F4 y:Key)=F4 z:=λq=>a0 (W6 q);rw[if_neg this,n y];simp[a0]
 ·refineλσ u a1=>opq λai a8=>?_;obtain⟨Af,v,rfl,g,hd,lk,n⟩:=a1;refine a8 ?_;rw[A0,E3 (A7 _)] at n;obtain⟨rs,r,h1,l1,h2,h3⟩:=hN.get ac;refine⟨_,rfl,_,rfl,p,_,rfl,DGet.k (k:=F4 j) hd,_,rfl,?_⟩;refine ite2 (λck=>?_) (λck=>?_)
  ·have hw:=(n j).mp ck;have e:qE0 ns c m j=.str "there":=by unfold qE0;rw[if_pos hw]
   have:=q u g;rw[e] at this;exact this
  ·have hw:¬j∈c:=λz=>ck ((n j).mpr z);refine⟨_,rfl,_,rfl,a,_,_,_,rfl,rfl,Ac0 (g _ _ h1),qDV a9 h2,r,rfl,⟨_,Ac0 (g _ _ h3)⟩,qHV (a:=r) (xs:=ns.map V.int) (λi σ Hd=>∃(v6:Option V),σ=[some (.ref a),some (.int m),some (.ref so),some (.int j),some (.ref p),v,v6]/\Hd=u/\∀x∈ns.take i,x∈c)
    ⟨none,rfl,rfl,λx l=>by simp at l⟩ (λi σ Hd _ ⟨_,_,e,_⟩=>by rw[e];exact Ac0 (g _ _ h3)) ?_ ?_⟩
   ·refineλi x σ Hd l a6=>opq λaf a7=>?_;obtain⟨v6,rfl,rfl,mm⟩:=a6;obtain⟨z,ez,rfl⟩:=qB5 l;refine a7 ?_;refine⟨_,rfl,_,rfl,p,_,rfl,DGet.k (k:=F4 z) hd,_,rfl,?_⟩;refine ite2 (λcz=>?_) (λcz=>?_)
    ·have hz:¬z∈c:=λzz=>by rw[(n z).mpr zz] at cz;cases cz
     have e:qE0 ns c m j=.str "needs":=by
      unfold qE0;rw[if_neg hw,if_neg λaa=>hz (aa z (B0 ez))]
     have:=q Hd g;rw[e] at this;exact this
    ·have hz:z∈c:=by
      apply(n z).mp;cases hv:(valV Af (F4 z:Key)).isSome with
      |true=>rfl
      |false=>rw[hv] at cz;exact absurd rfl cz
     refine⟨_,rfl,rfl,λy hy=>?_⟩;rw[D3,ez,D5,B8,A6] at hy;rcases hy with hy|rfl
     ·exact mm y hy
     ·exact hz
   ·refineλσ Hd a5=>opq λah a2=>?_;obtain⟨v6,rfl,rfl,mm⟩:=a5;refine a2 ?_;rw[A0,E3 (A7 _)] at mm;refine⟨_,rfl,so,_,rfl,.inr (Ac0 (g _ _ t)),_,rfl,_,_,rfl,rfl,_,rfl,?_⟩;have q':=q Hd g;have e0:qE0 ns c m j=if m<=(c.length:Int) then .str "full" else .non:=by
     unfold qE0;rw[if_neg hw,if_pos mm]
    rw[e0] at q';refine ite2 (λcf=>?_) (λcf=>?_)
    ·have d:m<=(((c.map V.int).length:Nat):Int):=of_decide_eq_true cf;rw[A0] at d;rw[if_pos d] at q';exact q'
    ·have d:¬m<=(((c.map V.int).length:Nat):Int):=of_decide_eq_false (R8.mpr cf);rw[A0] at d;rw[if_neg d] at q';exact q'
theorem qPY:FnScope ["net","rooms","stand","move"] ["net","rooms","stand","move"] (qA8 qG2):=qBO
theorem ok_fault_of (F:Fun K "fault_of" "fault_of" qG2 f fd) (i:Clb P w K mg base 1 qEX qL7 "fault_of_do" ["net","rooms","stand","work"] qNY):
  FnOk P w K mg base CX0 2 f fd ["net","rooms","stand","move"] qMG:=by
 refine F.okA qPY λy A o s H vs Q E v h=>?_;obtain⟨a,x,p,Ae,u,ns,Aa,wk,t,rfl,z,d,l,c,m,g,r,a1,q⟩:=h;have a0:Room 1 _:=v;refine⟨_,(qA4 (qCL (qAU qMU (qBY qCD (pv 3) qA9 (λ_ _=>rfl)) qCI (qBF _)) (qA6 (qAK (qAL i v rfl (qA0 (pv 0) (qA0 (pv 1) (qA0 (pv 2) (qA0 (qBY qCD (pv 3) qA9 (λ_ _=>rfl)) qA3))))))) qAV) (qA4 (qCL (qAU qJR (qBY qCD (pv 3) qA9 (λ_ _=>rfl)) (pv 2) (by with_unfolding_all rfl)) (qA6 (qAK qJK)) qAV) (qA6 (qAK qCI)))),?_⟩
 try dsimp only[Cx.nox,Cx.wish,cxOf]
 refine⟨_,rfl,p,_,_,_,rfl,rfl,Ac0 c,rfl,rfl,_,rfl,?_⟩;refine ite2 (λk=>?_) (λk=>?_)
 ·have n:t = "do":=V.str.inj (of_decide_eq_true k)
  refine⟨_,rfl,_,rfl,_,rfl,_,rfl,p,_,_,_,rfl,rfl,Ac0 c,rfl,a,x,Ae,u,ns,Aa,wk,rfl,z,d,l,g,r,λH' sm=>?_⟩;have b:=q H' sm;unfold qCA at b;rw[if_pos n] at b;exact b
 ·have n:¬t = "do":=λe=>(of_decide_eq_false (R8.mpr k)) (congrArg V.str e)
  have b:=q H (Same.refl H);unfold qCA qDQ at b;rw[if_neg n] at b;refine⟨_,rfl,p,_,_,_,rfl,rfl,Ac0 c,rfl,_,rfl,x,_,rfl,.inr (Ac0 d),rfl,qFM u,_,rfl,?_⟩;rw[qK4];refine ite2 (λj=>?_) (λj=>?_)
  ·rw[if_pos (of_decide_eq_true j)] at b;exact b
  ·rw[if_neg (of_decide_eq_false (R8.mpr j))] at b;exact b
theorem qJC:FnScope ["stand","move"] ["stand","move"] (qA8 qCO):=qBO
theorem ok_stand_behind (F:Fun K "stand_behind" "stand_behind" qCO f fd) (qBG:mg "sorted" = none) (a4:mg "tuple" = none):FnOk P w K mg base CX0 1 f fd ["stand","move"] qGO:=by
 refine F.okA qJC λa7 A a6 s H vs Q E m h=>?_;obtain⟨so,mv,d,Ac,c,rfl,n,lst,t,o,q⟩:=h;refine⟨_,(qA4 (qCL (qAU qMU (qBY qCD (pv 1) qA9 (λ_ _=>rfl)) qCI (qBF _)) (qA6 (qAK (qAB qAE rfl a4 qAQ (qA0 (qAC (qI6 rfl) rfl qBG qD4 (qA0 (qAP qVQ (pv 0) (qBW (qA0 (qBY qCD (pv 1) qA9 (λ_ _=>rfl)) qA3))) qA3)) qA3)))) qAV) (qA6 (qAK (qAB qAE rfl a4 qAQ (qA0 (qEJ rfl (lcs (own:=["result"]) (fv:=[1]) (by kernel_rfl)) (qDC (pv 0)) (λz1=>qC0 0) (λz1=>(qFC (qAU qZ0 (pv 0) (qBY (qK1 (K:=K) rfl) (pv 1) qA9 (λ_ _=>rfl)) (qBF _)))) (λz1=>(pv 0))) qA3))))),?_⟩
 try dsimp only[Cx.nox,Cx.wish,cxOf]
 refine⟨_,rfl,mv,_,_,_,rfl,rfl,Ac0 t,rfl,rfl,_,rfl,?_⟩;refine ite2 (λck=>?_) (λck=>?_)
 ·have hd:Ac = "do":=V.str.inj (of_decide_eq_true ck)
  refine⟨_,rfl,_,rfl,mv,_,_,_,rfl,rfl,Ac0 t,rfl,(by show 1<=B62;decide),λT hT=>?_⟩
  have sT:=qA2 hT (.tup [.int c]);have a1:∀(p:Addr) (H1:Hp),Same H H1->H1 p=some (.tup ((d++[c]).map V.int))->∀(b:Addr) (zs:List Int),H1 b=none->zs.Perm (d++[c])->zs.Pairwise (·<=·)->∀r,(Ag H1 b (.lst (zs.map V.int))) r=none->Q (.ref r) (Ag (Ag H1 b (.lst (zs.map V.int))) r (.tup (zs.map V.int))):=by
   intro p H1 s1 hp b zs hb k u r m;refine q r zs _ (s1.trans ((qA2 hb _).trans (qA2 m _))) qA1 ⟨λ_=>⟨k,u⟩,λz=>?_⟩;rw[hd] at z;exact absurd z.symm qAH
  refine⟨so,T,d.map V.int,[.int c],rfl,rfl,Ac0 (sT _ _ n),Ac0 qA1,by simp,V2 (small_n (by rw[A0,B9];lia)),λz=>?_,λz p hp=>?_⟩
  ·have e:d=[]:=o9.mp z;have g:(Ag H T (.tup [.int c])) T=some (.tup ((d++[c]).map V.int)):=by rw[qA1,e];rfl
   exact⟨T,d++[c],rfl,.inr (.inl (Ac0 g)),(by rw[A9,B9];lia),λb zs hb k u=>⟨b,_,rfl,.inl ⟨Ab2 qA1,λr m=>a1 T _ sT g b zs hb k u r m⟩⟩⟩
  ·have g:(Ag (Ag H T (.tup [.int c])) p (.tup (d.map V.int++[.int c]))) p=some (.tup ((d++[c]).map V.int)):=by rw[qA1,C1];rfl
   exact⟨p,d++[c],rfl,.inr (.inl (Ac0 g)),(by rw[A9,B9];lia),λb zs hb k u=>⟨b,_,rfl,.inl ⟨Ab2 qA1,λr m=>a1 p _ (sT.trans (qA2 hp _)) g b zs hb k u r m⟩⟩⟩
 ·have hd:Ac = "clear":=o.resolve_left λe=>(of_decide_eq_false (R8.mpr ck)) (congrArg V.str e);refine⟨_,rfl,so,rfl,⟨_,Ac0 n⟩,λp hp=>?_⟩;refine qFJ (p:=p) (a:=so) (xs:=d.map V.int) (λi σ Hc=>∃(v:Option V),σ=[v,some (.ref mv)]/\Same H Hc/\Hc p=some (.lst (((d.take i).filter λx=>decide (x≠c)).map V.int))) ?_ ?_ ?_ ?_
  ·exact⟨none,rfl,qA2 hp _,qA1⟩
  ·rintro i σ Hc hi ⟨v,rfl,sm,_⟩;exact Ac0 (sm _ _ n)
  ·refineλi x σ Hc hx a0=>opq λa9 a5=>?_;obtain⟨v,rfl,sm,j⟩:=a0;obtain⟨y,ey,rfl⟩:=qB5 hx;refine a5 ?_;have hi:=(A5.mp ey).1;have lk:=qCE (p:=λx=>decide (x≠c)) (l:=d) (i:=i);refine⟨_,rfl,_,rfl,mv,_,_,_,rfl,rfl,Ac0 (sm _ _ t),rfl,rfl,_,rfl,?_⟩;rw[qDW ey];by_cases e:y=c
   ·rw[decide_eq_true (show V.int y=V.int c by rw[e]),decide_eq_false (show¬y≠c fromλz=>z e)]
    refine⟨_,rfl,sm,?_⟩;simpa using j
   ·rw[decide_eq_false (show¬V.int y=V.int c fromλz=>e (V.int.inj z)),decide_eq_true (show y≠c from e)];refine⟨_,rfl,_,j,qAI (by rw[A0];lia),_,rfl,qAD sm hp,?_⟩
    rw[qA1,if_pos rfl,C1]
    rfl
  ·refineλσ Hc a2=>opq λa8 a3=>?_;obtain⟨v,rfl,sm,j⟩:=a2;refine a3 ?_;rw[A0,qB2 rfl] at j;refine⟨p,_,rfl,.inl ⟨Ab2 j,λr m=>?_⟩⟩;refine q r _ _ (sm.trans (qA2 m _)) qA1 ⟨λz=>?_,λ_=>rfl⟩;rw[hd] at z;exact absurd z qAH
theorem sc_moves_of:FnScope ["net","rooms","stand","dos","clears"] ["net","rooms","stand"] (qA8 qG1):=qBO
theorem ok_moves_of (F:Fun K "moves_of" "moves_of" qG1 f fd) (qBS:Clb P w K mg base 2 qEO qGK "fault_of" ["net","rooms","stand","move"] qMG)
  (a5:mg "range" = none) (qBK:mg "len" = none):FnOk P w K mg base CX0 3 f fd ["net","rooms","stand"] qNX:=by
 refine F.okA sc_moves_of λao A ag s H vs Q E hr h=>?_;obtain⟨a,so,b,st,y,rfl,hN,wf,ai,ah,lst,q⟩:=h;have an:Room 2 _:=hr;refine⟨_,(qA4 (qOA (i:=3) sc_moves_of.nd rfl rfl rfl (lcs (own:=["work"]) (fv:=[]) (by kernel_rfl)) (qBT rfl a5 (qA0 (qAC qAA rfl qBK qBR (qA0 (pv 0) qA3)) qA3)) (λz1=>qC0 0) (λz1=>qBI) (λz1=>(qBW (qA0 qCI (qA0 (pv 0) qA3)))) (by kernel_rfl)) (qA4 (qOA (i:=4) sc_moves_of.nd rfl rfl rfl (lcs (own:=["work"]) (fv:=[]) (by kernel_rfl)) (qBT rfl a5 (qA0 (qAC qAA rfl qBK qBR (qA0 (pv 0) qA3)) qA3)) (λz2=>qC0 0) (λz2=>qBI) (λz2=>(qBW (qA0 qCI (qA0 (pv 0) qA3)))) (by kernel_rfl)) (qA6 (qAK (qEJ rfl (lcs (own:=["move"]) (fv:=[0,1,2]) (by kernel_rfl)) (qDT (qAP qLR (pv 3) (pv 4))) (λz3=>qC0 0) (λz3=>(qFC (qF6 (qaP (qAL qBS hr rfl (qA0 (pv 1) (qA0 (pv 2) (qA0 (pv 3) (qA0 (pv 0) qA3))))))))) (λz3=>(pv 0))))))),?_⟩
 try dsimp only[Cx.nox,Cx.wish,cxOf]
 obtain⟨rs,hA,NL⟩:=id hN;have d:(((rs.map V.ref).length:Nat):Int)=(b.length:Int):=by rw[A0,C2 NL]
 refine⟨_,rfl,a,_,rfl,.inr (Ac0 hA),_,rfl,by rw[d];lia,by rw[d];lia,λp hp=>?_⟩
 refine qE8 (p:=p) (lo:=0) (n:=((((rs.map V.ref).length:Nat):Int)).toNat) (λi σ Hc=>∃(v:Option V) (rd:List Addr),σ=[v]/\Same H Hc/\Hc p=some (.lst (rd.map V.ref))/\MovL Hc rd (qJS "do" i)) ?_ ?_ ?_
 ·exact⟨none,[],rfl,qA2 hp _,qA1,.nil⟩
 ·refineλi σ Hc hi aa=>opq λas a9=>?_;obtain⟨v,rd,rfl,sm,o,ML⟩:=aa;refine a9 ?_;rw[d] at hi;refine⟨_,rfl,(by show 2<=B62;decide),λmv e=>?_⟩
  have r:=qA2 e (.tup [.str "do",.int (0+(i:Int))])
  have ll:=C2 ML;rw[qFH] at ll;refine⟨_,r _ _ o,qAI (by rw[A0];lia),_,rd++[mv],rfl,qAD (sm.trans r) hp,?_,?_⟩
  ·rw[qA1,qB4]
  ·rw[qLS];exact((ML.same r).snoc qA1).put (r _ _ o)
 ·refineλσ Hc a8=>opq λaq a2=>?_;obtain⟨v,rd,rfl,sm,o,ML⟩:=a8;refine a2 ?_;rw[show((((rs.map V.ref).length:Nat):Int)).toNat=b.length by rw[d];lia] at ML
  refine⟨_,rfl,a,_,rfl,.inr (Ac0 (sm _ _ hA)),_,rfl,by rw[d];lia,by rw[d];lia,λp2 ab=>?_⟩
  refine qE8 (p:=p2) (lo:=0) (n:=((((rs.map V.ref).length:Nat):Int)).toNat) (λi σ u=>∃(v:Option V) (re:List Addr),σ=[v]/\Same Hc u/\u p2=some (.lst (re.map V.ref))/\MovL u re (qJS "clear" i)) ?_ ?_ ?_
  ·exact⟨none,[],rfl,qA2 ab _,qA1,.nil⟩
  ·refineλi σ u hi ae=>opq λap a3=>?_;obtain⟨v,re,rfl,j,t,ME⟩:=ae;refine a3 ?_;rw[d] at hi;refine⟨_,rfl,(by show 2<=B62;decide),λmv e=>?_⟩
   have r:=qA2 e (.tup [.str "clear",.int (0+(i:Int))]);have ll:=C2 ME;rw[qFH] at ll;refine⟨_,r _ _ t,qAI (by rw[A0];lia),_,re++[mv],rfl,qAD (j.trans r) ab,?_,?_⟩
   ·rw[qA1,qB4]
   ·rw[qLS];exact((ME.same r).snoc qA1).put (r _ _ t)
  ·refineλσ u a1=>opq λal ac=>?_;obtain⟨v,re,rfl,j,t,ME⟩:=a1;refine ac ?_;rw[show((((rs.map V.ref).length:Nat):Int)).toNat=b.length by rw[d];lia] at ME
   have l1:=C2 ML;have l2:=C2 ME;rw[qFH] at l1 l2;refine⟨_,rfl,_,rfl,p,p2,_,_,rfl,rfl,j _ _ o,t,?_,λl hl=>?_⟩
   ·rw[A0,A0,B64];lia
   have sl:=qA2 hl (.lst (rd.map V.ref++re.map V.ref));have MA:MovL (Ag u l (.lst (rd.map V.ref++re.map V.ref))) (rd++re) (qND b.length):=((ML.same j).app ME).same sl;have gl:(Ag u l (.lst (rd.map V.ref++re.map V.ref))) l=some (.lst ((rd++re).map V.ref)):=by rw[qA1,C1]
   have g:=(sm.trans j).trans sl;generalize Ag u l (.lst (rd.map V.ref++re.map V.ref))=He at MA gl g ⊢;have lE:(rd++re).length=b.length+b.length:=by rw[A9,l1,l2]
   refine⟨l,rfl,⟨_,Ab2 gl⟩,λp3 a0=>?_⟩;refine qHU (p:=p3) (a:=l) (xs:=(rd++re).map V.ref) (λi σ Hf=>∃(v:Option V) (rk:List Addr),σ=[v,some (.ref a),some (.int y),some (.ref so)]/\Same He Hf/\Hf p3=some (.lst (rk.map V.ref))/\MovL Hf rk (((qND b.length).take i).filter λm=>decide (wd b st y m=.non))) ?_ ?_ ?_ ?_
   ·exact⟨none,[],rfl,qA2 a0 _,qA1,.nil⟩
   ·rintro i σ Hf hi ⟨v,rk,rfl,sm3,_⟩;exact Ab2 (sm3 _ _ gl)
   ·refineλi x σ Hf hx a4=>opq λar a6=>?_;obtain⟨v,rk,rfl,sm3,k,MK⟩:=a4;obtain⟨mv,e,rfl⟩:=qEG hx;refine a6 ?_;have hi:i<b.length+b.length:=by rw[<- lE];exact(A5.mp e).1
    obtain⟨m,hm,em⟩:=qAY MA e;obtain⟨hw,m0,m1⟩:=qSK (B0 hm);have af:m.2.toNat<b.length:=by lia
    have z:=A4 af;have rz:=wf _ _ z;have lk:=C2 MK;have ak:=M6 (λm=>decide (wd b st y m=.non)) ((qND b.length).take i);rw[C8,qOW] at ak;have aj:wd b st y m=qCA b[m.2.toNat] st y m.1 m.2:=by unfold wd;rw[z];rfl
    refine⟨_,rfl,_,rfl,_,rfl,_,rfl,a,so,mv,b,st,b[m.2.toNat],y,m.2,m.1,rfl,hN.same (g.trans sm3),(g.trans sm3) _ _ ah,lst,sm3 _ _ em,hw,m0,z,?_,λHg c=>⟨_,rfl,?_⟩⟩
    ·have:=rz.len;lia
    rw[<- aj,qDW hm];by_cases hd:wd b st y m=.non
    ·rw[hd];refine⟨_,rfl,_,c _ _ k,(by rw[A0,B64];lia),_,rk++[mv],rfl,qAD (sm3.trans c) a0,?_,?_⟩
     ·rw[qA1,qB4]
     ·exact((MK.same c).snoc (c _ _ (sm3 _ _ em))).put (c _ _ k)
    ·rw[decide_eq_false hd];refine⟨_,rk,rfl,sm3.trans c,c _ _ k,?_⟩;simpa using MK.same c
   ·refineλσ Hf ad=>opq λam a7=>?_;obtain⟨v,rk,rfl,sm3,k,MK⟩:=ad;refine a7 ?_;rw[E3 (by rw[A0,lE,qOW];exact A7 _)] at MK
    exact q p3 rk Hf (g.trans sm3) (g.free a0) k MK
theorem qT6:FnScope ["results","works"] ["results","works"] (qA8 qGS):=qBO
theorem ok_has_all (F:Fun K "has_all" "has_all" qGS f fd) (a0:mg "all" = none):FnOk P w K mg base CX0 1 f fd ["results","works"] qUT:=by
 refine F.okA qT6 λa3 A a2 s H vs Q E hr h=>?_;obtain⟨b,a,t,k,y,rfl,a1,hT,l1,q⟩:=h;refine⟨_,(qA6 (qAK (qAC (qSP rfl) rfl a0 qb6 (qA0 (qEJ rfl (lcs (own:=["work"]) (fv:=[0]) (by kernel_rfl)) (qe3 (pv 1)) (λz1=>qC0 0) (λz1=>qBI) (λz1=>(qHM (qVM (K:=K) rfl) (pv 0) (pv 1) (by with_unfolding_all rfl)))) qA3)))),?_⟩
 try dsimp only[Cx.nox,Cx.wish,cxOf]
 refine⟨_,rfl,b,t,rfl,⟨_,sqo hT⟩,λp hp=>?_⟩;refine qeC (b:=b) (p:=p) (a:=t) (xs:=y.map V.int) (λi σ g=>∃(v:Option V),σ=[v,some (.ref a)]/\Same H g/\g p=some (.lst (((y.take i).map λx=>decide (x∈k)).map V.bl))) ?_ ?_ ?_ ?_
 ·exact⟨none,rfl,qA2 hp _,qA1⟩
 ·refineλi σ g hi n=>opq λa4 m=>?_;obtain⟨v,rfl,d,_⟩:=n;refine m ?_;exact sqo (hT.same d)
 ·refineλi x σ g hx j=>opq λa6 u=>?_;obtain⟨v,rfl,d,c⟩:=j;obtain⟨z,ez,rfl⟩:=qB5 hx;refine u ?_;have hi:=(A5.mp ez).1;refine⟨_,rfl,_,rfl,a,_,rfl,.inr (Ac0 (d _ _ a1)),rfl,qFM k,_,c,qAI (by rw[A0,A0,C8];lia),_,rfl,qAD d hp,?_⟩
  rw[qA1];refine congrArg (λl=>some (HO.lst l)) ?_;rw[D3,ez,D5,C1,C1];show _++[V.bl (inV (.int z) (k.map V.int))]=_;rw[qK4]
  rfl
 ·refineλσ g o=>opq λa5 r=>?_;obtain⟨v,rfl,d,c⟩:=o;refine r ?_;rw[A0,E3 (A7 _)] at c;refine⟨p,_,rfl,Ab2 c,?_⟩;have e:((y.map λx=>decide (x∈k)).all id)=decide (∀x∈y,x∈k):=by
   rw[U2,decide_eq_true_eq];exact qeW
  rw[e];exact q g d
theorem sc_stands_reached:FnScope ["net","rooms","reached","due","later","stand","move","further","steps"] ["net","rooms"] (qA8 qAG):=qBO
theorem ok_stands_reached (F:Fun K "stands_reached" "stands_reached" qAG f fd) (bu:Clb P w K mg base 3 qHW qQS "moves_of" ["net","rooms","stand"] qNX) (qAR:Clb P w K mg base 1 qC2 qDX "stand_behind" ["stand","move"] qGO):FnOk P w K mg base CX0 4 f fd ["net","rooms"] qMC:=by
 refine F.okA sc_stands_reached λc8 A bs s H vs Q E hr h=>?_;obtain⟨a,Ae,Aa,rfl,hN,wf,bx,q⟩:=h;have hu:=qID hr;have cb:Room 3 _:=hr;have bp:qAZ qAG=[.Assign [.Name "reached" ⟨78,4,78,11⟩] (.Dict [some (kOf ((qAZ qAG).getD 0 (.Pass ⟨0,0,0,0⟩)))] [vOf ((qAZ qAG).getD 0 (.Pass ⟨0,0,0,0⟩))] ⟨78,14,78,35⟩) ⟨78,4,78,35⟩,(qAZ qAG).getD 1 (.Pass ⟨0,0,0,0⟩),(qAZ qAG).getD 2 (.Pass ⟨0,0,0,0⟩),(qAZ qAG).getD 3 (.Pass ⟨0,0,0,0⟩)]:=by kernel_rfl
 have hk:∀X:Cx,PE X (kOf ((qAZ qAG).getD 0 (.Pass ⟨0,0,0,0⟩))) (tTup tNil):=λX=>qbX ⟨_,_,rfl⟩;have hv:∀X:Cx,PE X (vOf ((qAZ qAG).getD 0 (.Pass ⟨0,0,0,0⟩))) (tTup (qNV (tC (.int 0)) (qNV (tC .non) (qNV (tC .non) tNil)))):=λX=>qVF ⟨_,_,_,_,_,_,_,_,rfl⟩;rw[bp];generalize kOf ((qAZ qAG).getD 0 (.Pass ⟨0,0,0,0⟩))=k0 at hk ⊢;generalize vOf ((qAZ qAG).getD 0 (.Pass ⟨0,0,0,0⟩))=v9 at hv ⊢;refine⟨_,(qA4 (qAF (i:=2) sc_stands_reached.nd rfl (E9 rfl) (qVG hu (hk _) (hv _))) (qA4 (qAF (i:=3) sc_stands_reached.nd rfl (E9 rfl) (qBX (qA0 (qBW qA3) qA3))) (qA4 (qMO F1 (qYL (pv 3) (λ_=>rfl)) (qA4 (qAF (i:=4) sc_stands_reached.nd rfl (E9 rfl) (qBX qA3)) (qA4 (qC8 F1 rfl (qDT (pv 3)) (qAW (i:=5) sc_stands_reached.nd rfl (E9 rfl)) (qA6 (qC8 F1 rfl (qDT (qAL bu hr rfl (qA0 (pv 0) (qA0 (pv 1) (qA0 (pv 5) qA3))))) (qAW (i:=6) sc_stands_reached.nd rfl (E9 rfl)) (qA4 (qAF (i:=7) sc_stands_reached.nd rfl (E9 rfl) (qAL qAR hr rfl (qA0 (pv 5) (qA0 (pv 6) qA3)))) (qA6 (qCL (qF6 (qOF hu (pv 7) (pv 2))) (qA4 (qAF (i:=8) sc_stands_reached.nd rfl (E9 rfl) (qAP qD1 (qBY qCD (qCB hu (pv 2) (pv 5) (λ_ _=>rfl)) qA9 (λ_ _=>rfl)) (qIO (qAU qMU (qBY qCD (pv 6) qA9 (λ_ _=>rfl)) qCI (qBF _)) qA9 qA9))) (qA4 (qFD hu (pv 2) (pv 7) (qBW (qA0 (pv 8) (qA0 (pv 5) (qA0 (pv 6) qA3)))) rfl) (qA6 (qEE (qOE J2 L9 M0 qD2 (pv 4) (qA0 (pv 7) qA3)))))) qAV)))))) (qA6 (qAF (i:=3) sc_stands_reached.nd rfl (E9 rfl) (pv 4)))))) (qA6 (qAK (qbY (pv 2))))))),?_⟩
 try dsimp only[Cx.nox,Cx.wish,cxOf]
 have pw:2^Ae.length<=2^12:=Q8 (by decide) bx
 intro n af;refine⟨(by show 0<=B62;decide),λe0 bm=>?_⟩
 refine⟨(by show 3<=B62;decide),λv0 b9=>?_⟩
 have s1:=qA2 af (.dT []);have s2:=qA2 bm (.tup []);have s3:=qA2 b9 (.tup [.int 0,.non,.non]);have g1:(Ag (Ag (Ag H n (.dT [])) e0 (.tup [])) v0 (.tup [.int 0,.non,.non])) n=some (.dT []):=s3 _ _ (s2 _ _ qA1);have g2:(Ag (Ag (Ag H n (.dT [])) e0 (.tup [])) v0 (.tup [.int 0,.non,.non])) e0=some (.tup (([]:List Key).map kV)):=s3 _ _ qA1;have g3:(Ag (Ag (Ag H n (.dT [])) e0 (.tup [])) v0 (.tup [.int 0,.non,.non])) v0=some (.tup [.int ((0:Nat):Int),.non,.non]):=qA1;have sA:=s1.trans (s2.trans s3);generalize Ag (Ag (Ag H n (.dT [])) e0 (.tup [])) v0 (.tup [.int 0,.non,.non])=H1 at g1 g2 g3 sA;refine⟨g1,e0,[],rfl,g2,?_⟩;have b:EntZ H1 [([],.ref v0)] [[]] (λ_=>0) (PrvH Ae Aa [[]] λ_=>0):=⟨λ_=>none,.cons ⟨rfl,v0,rfl,g3⟩ .nil,PrvH.start⟩;have b:=b.put (u:=.dT [([],.ref v0)]) g1 (λxs z=>by cases z)
 have sB:Same H (Ag H1 n (.dT [([],.ref v0)])):=qAD sA af;have g4:(Ag H1 n (.dT [([],.ref v0)])) n=some (.dT [([],.ref v0)]):=qA1;have aa:H n=none:=af;refine⟨(by show 0<=B62;decide),λe1 bw=>⟨(by show 1<=B62;decide),λdu br=>?_⟩⟩
 have s5:=qA2 bw (.tup []);have s6:=qA2 br (.lst [.ref e1]);have sC:=sB.trans (s5.trans s6);have ab:=(b.same s5).same s6;have g5:=s6 _ _ (s5 _ _ g4);have g6:(Ag (Ag (Ag H1 n (.dT [([],.ref v0)])) e1 (.tup [])) du (.lst [.ref e1])) du=some (.lst ([e1].map V.ref)):=qA1;have g7:StL (Ag (Ag (Ag H1 n (.dT [([],.ref v0)])) e1 (.tup [])) du (.lst [.ref e1])) [e1] [[]]:=.cons (s6 _ _ qA1) .nil;generalize Ag (Ag (Ag H1 n (.dT [([],.ref v0)])) e1 (.tup [])) du (.lst [.ref e1])=H2 at sC ab g5 g6 g7;clear s1 s2 s3 g1 g2 g3 sA b sB g4 s5 s6 bm b9 af;refine⟨λm σ Hc=>∃(du:Addr) (dr:List Addr) (due ks:Aa0) (f:List Int->Nat) (Af:List (List Key×V)) (t:Nat) (v4 v5 v6 v7 v8:Option V),σ=[some (.ref a),some (.int Aa),some (.ref n),some (.ref du),v4,v5,v6,v7,v8]/\m=(2^Ae.length-ks.length)*2+(if due=[] then 0 else 1)/\Same H Hc/\Hc n=some (.dT Af)/\EntZ Hc Af ks f (PrvH Ae Aa ks f)/\Hc du=some (.lst (dr.map V.ref))/\StL Hc dr due/\BF Ae Aa t ks due [] f 0 0,
  ⟨_,du,[e1],[[]],[[]],λ_=>0,_,0,none,none,none,none,none,rfl,rfl,sC,g5,ab,g6,g7,BF.start⟩,?_⟩
 clear sC g5 ab g6 g7;refineλm σ Hc bf=>opq λcd be=>?_;obtain⟨du,dr,due,ks,f,Af,t,v4,v5,v6,v7,v8,rfl,rfl,sm,d,b,j,SD,B⟩:=bf;refine be ?_;refine⟨_,rfl,_,.inl ⟨_,Ab2 j,rfl⟩,?_⟩;have az:dr.length=due.length:=C2 SD;by_cases hz:due=[]
 ·subst hz;have:dr=[]:=O1.mp az;subst this;refine iteF ?_;obtain⟨g,eX,b1⟩:=b.ex;exact⟨_,rfl,n,Af,rfl,d,λo=>q n o Af ks f g _ (qAD sm aa) aa qA1 (eX.put d λxs z=>by cases z) B.rch b1⟩
 ·have ne:(!(dr.map V.ref).isEmpty)=true:=by
   cases dr with
   |nil=>exact absurd (O1.mp az.symm) hz
   |cons _ _=>rfl
  dsimp only;rw[if_pos ne];have bt:=B.len;have ln:=b.len;refine qc6 λN0 bg=>?_;refine⟨(by show 0<=B62;decide),λll ah=>?_⟩
  have s7:=qA2 ah (.lst []);have c2:H ll=none:=sm.free ah;have aq:ll≠n/\ll≠du:=⟨(qA5 d ah).symm,(qA5 j ah).symm⟩;have bh:n≠du:=qC6 d j (by intro z;cases z)
  obtain⟨k0,ap⟩:∃k0,k0=ks.length:=⟨_,rfl⟩;rw[<- ap] at bg;refine⟨_,rfl,du,rfl,⟨_,Ab2 (s7 _ _ j)⟩,qOT (a:=du) (xs:=dr.map V.ref) (λi σ Hd=>∃(lr:List Addr) (ly ks:Aa0) (f:List Int->Nat) (Af:List (List Key×V)) (v5 v6 v7 v8:Option V),σ=[some (.ref a),some (.int Aa),some (.ref n),some (.ref du),some (.ref ll),v5,v6,v7,v8]/\Same H Hd/\Hd n=some (.dT Af)/\EntZ Hd Af ks f (PrvH Ae Aa ks f)/\Hd du=some (.lst (dr.map V.ref))/\StL Hd dr due/\Hd ll=some (.lst (lr.map V.ref))/\StL Hd lr ly/\BF Ae Aa t ks due ly f i 0/\ks.length=k0+ly.length)
   ⟨[],[],ks,f,Af,v5,v6,v7,v8,rfl,sm.trans s7,s7 _ _ d,b.same s7,s7 _ _ j,SD.same s7,qA1,.nil,B,ap.symm⟩ (by rintro i σ Hd _ ⟨_,_,_,_,_,_,_,_,_,_,_,_,_,z,_⟩;exact Ab2 z) ?_ ?_⟩
  ·clear s7 d b j SD B sm ln bt ap;refineλi x σ Hd hx bd N1 c0=>opq λca b8=>?_;obtain⟨lr,ly,ks,f,Af,v5,v6,v7,v8,rfl,sm,d,b,j,SD,a0,SL,B,a2⟩:=bd;obtain⟨sr,bc,rfl⟩:=qEG hx;obtain⟨p,a7,a9⟩:=qAY SD bc;refine b8 ?_;have ri:Rise (Ae.length:Int) p:=((B.duem p).mp (B0 a7)).1.rise;have c5:p.length<=12:=by have:=ri.len;lia
   have a4:p∈ks:=B.full t p (A7 _) ((B.duem p).mp (B0 a7)).1;refine⟨_,rfl,_,rfl,_,rfl,a,sr,Ae,p,Aa,rfl,hN.same sm,wf,by lia,a9,by lia,λl rs H3 s3 fl gl ML=>?_⟩
   have bz:rs.length=(qCG Ae p Aa).length:=C2 ML;refine⟨l,rfl,⟨_,Ab2 gl⟩,qOT (a:=l) (xs:=rs.map V.ref) (λk σ Hd=>∃(lr:List Addr) (ly ks:Aa0) (f:List Int->Nat) (Af:List (List Key×V)) (v6 v7 v8:Option V),σ=[some (.ref a),some (.int Aa),some (.ref n),some (.ref du),some (.ref ll),some (.ref sr),v6,v7,v8]/\Same H Hd/\Hd n=some (.dT Af)/\EntZ Hd Af ks f (PrvH Ae Aa ks f)/\Hd du=some (.lst (dr.map V.ref))/\StL Hd dr due/\Hd ll=some (.lst (lr.map V.ref))/\StL Hd lr ly/\BF Ae Aa t ks due ly f i k/\ks.length=k0+ly.length/\Hd l=some (.lst (rs.map V.ref))/\MovL Hd rs (qCG Ae p Aa)/\p∈ks)
    ⟨lr,ly,ks,f,Af,v6,v7,v8,rfl,sm.trans s3,s3 _ _ d,b.same s3,s3 _ _ j,SD.same s3,s3 _ _ a0,SL.same s3,B,a2,gl,ML,a4⟩ (by rintro k σ Hd _ ⟨_,_,_,_,_,_,_,_,_,_,_,_,_,_,_,_,_,_,z,_⟩;exact Ab2 z) ?_ ?_⟩
   ·have nl:n≠l/\ll≠l:=⟨qA5 d fl,qA5 a0 fl⟩;clear d b j SD a0 SL B a2 sm gl ML s3 a4 a9;refineλk x σ Hd hx bo N2 ax=>opq λc9 bb=>?_;obtain⟨lr,ly,ks,f,Af,v6,v7,v8,rfl,sm,d,b,j,SD,a0,SL,B,a2,gl,ML,a4⟩:=bo;obtain⟨mv,bv,rfl⟩:=qEG hx;obtain⟨⟨Ac,wk⟩,ai,ae⟩:=qAY ML bv;refine bb ?_;dsimp only at ae;obtain⟨c6,ak,a9⟩:=qAY SD bc;rw[a7] at ak;cases ak;have hw:=(due_iff.mp (B0 ai)).1.1;refine⟨_,rfl,_,rfl,sr,mv,p,Ac,wk,rfl,a9,by lia,ae,hw,λr c4 H4 s4 gr bq=>?_⟩
    have e2:=qeV (m:=(Ac,wk)) ri hw bq;rw[e2] at gr;have b4:=sm.trans s4;have a6:=s4 _ _ d;have a1:=b.same s4;have ao:=s4 _ _ j;have ba:=SD.same s4;have al:=s4 _ _ a0;have b0:=SL.same s4;have bl:=s4 _ _ gl;have bj:=ML.same s4;have an:=s4 _ _ a9;have am:=s4 _ _ ae;have lb:=B.len;clear d b j SD a0 SL gl ML a9 ae;refine⟨_,rfl,_,rfl,n,_,rfl,.inr ⟨Af,keyS (behL p (Ac,wk)),r,.inl a6,rfl,by rw[qFK];exact gr,rfl⟩,_,rfl,?_⟩
    by_cases a8:behL p (Ac,wk)∈ks
    ·obtain⟨v,ev,_⟩:=a1.val a8;rw[ev];refine iteF ?_;exact ax _ _ ⟨lr,ly,ks,f,Af,_,_,_,rfl,b4,a6,a1,ao,ba,al,b0,B.hit a7 ai a8,a2,bl,bj,a4⟩
    ·rw[a1.none a8];refine iteT ?_;obtain⟨v,ev,vr,xx,yy,e6,gv⟩:=a1.val a4;subst e6;have dg:DGet H4 n (.ref sr) (some (.ref vr)):=by
      rw[<- ev];exact .inr ⟨Af,keyS p,sr,.inl a6,rfl,by rw[qFK];exact an,rfl⟩
     have B2:=B.add a7 ai a8;have c1:=B2.len;rw[A9,B9] at c1;have cc:lr.length=ly.length:=C2 b0;have ce:=a1.len;refine⟨_,rfl,_,rfl,n,.ref vr,rfl,dg,vr,_,_,_,rfl,rfl,Ac0 gv,rfl,_,rfl,mv,_,_,_,rfl,rfl,Ac0 am,rfl,rfl,_,rfl,?_⟩;obtain⟨z,aj,b7⟩:∃z:Nat,(if decide (V.str Ac=V.str "do")=true then z=1 else z=0)/\z=if((Ac,wk):Mv).1=B6 "do" then 1 else 0:=by
      by_cases c:Ac=B6 "do"
      ·exact⟨1,by rw[if_pos (decide_eq_true (congrArg V.str c))],by rw[if_pos c]⟩
      ·exact⟨0,by rw[if_neg (λq=>c (V.str.inj (of_decide_eq_true q)))],by rw[if_neg c]⟩
     rw[<- b7] at B2;have bn:∀(y:Int) (H5:Hp) (tp:Addr),y=((f p+z:Nat):Int)->H4 tp=none->H5=Ag H4 tp (.tup [.int y,.ref sr,.ref mv])->∃H6 H7,DPut H5 n (.ref r) (.ref tp) H6/\H6 ll=some (.lst (lr.map V.ref))/\H7=Ag H6 ll (.lst (lr.map V.ref++[.ref r]))/\
       ∃(lr:List Addr) (ly ks:Aa0) (f:List Int->Nat) (Af:List (List Key×V)),Same H H7/\H7 n=some (.dT Af)/\EntZ H7 Af ks f (PrvH Ae Aa ks f)/\H7 du=some (.lst (dr.map V.ref))/\StL H7 dr due/\H7 ll=some (.lst (lr.map V.ref))/\StL H7 lr ly/\BF Ae Aa t ks due ly f i (k+1)/\ks.length=k0+ly.length/\H7 l=some (.lst (rs.map V.ref))/\MovL H7 rs (qCG Ae p Aa)/\p∈ks:=by
      intro y H5 tp ey ac e5;subst ey e5;have s5:=qA2 ac (.tup [.int ((f p+z:Nat):Int),.ref sr,.ref mv]);have g5:(Ag H4 tp (.tup [.int ((f p+z:Nat):Int),.ref sr,.ref mv])) tp=some (.tup [.int ((f p+z:Nat):Int),.ref sr,.ref mv]):=qA1;generalize Ag H4 tp (.tup [.int ((f p+z:Nat):Int),.ref sr,.ref mv])=H5 at s5 g5;have a3:=s5 _ _ a6;have b2:=s5 _ _ gr;have b3:=s5 _ _ al;have nt:∀kk xs,HO.dT kk≠.tup xs:=λkk xs q=>by cases q
      have ag:∀kk xs,HO.lst kk≠.tup xs:=λkk xs q=>by cases q
      have a5:(Ag H5 n (.dT (putK Af (keyS (behL p (Ac,wk))) (.ref tp)))) ll=some (.lst (lr.map V.ref)):=(qA7 aq.1).trans b3;refine⟨_,_,.inr ⟨Af,keyS (behL p (Ac,wk)),r,a3,rfl,by rw[qFK];exact b2,small_n (by lia),rfl⟩,a5,rfl,lr++[r],ly++[behL p (Ac,wk)],ks++[behL p (Ac,wk)],_,_,qAD (qAD (b4.trans s5) aa) c2,?_,(((a1.same s5).snoc (m:=(Ac,wk)) a8 g5 (s5 _ _ an) (s5 _ _ am) (λg e=>PrvH.snoc a4 (B0 ai) a8 b7 e)).put a3 (nt _)).put a5 (ag _),?_,((ba.same s5).put a3 (nt _)).put a5 (ag _),?_,(((b0.same s5).snoc b2).put a3 (nt _)).put a5 (ag _),B2,?_,?_,((bj.same s5).putG a3 (nt _)).putG a5 (ag _),B8.mpr (.inl a4)⟩
      ·rw[qA7 aq.1.symm,qA1]
      ·rw[qA7 aq.2.symm,qA7 bh.symm];exact s5 _ _ ao
      ·rw[qA1,qB4]
      ·simp only[A9,B9];lia
      ·rw[qA7 nl.2.symm,qA7 nl.1.symm];exact s5 _ _ bl
     refine ite2 (λck=>?_) (λck=>?_)
     ·rw[if_pos ck] at aj;refine⟨_,_,rfl,rfl,_,rfl,_,rfl,_,rfl,(by show 3<=B62;decide),λtp ac=>?_⟩
      obtain⟨H6,H7,dp,g6,e7,ar,aw,av,f2,ad,x1,x2,x3,x4,x5,x6,x7,x8,x9,au,ay,as⟩:=bn _ _ tp (by rw[aj]) ac rfl
      subst e7;refine⟨_,rfl,_,rfl,n,H6,rfl,dp,_,rfl,.inl ⟨rfl,_,Ab2 g6⟩,_,rfl,ll,_,_,rfl,rfl,g6,small_n (by rw[A0];lia),?_⟩
      exact ax _ _ ⟨ar,aw,av,f2,ad,_,_,_,rfl,x1,x2,x3,x4,x5,x6,x7,x8,x9,au,ay,as⟩
     ·rw[if_neg ck] at aj;refine⟨_,_,rfl,rfl,_,rfl,_,rfl,_,rfl,(by show 3<=B62;decide),λtp ac=>?_⟩
      obtain⟨H6,H7,dp,g6,e7,ar,aw,av,f2,ad,x1,x2,x3,x4,x5,x6,x7,x8,x9,au,ay,as⟩:=bn _ _ tp (by rw[aj]) ac rfl
      subst e7;refine⟨_,rfl,_,rfl,n,H6,rfl,dp,_,rfl,.inl ⟨rfl,_,Ab2 g6⟩,_,rfl,ll,_,_,rfl,rfl,g6,small_n (by rw[A0];lia),?_⟩
      exact ax _ _ ⟨ar,aw,av,f2,ad,_,_,_,rfl,x1,x2,x3,x4,x5,x6,x7,x8,x9,au,ay,as⟩
   ·refineλσ Hd b5=>opq λc3 bk=>?_;obtain⟨lr,ly,ks,f,Af,v6,v7,v8,rfl,sm,d,b,j,SD,a0,SL,B,a2,gl,ML,a4⟩:=b5;refine bk ?_;rw[A0,bz] at B;exact c0 _ _ ⟨lr,ly,ks,f,Af,_,_,_,_,rfl,sm,d,b,j,SD,a0,SL,B.next a7 (A7 _),a2⟩
  ·refineλσ Hd bi=>opq λc7 b6=>?_;obtain⟨lr,ly,ks,f,Af,v5,v6,v7,v8,rfl,sm,d,b,j,SD,a0,SL,B,a2⟩:=bi;refine b6 ?_;rw[A0,az] at B;have B2:=B.level (A7 _);have lb:=B2.len;refine⟨_,rfl,bg _ _ ⟨_,?_,ll,lr,ly,ks,f,Af,t+1,_,_,_,_,_,rfl,rfl,sm,d,b,a0,SL,B2⟩⟩;rw[if_neg hz];by_cases c:ly=[]
   ·rw[if_pos c,a2,c,J6]
    lia
   ·have:0<ly.length:=X1.mpr c;rw[if_neg c,a2]
    lia
theorem sc_best_end:FnScope ["reached","asked","ends"] ["reached","asked"] (qA8 qCJ):=qBO
theorem ok_best_end (F:Fun K "best_end" "best_end" qCJ f fd) (hcd:fd.code=.ref cc) (hBM:BM mg base) (qET:hdIn K cc Pt=true) (qEP:Clb P w K mg base 1 qH6 qLZ "has_all" ["results","works"] qUT) (qKT:mg "min" = none):FnOk P w K mg base CX0 2 f fd ["reached","asked"] (qUU Pt):=by
 refine F.okL hcd sc_best_end (λvs H Q E h=>?_) (λA ai s H vs Q E hr h=>?_)
 ·obtain⟨d,t,o,Af,g,l,e,rfl,_⟩:=h
  rfl
 obtain⟨d,t,o,Af,g,l,e,rfl,af,hd,a7,lk,hT,la,q⟩:=h;have hu:=qID hr;have aj:=hu2_of hr;have rm:Room 1 _:=hr;have ao:Room 1 _:=hr;refine⟨_,(qA4 (qOA (i:=2) sc_best_end.nd rfl rfl rfl (lcs (own:=["stand"]) (fv:=[1]) (by kernel_rfl)) (qYQ (pv 0)) (λz1=>qC0 0) (λz1=>(qFC (qJG (qAL qEP hr rfl (qA0 (pv 0) (qA0 (pv 1) qA3)))))) (λz1=>(pv 0)) (by kernel_rfl)) (qA6 (qAK (qYU (p:="stand") (fv:=[0]) (q:="best_end.<locals>.<lambda>") rm rfl rfl qKT qP8 hBM rfl qET (by kernel_rfl) (lms (by kernel_rfl)) rfl (λ_ _ _ _ _=>rfl) (qg5 aj) (qA0 (pv 2) qA3) (λz2=>(qBW (qA0 (qBY (qK1 (K:=K) rfl) (qCB (lm_hu _) (pv 1) (pv 0) (λ_ _=>rfl)) qA9 (λ_ _=>rfl)) (qA0 (pv 0) qA3)))) qJK)))),?_⟩
 try dsimp only[Cx.nox,Cx.wish,cxOf]
 have ln:=a7.len;refine⟨_,rfl,d,o,Af,rfl,hd,λle aa=>?_⟩;refine qZH (p:=le) (a:=d) (o:=o) (Af:=Af) (λk σ Hd=>∃(v0:Option V) (er:List Addr),σ=[v0,some (.ref t)]/\Same H Hd/\Hd le=some (.lst (er.map V.ref))/\StL Hd er ((g.take k).filter λs=>decide (∀x∈e,x∈s))) ?_ ?_ ?_ ?_
 ·exact⟨none,[],rfl,qA2 aa _,qA1,.nil⟩
 ·refineλk σ Hd hk ae=>opq λar ad=>?_;obtain⟨v0,er,rfl,sd,_⟩:=ae;refine ad ?_;exact sd _ _ hd
 ·refineλk a0 v r σ Hd y a6 ac=>opq λaq a9=>?_;obtain⟨v0,er,rfl,sd,ge,SE⟩:=ac;obtain⟨m,u,e1,v3⟩:=qAY a7 y;refine a9 ?_;dsimp only at e1;subst e1;rw[qFK] at a6;have as:=(A5.mp u).1;have lE:er.length=((g.take k).filter λs=>decide (∀x∈e,x∈s)).length:=C2 SE;have ak:=M6 (λs:List Int=>decide (∀x∈e,x∈s)) (g.take k);rw[C8] at ak;refine⟨_,rfl,_,rfl,true,r,t,m,e,rfl,a6,.inl (sd _ _ hT),la,λH2 n=>⟨_,rfl,?_⟩⟩;rw[D3,u,D5,u9];by_cases c:∀x∈e,x∈m
  ·rw[decide_eq_true c];refine⟨_,rfl,_,n _ _ ge,small_n (by rw[A0];lia),?_⟩
   rw[qB4];refine⟨_,er++[r],rfl,qAD (sd.trans n) aa,qA1,?_⟩;rw[L5,if_pos (decide_eq_true c)];exact((SE.same n).snoc (n _ _ a6)).put (n _ _ ge) λxs z=>by cases z
  ·rw[decide_eq_false c];refine⟨_,er,rfl,sd.trans n,n _ _ ge,?_⟩;rw[L5,if_neg (by rw[decide_eq_false c];exact C3),B29,M4]
   exact SE.same n
 refineλσ H1 ag=>opq λap ab=>?_;obtain⟨v0,er,rfl,s1,ge,SE⟩:=ag;refine ab ?_;rw[ln,X3] at SE;have lE:er.length=(g.filter λs=>decide (∀x∈e,x∈s)).length:=C2 SE;refine⟨_,rfl,s1 _ _ af,le,er.map V.ref,(g.filter λs=>decide (∀x∈e,x∈s)).map λs=>(l s:Int)::s,?_⟩;have a0:∀(i:Nat) (x:V) (k:List Int),(er.map V.ref)[i]?=some x->((g.filter λs=>decide (∀x∈e,x∈s)).map λs=>(l s:Int)::s)[i]?=some k->∃r s,x=.ref r/\k=(l s:Int)::s/\s∈g/\(∀x∈e,x∈s)/\H1 r=some (.tup (s.map V.int)):=by
  intro i x k y hk;obtain⟨r,a8,rfl⟩:=qEG y;obtain⟨m,u,gs⟩:=qAY SE a8;rw[C5,u] at hk;cases hk;have hm:=C7.mp (B0 u);exact⟨r,m,rfl,rfl,hm.1,of_decide_eq_true hm.2,gs⟩
 have ah:∀(i:Nat) (x:V) (k:List Int),(er.map V.ref)[i]?=some x->((g.filter λs=>decide (∀x∈e,x∈s)).map λs=>(l s:Int)::s)[i]?=some k->∀Hc,Sm0 H1 Hc->∃r s vr xx yy,x=.ref r/\k=(l s:Int)::s/\Hc r=some (.tup (s.map V.int))/\DGet Hc d (.ref r) (some (.ref vr))/\Hc vr=some (.tup [.int (l s:Int),xx,yy]):=by
  intro i x k y hk Hc sc;obtain⟨r,m,e1,e2,e3,e4,e5⟩:=a0 i x k y hk;obtain⟨v,ev,vr,xx,yy,e6,e7⟩:=a7.val e3;subst e6;have gr:=sc _ _ e5;refine⟨r,m,vr,xx,yy,e1,e2,gr,?_,sc _ _ (s1 _ _ e7)⟩;rw[<- ev];exact .inr ⟨Af,keyS m,r,.inr ⟨o,sc _ _ (s1 _ _ hd)⟩,rfl,by rw[qFK];exact gr,rfl⟩
 cases er with
 |nil=>
  have he:(g.filter λs=>decide (∀x∈e,x∈s))=[]:=O1.mp lE.symm;refine⟨.non,rfl,ge,by rw[A0,A0,he];rfl,λi x k y=>by simp at y,by rw[he];rfl,λH2 n=>(q H2 (s1.trans n)).1 λs hs c=>?_⟩
  have:s∈g.filter λs=>decide (∀x∈e,x∈s):=C7.mpr ⟨hs,decide_eq_true c⟩;rw[he] at this;cases this
 |cons r0 er=>
  cases eZ:((r0::er).map V.ref).zip ((g.filter λs=>decide (∀x∈e,x∈s)).map λs=>(l s:Int)::s) with
  |nil=>
   exfalso
   have:=congrArg n8 eZ;rw[o8,A0,A0,<- lE,C6,J6] at this
   lia
  |cons b rest=>
   obtain⟨k,h1,h2⟩:=qJJ rest b;rw[<- eZ] at h1 h2;have an:∀p:V×List Int,p∈((r0::er).map V.ref).zip ((g.filter λs=>decide (∀x∈e,x∈s)).map λs=>(l s:Int)::s)->∃i:Nat,((r0::er).map V.ref)[i]?=some p.1/\((g.filter λs=>decide (∀x∈e,x∈s)).map λs=>(l s:Int)::s)[i]?=some p.2:=by
    intro p hp;obtain⟨i,hi⟩:=D6 hp;rw[V9] at hi;exact⟨i,hi.1,hi.2⟩
   obtain⟨i,g1,g2⟩:=an _ h1;obtain⟨r,m,e1,e2,e3,e4,e5⟩:=a0 i _ _ g1 g2;refine⟨qF7 b rest,rfl,ge,by rw[A0,A0,lE],λi x k y hk Hc sc=>?_,rfl,λH2 n=>?_⟩
   ·obtain⟨r,m,vr,xx,yy,a1,a2,a3,a4,a5⟩:=ah i x k y hk Hc sc;subst a1 a2;exact⟨_,rfl,_,rfl,d,.ref vr,rfl,a4,vr,_,_,_,rfl,rfl,Ac0 a5,rfl,_,rfl,(by show 2<=B62;decide),λp hp=>⟨qA2 hp _,p,r,_,m,rfl,rfl,qA1,by rw[qA7 (qA5 a3 hp)];exact a3⟩⟩
   ·have e1:qF7 b rest=.ref r:=e1;rw[e1];refine(q H2 (s1.trans n)).2 r m (n _ _ e5) e3 e4 λs' al c'=>?_;have hf:s'∈g.filter λs=>decide (∀x∈e,x∈s):=C7.mpr ⟨al,decide_eq_true c'⟩;obtain⟨j,hj⟩:=D6 hf;have am:=(A5.mp hj).1;have a8:j<((r0::er).map V.ref).length:=by rw[A0,lE];exact am
    have hq:(((r0::er).map V.ref)[j],(l s':Int)::s')∈((r0::er).map V.ref).zip ((g.filter λs=>decide (∀x∈e,x∈s)).map λs=>(l s:Int)::s):=
     B0 (i:=j) (V9.mpr ⟨A4 a8,by rw[C5,hj];rfl⟩)
    have hl:=h2 _ hq;have e2:k=(l m:Int)::m:=e2;rw[e2] at hl;dsimp only at hl;rw[HT.lexLt_cons] at hl;by_cases c:(l s':Int)=(l m:Int)
    ·lia
    ·rw[if_neg c] at hl;have:=of_decide_eq_false hl
     lia
theorem MovL.rev {H:Hp} {rs:List Addr} {b:List Mv} (h:MovL H rs b):MovL H rs.reverse b.reverse:=by
 induction h with
 |nil=>exact .nil
 |@cons r m l1 l2 a _ ih=>
  rw[W1,W1];exact U3 ih a
theorem sc_plan_to:FnScope ["reached","stand","plan"] ["reached","stand"] (qA8 qGQ):=qBO
theorem ok_plan_to (F:Fun K "plan_to" "plan_to" qGQ f fd):FnOk P w K mg base CX0 1 f fd ["reached","stand"] qUR:=by
 refine F.okA sc_plan_to λag A ae s H vs Q E hr h=>?_;obtain⟨d,t,o,Af,Ae,Aa,ks,fu,g,l,rfl,gd,aa,wf,RC,FR,lk,gt,u,q⟩:=h;have hu:=qID hr;refine⟨_,(qA4 (qAF (i:=2) sc_plan_to.nd rfl (E9 rfl) (qBX qA3)) (qA4 (qMO F1 (qF6 (qJL (qBY qCD (qCB hu (pv 0) (pv 1) (λ_ _=>rfl)) qA9 (λ_ _=>rfl)))) (qA4 (qEE (qOE J2 L9 M0 qD2 (pv 2) (qA0 (qBY qCD (qCB hu (pv 0) (pv 1) (λ_ _=>rfl)) qA9 (λ_ _=>rfl)) qA3))) (qA6 (qAF (i:=1) sc_plan_to.nd rfl (E9 rfl) (qBY qCD (qCB hu (pv 0) (pv 1) (λ_ _=>rfl)) qA9 (λ_ _=>rfl)))))) (qA4 (qEE (qaN J2 PySem.F.slot_list_reverse PySem.F.type_list_reverse qTF (pv 2))) (qA6 (qAK (pv 2)))))),?_⟩
 try dsimp only[Cx.nox,Cx.wish,cxOf]
 have pv:=FR.1;obtain⟨u0,_,a9⟩:=RC.snd l u;have ep:pth fu g l=qFF g u0 l:=by unfold pth;rw[show 2*fu l-l.length=u0 by lia]
 have a0:=(qQ1 wf RC pv u).2.2.2;rw[ep] at a0;refine⟨(by show 0<=B62;decide),λj e=>?_⟩
 have s1:=qA2 e (.lst []);refine⟨λm σ c=>∃(tr:Addr) (cur:List Int) (rs:List Addr) (done:List Mv),σ=[some (.ref d),some (.ref tr),some (.ref j)]/\Same H c/\c tr=some (.tup (cur.map V.int))/\cur∈ks/\2*fu cur=m+cur.length/\c j=some (.lst (rs.map V.ref))/\MovL c rs done/\qFF g u0 l=qFF g m cur++done.reverse,
  ⟨u0,t,l,[],[],rfl,s1,s1 _ _ gt,u,a9,qA1,.nil,by simp⟩,?_⟩
 refineλm σ c a6=>opq λah y=>?_;obtain⟨tr,cur,rs,done,rfl,sm,n,k,em,a,ML,ed⟩:=a6;refine y ?_;have ld:rs.length=done.length:=C2 ML;have ai:done.length+1<=ks.length:=by
  have:=congrArg n8 ed;rw[A9,A67] at this
  lia
 obtain⟨v,ev,vx⟩:=(aa.same sm).val k;rcases pv cur k with⟨a1,a2,a3⟩|⟨p,mv,a1,a2,a3,a4,a5⟩
 ·rw[a2] at vx;obtain⟨b,rfl,gv⟩:=vx;have dg:DGet c d (.ref tr) (some (.ref b)):=.inr ⟨Af,keyS cur,tr,.inr ⟨o,sm _ _ gd⟩,rfl,by rw[qFK];exact n,ev.symm⟩
  refine⟨_,rfl,_,rfl,d,.ref b,rfl,dg,b,_,_,_,rfl,rfl,Ac0 gv,rfl,_,rfl,?_⟩;refine iteF ?_;refine⟨_,rfl,.inl ⟨rfl,_,Ab2 a⟩,j,_,rfl,rfl,a,?_⟩;refine⟨_,rfl,q j _ (qAD sm e) e ?_⟩;have en:qFF g m cur=[]:=by
   cases m with
   |zero=>rfl
   |succ m=>show(match g cur with|none=>[]|some (p,m')=>qFF g m p++[m'])=[];rw[a2]
  rw[en,n9] at ed;rw[ep,ed];refine⟨rs.reverse,by rw[qA1,List.map_reverse],?_⟩
  exact(MovL.rev ML).putG a λx z=>by cases z
 ·rw[a1] at vx;obtain⟨b,rp,rm,rfl,gv,af,ab⟩:=vx;have dg:DGet c d (.ref tr) (some (.ref b)):=.inr ⟨Af,keyS cur,tr,.inr ⟨o,sm _ _ gd⟩,rfl,by rw[qFK];exact n,ev.symm⟩
  have a7:=em;rw[a5] at a7;obtain⟨v',e1,e2⟩:=qMB RC a2 a3 (by rw[<- a4];exact a7)
  subst e1;refine⟨_,rfl,_,rfl,d,.ref b,rfl,dg,b,_,_,_,rfl,rfl,Ac0 gv,rfl,_,rfl,?_⟩;refine iteT ?_;refine qc6 λN0 ac=>?_;refine⟨_,rfl,.inl ⟨rfl,_,Ab2 a⟩,_,rfl,_,rfl,d,.ref b,rfl,dg,b,_,_,_,rfl,rfl,Ac0 gv,rfl,j,_,_,rfl,rfl,a,small_n (by rw[A0];lia),?_⟩
  have s2:Same H (Ag c j (.lst (rs.map V.ref++[V.ref rm]))):=qAD sm e;have nt:∀kk x,HO.lst kk≠.tup x:=λkk x q=>by cases q
  have kp:∀(r:Addr) (x:List V),c r=some (.tup x)->(Ag c j (.lst (rs.map V.ref++[V.ref rm]))) r=some (.tup x):=λr x gg=>by
   rw[qA7 (qC6 gg a λz=>nt _ _ z.symm)];exact gg
  have a8:DGet (Ag c j (.lst (rs.map V.ref++[V.ref rm]))) d (.ref tr) (some (.ref b)):=.inr ⟨Af,keyS cur,tr,.inr ⟨o,s2 _ _ gd⟩,rfl,by rw[qFK];exact kp _ _ n,ev.symm⟩
  refine⟨_,rfl,_,rfl,d,.ref b,rfl,a8,b,_,_,_,rfl,rfl,Ac0 (kp _ _ gv),rfl,?_⟩;refine ac _ _ ⟨v',by lia,rp,p,rs++[rm],done++[mv],rfl,s2,kp _ _ af,a2,e2,by rw[qA1,qB4],?_,?_⟩
  ·exact MovL.putG (U3 ML ab) a (nt _)
  ·rw[ed];have ad:qFF g (v'+1) cur=qFF g v' p++[mv]:=by show(match g cur with|none=>[]|some (p,m')=>qFF g v' p++[m'])=_;rw[a1]
   rw[ad,List.reverse_append,F7]
   rfl
theorem qJD:FnScope ["works","asked"] ["works","asked"] (qA8 qCP):=qBO
theorem ok_part_numbers (F:Fun K "part_numbers" "part_numbers" qCP f fd) (a1:mg "tuple" = none):FnOk P w K mg base CX0 1 f fd ["works","asked"] qME:=by
 refine F.okA qJD λa3 A a2 s H vs Q E hr h=>?_;obtain⟨t,u,o,r,rfl,hT,hU,nd,la,lw,v,q⟩:=h;refine⟨_,(qA6 (qAK (qAB qAE rfl a1 qAQ (qA0 (qEJ rfl (lcs (own:=["work"]) (fv:=[0]) (by kernel_rfl)) (qDC (pv 1)) (λz=>qC0 0) (λz=>qBI) (λz=>(qe6 (X:=lcCx _ _ _ _ z) PySem.F.plainAttrs_tuple PySem.F.slot_tuple_index PySem.F.type_tuple_index (qQE (K:=K) rfl) (pv 1) (qA0 (pv 0) qA3)))) qA3)))),?_⟩
 try dsimp only[Cx.nox,Cx.wish,cxOf]
 refine⟨_,rfl,u,rfl,⟨_,Ac0 hU⟩,λp hp=>?_⟩;refine qFJ (p:=p) (a:=u) (xs:=r.map V.int) (λi σ m=>∃(v0:Option V),σ=[v0,some (.ref t)]/\Same H m/\m p=some (.lst ((qCZ o (r.take i)).map V.int))) ?_ ?_ ?_ ?_
 ·exact⟨none,rfl,qA2 hp _,qA1⟩
 ·rintro i σ m hi ⟨v0,rfl,sm,_⟩;exact Ac0 (sm _ _ hU)
 ·refineλi x σ m hx d=>opq λa5 n=>?_;obtain⟨v0,rfl,sm,b⟩:=d;obtain⟨y,ey,rfl⟩:=qB5 hx;refine n ?_;have lt:=(A5.mp ey).1;have c:=hT.same sm;have hy:=v y (B0 ey);obtain⟨j,hj⟩:=D6 hy;have lk:(qCZ o (r.take i)).length<=i:=F3 (a9 _ _) (by rw[C8];lia)
  have first:∀k,k<j->o[k]?≠some y:=λk hk e=>by
   obtain⟨h1,e1⟩:=A5.mp e;obtain⟨h2,e2⟩:=A5.mp hj;exact absurd (e1.trans e2.symm) (P5.mp nd k j h1 h2 hk)
  refine⟨_,rfl,⟨t,_,rfl,c⟩,_,rfl,t,o,y,j,rfl,rfl,c.sq,hj,first,_,b,qAI (by rw[A0];lia),_,rfl,qAD sm hp,?_⟩
  rw[qA1];unfold qCZ;rw[D3,ey,D5,Y1,M3,qE6 nd hj,C1]
  rfl
 ·refineλσ m g=>opq λa4 l=>?_;obtain⟨v0,rfl,sm,b⟩:=g;refine l ?_;rw[A0,X3] at b;refine⟨p,_,rfl,.inl ⟨Ab2 b,λr' a0=>?_⟩⟩;exact q r' _ (sm.trans (qA2 a0 _)) qA1
theorem sc_fewest:FnScope ["net","asked","works","part","wanted","rooms","end","reached"] ["net","asked"] (qA8 qIJ):=qBO
theorem ok_fewest (F:Fun K "fewest" "fewest" qIJ f fd) (b1:Clb P w K mg base 1 qBU qCF "all_needed" ["net","asked"] qUX) (aq:Clb P w K mg base 2 qEN qGJ "part_net" ["net","works"] qMD) (ao:Clb P w K mg base 1 qCW qFO "part_numbers" ["works","asked"] qME) (an:Clb P w K mg base 4 qC3 qEM "stands_reached" ["net","rooms"] qMC) (ax:Clb P w K mg base 2 qDO qKA "best_end" ["reached","asked"] (qUU Pt)) (az:Clb P w K mg base 1 qKD qTW "plan_to" ["reached","stand"] qUR) (as:mg "tuple" = none):FnOk P w K mg base CX0 5 f fd ["net","asked"] (qaF Pt):=by
 refine F.okA sc_fewest λbe A au s H vs Q E hr h=>?_;obtain⟨a,t,l,u,rfl,ak,hN,wf,bf,⟨hT,rA⟩,a1,q⟩:=h;have bc:Room 4 _:=hr;refine⟨_,(qA4 (qAF (i:=2) sc_fewest.nd rfl (A30 rfl) (qAB qKL rfl as qAQ (qA0 (qAL b1 hr rfl (qA0 (pv 0) (qA0 (pv 1) qA3))) qA3))) (qA4 (qAF (i:=3) sc_fewest.nd rfl (E9 rfl) (qAL aq hr rfl (qA0 (pv 0) (qA0 (pv 2) qA3)))) (qA4 (qAF (i:=4) sc_fewest.nd rfl (E9 rfl) (qAL ao hr rfl (qA0 (pv 2) (qA0 (pv 1) qA3)))) (qA4 (qAF (i:=5) sc_fewest.nd rfl (E9 rfl) qA9) (qA4 (qAF (i:=6) sc_fewest.nd rfl (E9 rfl) qJK) (qA4 (qMO F1 (qF6 (qaP (pv 6))) (qA4 (qdZ (i:=5) sc_fewest.nd rfl (E9 rfl) qA9 qaW) (qA4 (qAF (i:=7) sc_fewest.nd rfl (E9 rfl) (qAL an hr rfl (qA0 (pv 3) (qA0 (pv 5) qA3)))) (qA6 (qAF (i:=6) sc_fewest.nd rfl (E9 rfl) (qAL ax hr rfl (qA0 (pv 7) (qA0 (pv 4) qA3)))))))) (qA6 (qAK (qBW (qA0 (pv 5) (qA0 (qEJ rfl (lcs (own:=["word","number"]) (fv:=[2]) (by kernel_rfl)) (qDT (qAL az hr rfl (qA0 (pv 7) (qA0 (pv 6) qA3)))) (λz2=>qMR (K:=K) (n:=2) rfl rfl (qBH (qC0 0) (qBH (qC0 1) qFE)) rfl rfl) (λz2=>qBI) (λz2=>(qBW (qA0 (pv 0) (qA0 (qBY (qK1 (K:=K) rfl) (pv 2) (pv 1) (λ_ _=>rfl)) qA3))))) qA3))))))))))),?_⟩
 try dsimp only[Cx.nox,Cx.wish,cxOf]
 refine⟨_,rfl,_,rfl,a,t,l,u,rfl,hN,wf,by lia,hT,rA.in_,λla k H1 s1 bd b6 N=>?_⟩
 refine⟨la,_,rfl,Ab2 b6,λtw ob b4 oc od=>?_⟩;have s2:=s1.trans (qA2 b4 (.frz ob (.tup (k.map V.int))));have y:BareT (Ag H1 tw (.frz ob (.tup (k.map V.int)))) tw (k.map V.int):=⟨ob,qA1,oc,od⟩;generalize Ag H1 tw (.frz ob (.tup (k.map V.int)))=H2 at s2 y;refine⟨_,rfl,_,rfl,a,tw,l,k,rfl,hN.same s2,wf,by lia,(let⟨o,e,_⟩:=y;.inr ⟨o,e⟩),N.1,λb H3 s3 hB=>?_⟩
 have ai:=s2.trans s3;have lw:=N.1.len;have ha:∀x∈u,x∈k:=λx hx=>(N.2 x).mpr (.ask hx);have am:=rA.len;refine⟨_,rfl,_,rfl,tw,t,k,u,rfl,y.same s3,ai _ _ hT,N.1.nodup,by lia,by lia,ha,λwt H4 s4 aw=>?_⟩
 have a3:=ai.trans s4;have ad:=(y.same s3).same s4;have b7:=hB.same s4;have wp:WFn (qBQ l k):=qDN wf N.1;have lp:=qBP l k;have rW:=qHG N rA;have w1:1<=k.length:=by
  cases u with
  |nil=>simp at a1
  |cons x u=>exact U6 (ha x (by simp))
 have lW:=rW.len;refine⟨λm σ Hc=>∃(r:Nat) (e:V) (v7:Option V),σ=[some (.ref a),some (.ref t),some (.ref tw),some (.ref b),some (.ref wt),some (.int (r:Int)),some e,v7]/\Same H4 Hc/\
   ((e=.non/\m=k.length+1 - r/\r<=k.length/\∀ r':Int,1<=r'->r'<=(r:Int)->¬ qGD l k u r')\/
    (∃rr d o Af ks fu g st,e=.ref rr/\v7=some (.ref d)/\m=0/\Hc d=some (.frz o (.dT Af))/\EntX Hc Af ks fu g/\Rch (qBQ l k) (r:Int) ks fu/\PrvH (qBQ l k) (r:Int) ks fu g/\Hc rr=some (.tup (st.map V.int))/\(st∈ks/\∀x∈qCZ k u,x∈st)/\qPI l k u (r:Int))),
  ⟨_,0,.non,none,rfl,Same.refl _,.inl ⟨rfl,rfl,E2 _,λr' h1 h2=>absurd h1 (by lia)⟩⟩,?_⟩
 refineλm σ Hc a8=>opq λba ah=>?_;obtain⟨r,e,v7,rfl,sm,b3⟩:=a8;refine ah ?_;rcases b3 with⟨rfl,rfl,rn,nb⟩|⟨rr,d,o,Af,ks,fu,g,st,rfl,rfl,rfl,gd,ent,v,FR,a6,B,LR⟩
 ·refine⟨_,rfl,_,rfl,?_⟩;refine iteT ?_;refine qc6 λN0 ag=>?_;refine⟨_,rfl,_,_,rfl,rfl,?_⟩;refine⟨_,rfl,_,rfl,b,qBQ l k,(r:Int)+1,rfl,b7.same sm,wp,by lia,λd o Af ks fu g H5 s5 bh gd ent v FR=>?_⟩
  have a0:=sm.trans s5;have lk:=v.len;have pw:2^(qBQ l k).length<=2^12:=Q8 (by decide) (by lia)
  refine⟨_,rfl,_,rfl,d,wt,o,Af,ks,fu,qCZ k u,rfl,a0 _ _ (a3 _ _ ak),gd,ent.ent,F3 lk (by lia),a0 _ _ aw,by lia,λH6 s6=>⟨λhn=>?_,λrr st a6 aa a2 a4=>?_⟩⟩
  ·have nd:=qaS N rA (qPE wp rW v hn);have a7:∀r':Int,1<=r'->r'<=((r+1:Nat):Int)->¬qGD l k u r':=λr' h1 h2=>by
    by_cases c:r'<=(r:Int)
    ·exact nb r' h1 c
    ·rw[show r'=((r+1:Nat):Int) by lia]
     exact nd
   have ar:r+1<=k.length:=by
    apply L6;intro z;exact a7 (k.length:Int) (by lia) (by lia) (qOS wf N)
   exact ag _ _ ⟨k.length+1-(r+1),by lia,r+1,.non,_,rfl,a0.trans s6,.inl ⟨rfl,rfl,ar,a7⟩⟩
  ·have dn:=qcF N rA (qXV wp rW v aa a2 a4);refine ag _ _ ⟨0,by lia,r+1,.ref rr,_,rfl,a0.trans s6,.inr ⟨rr,d,o,Af,ks,fu,g,st,rfl,rfl,rfl,s6 _ _ gd,ent.same s6,v,FR,a6,⟨aa,a2⟩,by lia,dn,λr' h1 h2=>nb r' h1 (by lia)⟩⟩
 ·refine⟨_,rfl,_,rfl,?_⟩;refine iteF ?_;have lk:=v.len;have pw:2^(qBQ l k).length<=2^12:=Q8 (by decide) (by lia)
  refine⟨_,rfl,_,rfl,_,rfl,d,rr,o,Af,qBQ l k,(r:Int),ks,fu,g,st,rfl,gd,ent,wp,v,FR,F3 lk (by lia),a6,B.1,λl0 H6 s6 b9 PL=>?_⟩
  obtain⟨rs,af,ML⟩:=PL;obtain⟨_,_,mv,b8⟩:=qQ1 wp v FR.1 B.1;have b0:rs.length=(pth fu g st).length:=C2 ML;have aj:=(ad.same sm).same s6;refine⟨l0,rfl,⟨_,Ab2 af⟩,λp hp=>?_⟩;have fp:H p=none:=((a3.trans sm).trans s6).free hp;refine qHU (p:=p) (a:=l0) (xs:=rs.map V.ref) (λj σ Hd=>∃(v0 v1:Option V) (ts:List Addr),σ=[v0,v1,some (.ref tw)]/\Same H6 Hd/\Hd p=some (.lst (ts.map V.ref))/\MovL Hd ts (renM k ((pth fu g st).take j))) ?_ ?_ ?_ ?_
  ·exact⟨none,none,[],rfl,qA2 hp _,qA1,.nil⟩
  ·rintro j σ Hd hj ⟨v0,v1,ts,rfl,sd,_⟩;exact Ab2 (sd _ _ af)
  ·refineλj x σ Hd hx ab=>opq λbg ac=>?_;obtain⟨v0,v1,ts,rfl,sd,gp,MT⟩:=ab;obtain⟨b5,av,rfl⟩:=qEG hx;obtain⟨⟨Ac,wk⟩,a5,hH⟩:=qAY ML av;refine ac ?_;have hj:=(A5.mp a5).1;have a9:=sd _ _ hH;dsimp only at a9;obtain⟨_,w0,wb⟩:=mv _ (B0 a5);dsimp only at w0 wb;rw[lp] at wb;have hi:wk.toNat<k.length:=by lia
   have ay:atI (k.map V.int) wk=some (.int (renW k wk)):=by
    have e:=qDV (xs:=k.map V.int) (i:=wk) (x:=.int k[wk.toNat]) w0 (by rw[C5,A4 hi];rfl)
    rw[e];unfold renW;rw[A4 hi]
    rfl
   have lt:ts.length=(renM k ((pth fu g st).take j)).length:=C2 MT;unfold renM at lt;rw[A0,C8] at lt;refine⟨b5,_,rfl,Ac0 a9,rfl,_,_,rfl,_,_,rfl,rfl,?_⟩;refine⟨_,rfl,_,rfl,_,rfl,tw,_,_,_,rfl,rfl,(aj.same sd).sq,ay,(by show 2<=B62;decide),λtp b2=>?_⟩
   have s7:=qA2 b2 (.tup [.str Ac,.int (renW k wk)]);refine⟨_,s7 _ _ gp,small_n (by rw[A0];lia),_,_,ts++[tp],rfl,qAD (sd.trans s7) hp,by rw[qA1,qB4],?_⟩
   have er:renM k ((pth fu g st).take (j+1))=renM k ((pth fu g st).take j)++[(Ac,renW k wk)]:=by
    unfold renM;rw[D3,a5,D5,C1]
    rfl
   rw[er];exact MovL.putG (U3 (MT.same s7) qA1) (s7 _ _ gp) λxs z=>by cases z
  ·refineλσ H7 al=>opq λbb ae=>?_;obtain⟨v0,v1,ts,rfl,sd,gp,MT⟩:=al;refine ae ?_;rw[A0,b0,X3] at MT;refine⟨(by show 2<=B62;decide),λT ap=>?_⟩
   have s8:=qA2 ap (.tup [.int (r:Int),.ref p]);exact q T p (r:Int) _ _ ((((a3.trans sm).trans s6).trans sd).trans s8) ⟨k,ks,fu,g,st,N,LR,v,FR.1,B,rfl⟩ fp ⟨ts,s8 _ _ gp,MT.same s8⟩ qA1
theorem sc_never_paper:FnScope ["net","asked","rooms","works","reached"] ["net","asked","rooms"] (qA8 qDF):=qBO
theorem ok_never_paper (F:Fun K "never_paper" "never_paper" qDF f fd) (a9:Clb P w K mg base 1 qBU qCF "all_needed" ["net","asked"] qUX) (a3:Clb P w K mg base 2 qEN qGJ "part_net" ["net","works"] qMD) (a2:Clb P w K mg base 1 qCW qFO "part_numbers" ["works","asked"] qME) (a0:Clb P w K mg base 4 qC3 qEM "stands_reached" ["net","rooms"] qMC) (a8:Clb P w K mg base 2 qDO qKA "best_end" ["reached","asked"] (qUU Pt)) (a5:mg "tuple" = none):FnOk P w K mg base CX0 5 f fd ["net","asked","rooms"] (qRI Pt):=by
 refine F.okA sc_never_paper λai A a6 s H vs Q E l h=>?_;obtain⟨a,t,j,u,ws,Aa,rfl,r,hN,wf,aj,⟨hT,v⟩,a1,N,dn,q1⟩:=h;refine⟨_,(qA4 (qAF (i:=3) sc_never_paper.nd rfl (E9 rfl) (qAB qKL rfl a5 qAQ (qA0 (qAL a9 l rfl (qA0 (pv 0) (qA0 (pv 1) qA3))) qA3))) (qA4 (qAF (i:=4) sc_never_paper.nd rfl (E9 rfl) (qAL a0 l rfl (qA0 (qAL a3 l rfl (qA0 (pv 0) (qA0 (pv 3) qA3))) (qA0 (pv 2) qA3)))) (qA4 (qCL (qF6 (qJL (qAL a8 l rfl (qA0 (pv 4) (qA0 (qAL a2 l rfl (qA0 (pv 3) (qA0 (pv 1) qA3))) qA3))))) (qA6 (qAK qJK)) qAV) qO8))),?_⟩
 try dsimp only[Cx.nox,Cx.wish,cxOf]
 refine cut λN0 aa=>?_;refine⟨_,rfl,_,rfl,a,t,j,u,rfl,hN,wf,by lia,hT,v.in_,λla c H1 s1 ag ae N'=>?_⟩
 have ew:=qHR N' N;subst ew;refine⟨la,_,rfl,Ab2 ae,λq y ac oc od=>?_⟩;have s2:=s1.trans (qA2 ac (.frz y (.tup (c.map V.int))));have g:BareT (Ag H1 q (.frz y (.tup (c.map V.int)))) q (c.map V.int):=⟨y,qA1,oc,od⟩;generalize Ag H1 q (.frz y (.tup (c.map V.int)))=H2 at s2 g ⊢;refine aa _ _ (cut λN1 ab=>?_);refine⟨_,rfl,_,rfl,a,q,j,c,rfl,hN.same s2,wf,by lia,(let⟨o,e,_⟩:=g;.inr ⟨o,e⟩),N.1,λb H3 s3 hB=>?_⟩
 have ad:=s2.trans s3;have lw:=N.1.len;have wp:WFn (qBQ j c):=qDN wf N.1;have lp:=qBP j c;have ha:∀x∈u,x∈c:=λx hx=>(N.2 x).mpr (.ask hx);have z:=v.len;have rW:=qHG N v;have lW:=rW.len;refine⟨_,rfl,b,qBQ j c,Aa,rfl,hB,wp,by lia,λd o Af ks fu gX H4 s4 al gd p RC FR=>?_⟩
 have ent:=p.ent;have k:=ad.trans s4;have m:=(g.same s3).same s4;have lk:=RC.len;have pw:2^(qBQ j c).length<=2^12:=Q8 (by decide) (by lia)
 refine ab _ _ (cut λN2 ak=>?_);refine⟨_,rfl,_,rfl,_,rfl,q,t,c,u,rfl,m,k _ _ hT,N.1.nodup,by lia,by lia,ha,λwt H5 s5 a7=>?_⟩
 have n:=k.trans s5;refine⟨d,wt,o,Af,ks,fu,qCZ c u,rfl,n _ _ r,s5 _ _ gd,ent.same s5,F3 lk (by lia),a7,by lia,λH6 s6=>⟨λhn=>?_,λrr st am ah af a4=>?_⟩⟩
 ·exact absurd dn (qaS N v (qPE wp rW RC hn))
 ·refine⟨_,rfl,iteT ?_⟩;exact q1 _ (n.trans s6)
theorem qKV:FnScope ["self","move","word"] ["self","move","word"] (qA8 qBL):=qBO
theorem ok_init_Barred (F:Fun K "__init__" "Barred.__init__" qBL f fd) (qBV:XCls K qAM (some (.ref f))) (n_move:G3 K (.ref qAM) "move" = some none) (n_word:G3 K (.ref qAM) "word" = some none):FnOk P w K mg base CX0 1 f fd ["self","move","word"] (qPT qAM):=by
 refine F.okA qKV λi A g s H l Q E k h=>?_;obtain⟨x,a,b,rfl,j,q⟩:=h;refine⟨_,(qA4 (qV6 qBV (pv 0) (pv 1)) (qA6 (qV6 qBV (pv 0) (pv 2)))),?_⟩
 try dsimp only[Cx.nox,Cx.wish,cxOf]
 refine⟨_,rfl,_,rfl,x,none,rfl,j,n_move,.inl ⟨rfl,λe d c=>?_⟩⟩;refine⟨_,rfl,_,rfl,x,some e,rfl,qA1,n_word,.inr ⟨e,[("move",a)],rfl,c,by rw[qA7 c];exact qA1,(by show 1<1000;decide),?_⟩⟩
 rw[qUK c];exact q e d c
theorem sc_played:FnScope ["net","rooms","plan","stand","stands","number","move","word"] ["net","rooms","plan"] (qA8 qII):=qBO
theorem ok_played (F:Fun K "played" "played" qII f fd) (qBV:XCls K qAM (some (.ref qAO))) (qC1:j7 K (.ref qAO)=true) (qCS:mg "Barred" = some (.ref qAM))
  (qBB:FnOk P w K mg base CX0 1 qAO qCV ["self","move","word"] (qPT qAM)) (qBA:Binds K qCV ["self","move","word"] [])
  (qBS:Clb P w K mg base 2 qEO qGK "fault_of" ["net","rooms","stand","move"] qMG)
  (qAR:Clb P w K mg base 1 qC2 qDX "stand_behind" ["stand","move"] qGO)
  (qBD:mg "enumerate" = none):FnOk P w K mg base (CX1 P w) 3 f fd ["net","rooms","plan"] (qUQ qAM):=by
 refine F.okX sc_played (λvs H Q E h=>?_) (λap A al s H vs Q E hr h=>?_)
 ·obtain⟨a,l,u,ms,d,rfl,_⟩:=h
  rfl
 obtain⟨a,l,u,ms,d,rfl,⟨hN,wf,ao,⟨rs,hl,M⟩,as,aj,r0,an⟩,q,qE⟩:=h;have ar:Room 2 _:=hr;have ab:Room 2 _:=hr;refine⟨_,(qA4 (qAF (i:=3) sc_played.nd rfl (E9 rfl) (qBW qA3)) (qA4 (qAF (i:=4) sc_played.nd rfl (E9 rfl) (qBX (qA0 (pv 3) qA3))) (qA4 (qC8 own1 rfl (qMQ rfl qBD qD5 (qA0 (pv 2) qA3)) (qOD rfl (qBH (qAW (i:=5) sc_played.nd rfl (E9 rfl)) (qBH (qAW (i:=6) sc_played.nd rfl (E9 rfl)) qFE))) (qA4 (qAF (i:=7) sc_played.nd rfl (E9 rfl) (qAL qBS hr rfl (qA0 (pv 0) (qA0 (pv 1) (qA0 (pv 3) (qA0 (pv 6) qA3)))))) (qA4 (qCL (qF6 (qJL (pv 7))) (qA6 (qO9 rfl rfl qBV qC1 qBB ab rfl qCS qBA (qA0 (pv 5) (qA0 (pv 7) qA3)) (by decide))) qAV) (qA4 (qAF (i:=3) sc_played.nd rfl (E9 rfl) (qAL qAR hr rfl (qA0 (pv 3) (qA0 (pv 6) qA3)))) (qA6 (qEE (qOE J2 L9 M0 qD2 (pv 4) (qA0 (pv 3) qA3)))))))) (qA6 (qAK (pv 4)))))),?_⟩
 try dsimp only[Cx.nox,Cx.wish,cxOf]
 have af:=C2 M;refine⟨(by show 0<=B62;decide),λe he=>?_⟩
 refine⟨_,rfl,(by show 1<=B62;decide),λls g=>?_⟩
 have s1:=qA2 he (.tup []);have y:=s1.trans (qA2 g (.lst [.ref e]));have a4:H ls=none:=s1.free g;refine⟨_,rfl,l,rfl,⟨_,Ab2 (y _ _ hl)⟩,qa1 (a:=l) (xs:=rs.map V.ref) (λk σ n=>∃(ss:List Addr) (sts:Aa0) (r:Addr) (st:List Int) (v5 v6 v7:Option V),σ=[some (.ref a),some (.int d),some (.ref l),some (.ref r),some (.ref ls),v5,v6,v7]/\Same H n/\n ls=some (.lst (ss.map V.ref))/\NetL n ss ([]::sts)/\n r=some (.tup (st.map V.int))/\(st.length:Int)<=d/\sts.length=k/\∀sts' v,Play u d st (ms.drop k) sts' v->Play u d [] ms (sts++sts') v)
  ⟨[e],[],e,[],none,none,none,rfl,y,qA1,.cons ((qA2 g (.lst [.ref e])) _ _ qA1) .nil,(qA2 g (.lst [.ref e])) _ _ qA1,r0,rfl,λsts' v p=>p⟩ (λk σ n _ hP=>by obtain⟨_,_,_,_,_,_,_,_,sm,_⟩:=hP;exact Ab2 (sm _ _ hl)) ?_ ?_⟩
 ·refineλk x σ n T hx a8 hT=>opq λaq a6=>?_;obtain⟨ss,sts,r,st,v5,v6,v7,rfl,sm,a1,N,a0,a9,lk,go⟩:=a8;obtain⟨mv,am,rfl⟩:=qEG hx;obtain⟨⟨t,b⟩,hm,hH⟩:=qAY M am;refine a6 ?_;have hk:=(A5.mp hm).1;obtain⟨hw,a5,ac⟩:=aj _ (B0 hm);dsimp only at hw a5 ac hH;have ed:ms.drop k=(t,b)::ms.drop (k+1):=by
   obtain⟨ai,e⟩:=A5.mp hm;rw[P6 ai,e]
  have ah:b.toNat<u.length:=by lia
  have o:=A4 ah;have ak:=(wf b.toNat _ o).len;generalize u[b.toNat]=ns at o ak;have a2:wd u st d (t,b)=qCA ns st d t b:=by unfold wd;rw[o];rfl
  have sT:=qA2 hT (.tup [.int (k:Int),.ref mv]);refine⟨T,_,rfl,Ac0 qA1,rfl,_,_,rfl,_,_,rfl,rfl,?_⟩;generalize Ag n T (.tup [.int (k:Int),.ref mv])=Hd at sT ⊢;refine⟨_,rfl,_,rfl,_,rfl,_,rfl,a,r,mv,u,st,ns,d,b,t,rfl,hN.same (sm.trans sT),sT _ _ a0,by lia,(sm.trans sT) _ _ hH,hw,a5,o,by lia,λH2 ad=>?_⟩
  have y:=sT.trans ad;rcases qJ2 ns st d t b with e|⟨w0,e⟩
  ·rw[e];refine⟨_,rfl,_,rfl,?_⟩;rw[decide_eq_true (rfl:V.non=V.non)];refine⟨_,rfl,_,rfl,r,mv,st,t,b,rfl,y _ _ a0,by lia,(sm.trans y) _ _ hH,hw,λr' c H3 ae gr bh=>?_⟩
   have s3:=y.trans ae;have j:=s3 _ _ a1;have ag:=C2 N;rw[C6] at ag;refine⟨_,rfl,.inl ⟨rfl,_,Ab2 j⟩,_,rfl,ls,_,_,rfl,rfl,j,small_n (by rw[A0];lia),?_⟩
   rw[qB4];have N3:NetL H3 (ss++[r']) ([]::(sts++[c])):=U3 (NetL.sm N s3) gr;refine⟨ss++[r'],sts++[c],r',c,_,_,_,rfl,qAD (sm.trans s3) a4,qA1,NetL.put N3 j,?_,Beh.fits (m:=(t,b)) hw (a2.trans e) bh a9,by rw[A9,B9,lk],λsts' v p=>?_⟩
   ·rw[qA7 (qC6 gr j (by intro z;cases z))]
    exact gr
   ·rw[F7];exact go (c::sts') v (by rw[ed];exact .go (a2.trans e) bh p)
  ·rw[e];refine⟨_,rfl,_,rfl,?_⟩;rw[decide_eq_false (show¬V.str w0=V.non fromλz=>nomatch z)];refine⟨_,rfl,_,rfl,λx hx=>⟨x,.int (k:Int),.str w0,rfl,qA1,λdx a7 nx=>?_⟩⟩;rw[qA7 nx] at a7;refine⟨rfl,some dx,Ag H2 dx (XDic dx (xfs (.int (k:Int)) (.str w0))),(qRD nx),by rw[qA7 nx.symm];exact hx,?_⟩
   have pl:=go [] (.str w0) (by rw[ed];exact .stop (a2.trans e))
   rw[M4] at pl;exact qE sts w0 dx _ ((sm.trans y).trans (qA2 a7 _)) pl (by rw[lk];exact qA1)
 ·refineλσ n a3=>opq λau aa=>?_;obtain⟨ss,sts,r,st,v5,v6,v7,rfl,sm,a1,N,a0,a9,lk,go⟩:=a3;refine aa ?_;have pl:=go [] .non (by rw[A0,af,List.drop_length];exact .nil)
  rw[M4] at pl;exact⟨_,rfl,q ls sts n sm pl a4 ⟨ss,a1,N⟩⟩
theorem sc_moved:FnScope ["net","rooms","stand","move","word"] ["net","rooms","stand","move"] (qA8 qMK):=qBO
theorem ok_moved (F:Fun K "moved" "moved" qMK f fd) (qBV:XCls K qAM (some (.ref qAO))) (qC1:j7 K (.ref qAO)=true) (qCS:mg "Barred" = some (.ref qAM))
  (qBB:FnOk P w K mg base CX0 1 qAO qCV ["self","move","word"] (qPT qAM)) (qBA:Binds K qCV ["self","move","word"] [])
  (qBS:Clb P w K mg base 2 qEO qGK "fault_of" ["net","rooms","stand","move"] qMG)
  (qAR:Clb P w K mg base 1 qC2 qDX "stand_behind" ["stand","move"] qGO):FnOk P w K mg base (CX1 P w) 3 f fd ["net","rooms","stand","move"] (qUS qAM):=by
 refine F.okX sc_moved (λvs H Q E h=>?_) (λa3 A a1 s H vs Q E n h=>?_)
 ·obtain⟨a,so,mv,Ae,l,ns,u,m,k,rfl,_⟩:=h
  rfl
 obtain⟨a,so,mv,Ae,l,ns,u,m,k,rfl,⟨hN,c,a5,j,hw,v,a2,a0⟩,q,qE⟩:=h;have a4:Room 2 _:=n;have p:Room 2 _:=n;refine⟨_,(qA4 (qAF (i:=4) sc_moved.nd rfl (E9 rfl) (qAL qBS n rfl (qA0 (pv 0) (qA0 (pv 1) (qA0 (pv 2) (qA0 (pv 3) qA3)))))) (qA4 (qCL (qF6 (qJL (pv 4))) (qA6 (qO9 rfl rfl qBV qC1 qBB p rfl qCS qBA (qA0 qA9 (qA0 (pv 4) qA3)) (by decide))) qAV) (qA6 (qAK (qAL qAR n rfl (qA0 (pv 2) (qA0 (pv 3) qA3))))))),?_⟩
 try dsimp only[Cx.nox,Cx.wish,cxOf]
 refine⟨_,rfl,_,rfl,_,rfl,_,rfl,a,so,mv,Ae,l,ns,u,m,k,rfl,hN,c,by lia,j,hw,v,a2,a0,λH1 b=>?_⟩
 rcases qJ2 ns l u k m with e|⟨w0,e⟩
 ·rw[e];refine⟨_,rfl,_,rfl,?_⟩;rw[decide_eq_true (rfl:V.non=V.non)];refine⟨_,rfl,_,rfl,so,mv,l,k,m,rfl,b _ _ c,by lia,b _ _ j,hw,λr t H2 y g bh=>?_⟩
  exact q e r t H2 (b.trans y) g bh
 ·rw[e];refine⟨_,rfl,_,rfl,?_⟩;rw[decide_eq_false (show¬V.str w0=V.non fromλz=>nomatch z)];refine⟨_,rfl,λx hx=>⟨x,.int 0,.str w0,rfl,qA1,λo d nx=>?_⟩⟩;rw[qA7 nx] at d;refine⟨rfl,some o,Ag H1 o (XDic o (xfs (.int 0) (.str w0))),(qRD nx),by rw[qA7 nx.symm];exact hx,?_⟩
  exact qE w0 e o _ (b.trans (qA2 d _)) qA1
theorem sc_does:FnScope ["net","rooms","plan","asked","stands"] ["net","rooms","plan","asked"] (qA8 qRP):=qBO
theorem ok_does (F:Fun K "does" "does" qRP f fd) (k:A60 K (.ref qAM) (.ref qAM)=some true) (qCS:mg "Barred" = some (.ref qAM)) (p:FnOk P w K mg base (CX1 P w) 3 qEA qFN ["net","rooms","plan"] (qUQ qAM)) (e:Binds K qFN ["net","rooms","plan"] []) (q:J4 K (.ref qEA)=true) (n:mg "played" = some (.ref qEA)) (qEP:Clb P w K mg base 1 qH6 qLZ "has_all" ["results","works"] qUT):FnOk P w K mg base CX0 4 f fd ["net","rooms","plan","asked"] qPU:=by
 refine F.okA sc_does λx A u s H vs Q E v h=>?_;obtain⟨a,l,t,Ae,ms,Aa,z,rfl,PI,hT,l1,q1,q2⟩:=h;have m:Room 3 _:=v.mono (by decide)
 refine⟨_,(qA4 (qbQ (i:=4) (j:=none) rfl rfl sc_does.nd rfl (E9 rfl) p m rfl n q e .nil (qA0 (pv 0) (qA0 (pv 1) (qA0 (pv 2) qA3))) rfl qCS trivial (λev=>(qA6 (qAK qHN)))) (qA6 (qAK (qAL qEP v rfl (qA0 (qBY qES (pv 4) (qMS qGN qA9) (λ_ _=>rfl)) (qA0 (pv 3) qA3)))))),?_⟩
 try dsimp only[Cx.nox,Cx.wish,cxOf]
 refine⟨_,rfl,_,rfl,_,rfl,a,l,Ae,ms,Aa,rfl,PI,λls b H1 d o a1 y=>?_,λb w0 dx H1 d o a0=>⟨k,λex g=>?_⟩⟩
 ·obtain⟨ks,c,NK⟩:=id y;obtain⟨ss,r,ek,gr⟩:=qW8 NK;rw[ek] at c;refine⟨_,rfl,_,rfl,ls,_,_,_,rfl,rfl,Ab2 c,by rw[C1];exact qSR _ _,?_⟩
  refine⟨_,rfl,true,r,t,_,z,rfl,gr,.inl (d _ _ hT),l1,λH2 s2=>?_⟩;exact q1 b H2 (d.trans s2) o
 ·exact q2 b w0 _ (d.trans (qA2 g _)) o
theorem sc_use_counts:FnScope ["net","works","counts","work","need"] ["net","works"] (qA8 qE1):=qBO
theorem ok_use_counts (F:Fun K "use_counts" "use_counts" qE1 f fd) (qBK:mg "len" = none):FnOk P w K mg base CX0 1 f fd ["net","works"] qdN:=by
 refine F.okA sc_use_counts λac A ab s H vs Q E hr h=>?_;obtain⟨a,lw,Ae,ws,rfl,hN,wf,a9,u,wb,q⟩:=h;refine⟨_,(qA4 (qAF (i:=2) sc_use_counts.nd rfl (E9 rfl) (qAP qS3 (qBX (qA0 qA9 qA3)) (qAC qAA rfl qBK qBR (qA0 (pv 0) qA3)))) (qA4 (qC8 F1 rfl (qDT (pv 1)) (qAW (i:=3) sc_use_counts.nd rfl (E9 rfl)) (qA6 (qC8 F1 rfl (qDC (qBY qCD (pv 0) (pv 3) (λ_ _=>rfl))) (qAW (i:=4) sc_use_counts.nd rfl (E9 rfl)) (qA6 (qbS (pv 2) (pv 4) qZY qA9 qaW qIH))))) (qA6 (qAK (pv 2))))),?_⟩
 try dsimp only[Cx.nox,Cx.wish,cxOf]
 obtain⟨rs,hA,NL⟩:=id hN;have af:=C2 NL;have g:(((rs.map V.ref).length:Nat):Int)=(Ae.length:Int):=by rw[A0,C2 NL]
 refine⟨(by show 1<=B62;decide),λp0 aa=>?_⟩
 have s0:=qA2 aa (.lst [.int 0]);refine⟨_,rfl,a,_,rfl,.inr (Ac0 (s0 _ _ hA)),p0,_,_,rfl,rfl,qA1,by rw[g];lia,by rw[g];lia,?_,λd t=>?_⟩
 ·rw[g,B64];simp;lia
 have a7:H d=none:=s0.free t;have s1:=s0.trans (qA2 t (.lst (D8 ((((rs.map V.ref).length:Nat):Int)).toNat [V.int 0]).flatten));have a6:(Ag (Ag H p0 (.lst [.int 0])) d (.lst (D8 ((((rs.map V.ref).length:Nat):Int)).toNat [V.int 0]).flatten)) d=some (.lst ((D8 Ae.length (0:Int)).map V.int)):=by
  rw[qA1,rep0,g,D0]
 generalize Ag (Ag H p0 (.lst [.int 0])) d (.lst (D8 ((((rs.map V.ref).length:Nat):Int)).toNat [V.int 0]).flatten)=H1 at s1 a6 ⊢;refine⟨_,rfl,lw,rfl,⟨_,Ab2 (s1 _ _ u)⟩,qH5 (a:=lw) (xs:=ws.map V.int) (λi σ p=>∃(cs:List Int) (v3 v4:Option V),σ=[some (.ref a),some (.ref lw),some (.ref d),v3,v4]/\Same H p/\p d=some (.lst (cs.map V.int))/\CntX Ae.length cs (nds Ae (ws.take i)))
  ⟨_,none,none,rfl,s1,a6,CntX.nil _⟩ (λi σ p _ hP=>by obtain⟨_,_,_,_,m,_⟩:=hP;exact Ab2 (m _ _ u)) ?_ ?_⟩
 ·refineλi x σ p hx a2=>opq λad a1=>?_;obtain⟨cs,v3,v4,rfl,m,n,ct⟩:=a2;obtain⟨z,ez,rfl⟩:=qB5 hx;refine a1 ?_;have zb:=wb z (B0 ez);have hi:z.toNat<Ae.length:=by lia
  obtain⟨ai,r,h1,l1,h2,h3⟩:=hN.get (A4 hi);have rz:=wf z.toNat _ (A4 hi);have fs:=qZ6 (Ae:=Ae) ez;rw[qAS (A4 hi)] at fs;generalize Ae[z.toNat]=zs at h3 rz fs;refine⟨_,rfl,_,rfl,a,_,_,_,rfl,rfl,Ac0 (m _ _ h1),qDV zb.1 h2,r,rfl,⟨_,Ac0 (m _ _ h3)⟩,qHV (a:=r) (xs:=zs.map V.int) (λk σ Hd=>∃(cs:List Int) (v4:Option V),σ=[some (.ref a),some (.ref lw),some (.ref d),some (.int z),v4]/\Same H Hd/\Hd d=some (.lst (cs.map V.int))/\CntX Ae.length cs (nds Ae (ws.take i)++zs.take k))
   ⟨cs,v4,rfl,m,n,by simpa using ct⟩ (λk σ Hd _ hP=>by obtain⟨_,_,_,e,_⟩:=hP;exact Ac0 (e _ _ h3)) ?_ ?_⟩
  ·refineλk x σ Hd hx v=>opq λah a8=>?_;obtain⟨cs,v4,rfl,e,l,b⟩:=v;obtain⟨y,ey,rfl⟩:=qB5 hx;refine a8 ?_;have o:=rz.in_ y (B0 ey);have hc:=b.get o.1 (by lia)
   generalize ((List.count y (nds Ae (ws.take i)++zs.take k):Nat):Int)=c at hc;refine⟨_,rfl,_,rfl,d,_,_,_,rfl,rfl,Ab2 l,qDV o.1 (by rw[C5,hc];rfl),_,_,rfl,rfl,d,_,_,y.toNat,rfl,rfl,l,?_,?_⟩
   ·have:=qQQ (xs:=cs.map V.int) (j:=y.toNat) (by rw[A0,b.len];lia)
    rw[show((y.toNat:Nat):Int)=y by lia] at this
    exact this
   ·refine⟨cs.set y.toNat (c+1),_,rfl,qAD e a7,?_,?_⟩
    ·rw[qA1,A44]
    ·rw[D3,ey,D5,<- F7];exact b.bump o.1 (by lia) hc
  ·refineλσ Hd a4=>opq λae a5=>?_;obtain⟨cs,v4,rfl,e,l,b⟩:=a4;refine a5 ?_;rw[A0,qB2 rfl,<- fs] at b;exact⟨cs,_,_,rfl,e,l,b⟩
 ·refineλσ p a3=>opq λag a0=>?_;obtain⟨cs,v3,v4,rfl,m,n,ct⟩:=a3;refine a0 ?_;rw[A0,qB2 rfl] at ct;exact⟨_,rfl,q d cs p m a7 n ct⟩
theorem sc_is_tree:FnScope ["net","work","needed","counts"] ["net","work"] (qA8 qGR):=qBO
theorem ok_is_tree (F:Fun K "is_tree" "is_tree" qGR f fd)
  (a2:Clb P w K mg base 1 qBU qCF "all_needed" ["net","asked"] qUX)
  (u:Clb P w K mg base 1 qFP qN4 "use_counts" ["net","works"] qdN)
  (a0:mg "all" = none):FnOk P w K mg base CX0 2 f fd ["net","work"] qRL:=by
 refine F.okA sc_is_tree λa6 A a5 s H vs Q E t h=>?_;obtain⟨a,Ae,b,rfl,hN,wf,c,w0,w1,q⟩:=h;have a7:Room 1 _:=t;have ab:Room 1 _:=t;refine⟨_,(qA4 (qAF (i:=2) sc_is_tree.nd rfl (E9 rfl) (qAL a2 t rfl (qA0 (pv 0) (qA0 (qBW (qA0 (pv 1) qA3)) qA3)))) (qA4 (qAF (i:=3) sc_is_tree.nd rfl (A30 rfl) (qAL u t rfl (qA0 (pv 0) (qA0 (pv 2) qA3)))) (qA6 (qAK (qAC (qSP rfl) rfl a0 qb6 (qA0 (qEJ rfl (lcs (own:=["other"]) (fv:=[3,1]) (by kernel_rfl)) (qDT (pv 2)) (λz1=>qC0 0) (λz1=>(qFC (qAU qZ0 (pv 0) (pv 2) (qBF _)))) (λz1=>(qHM qMU (qBY (qSB (K:=K) rfl) (pv 1) (pv 0) (λ_ _=>rfl)) qA9 (qBF _)))) qA3)))))),?_⟩
 try dsimp only[Cx.nox,Cx.wish,cxOf]
 refine⟨_,rfl,_,rfl,(by show 1<=B62;decide),λtp a3=>?_⟩
 have s1:=qA2 a3 (.tup [.int b]);refine⟨a,tp,Ae,[b],rfl,hN.same s1,wf,c,qA1,λx hx=>by rw[A6.mp hx];exact⟨w0,w1⟩,λl k H1 a1 fl v nd=>?_⟩
 have s2:=s1.trans a1;refine⟨_,rfl,_,rfl,a,l,Ae,k,rfl,hN.same s2,wf,c,v,nd.1.in_,λco cs H2 g aa a4 ct=>?_⟩;have s3:=s2.trans g;refine⟨_,rfl,l,rfl,⟨_,Ab2 (g _ _ v)⟩,λp hp=>?_⟩;refine qHU (p:=p) (a:=l) (xs:=k.map V.int) (λi σ j=>∃(v0:Option V),σ=[v0,some (.ref co),some (.int b)]/\Same H2 j/\j p=some (.lst ((((k.take i).filter λx=>decide (x≠b)).map λx=>decide (V.int (cI Ae k x)=V.int 1)).map V.bl))) ?_ ?_ ?_ ?_
 ·exact⟨none,rfl,qA2 hp _,qA1⟩
 ·rintro i σ j hi ⟨v0,rfl,sd,_⟩;exact Ab2 (sd _ _ (g _ _ v))
 ·refineλi x σ j hx n=>opq λa9 o=>?_;obtain⟨v0,rfl,sd,d⟩:=n;obtain⟨y,ey,rfl⟩:=qB5 hx;refine o ?_;have yb:=nd.1.in_ y (B0 ey);have lz:=nd.1.len;have lk:=qCE (p:=λx=>decide (x≠b)) (l:=k) (i:=i);have li:=(A5.mp ey).1;refine⟨_,rfl,_,rfl,rfl,_,rfl,?_⟩;rw[qDW ey];by_cases e:y=b
  ·rw[decide_eq_true (show V.int y=V.int b by rw[e]),decide_eq_false (show¬y≠b fromλz=>z e)]
   refine⟨_,rfl,sd,?_⟩;simpa using d
  ·rw[decide_eq_false (show¬V.int y=V.int b fromλz=>e (V.int.inj z)),decide_eq_true (show y≠b from e)];refine⟨_,rfl,_,rfl,co,_,_,_,rfl,rfl,Ab2 (sd _ _ a4),qDV yb.1 (by rw[C5,ct.get yb.1 yb.2];rfl),rfl,_,d,qAI (by rw[A0,A0];lia),_,rfl,qAD sd hp,?_⟩
   rw[qA1,if_pos rfl,C1,C1]
   rfl
 ·refineλσ j m=>opq λa8 r=>?_;obtain⟨v0,rfl,sd,d⟩:=m;refine r ?_;rw[A0,qB2 rfl] at d;refine⟨p,_,rfl,Ab2 d,?_⟩;rw[qYA];exact q k j (s3.trans sd) nd
theorem qKW:FnScope ["net","work"] ["net","work"] (qA8 qDH):=qBO
theorem ok_demand_tree (F:Fun K "demand_tree" "demand_tree" qDH f fd) (c:Clb P w K mg base 2 qKF qTX "is_tree" ["net","work"] qRL):FnOk P w K mg base CX0 3 f fd ["net","work"] qRM:=by
 refine F.okA qKW λj A d s H x Q E r h=>?_;obtain⟨a,t,b,rfl,⟨l,g,e,k,n,m,u,i⟩,q⟩:=h;refine⟨_,(qA6 (qCL (qRW (qJG (qAL c r rfl (qA0 (pv 0) (qA0 (pv 1) qA3))))) qO8 qAV)),?_⟩
 try dsimp only[Cx.nox,Cx.wish,cxOf]
 refine⟨_,rfl,_,rfl,a,t,b,rfl,l,g,by lia,k,by lia,λv p o N=>?_⟩
 rw[qVR g m u i N];exact⟨_,rfl,q p o⟩
theorem sc_number_over:FnScope ["falling","taken"] ["falling"] (qA8 qDE):=qBO
theorem ok_number_over (F:Fun K "number_over" "number_over" qDE f fd) (qBD:mg "enumerate" = none) (z:mg "max" = none) (qBK:mg "len" = none):FnOk P w K mg base CX0 1 f fd ["falling"] qaE:=by
 refine F.okA sc_number_over λa0 A u s H vs Q E hr h=>?_;obtain⟨p,d,rfl,r,ld,q⟩:=h;refine⟨_,(qA4 (qOA (i:=1) sc_number_over.nd rfl rfl rfl (lcs (own:=["ahead","number"]) (fv:=[]) (by kernel_rfl)) (qMQ rfl qBD qD5 (qA0 (pv 0) qA3)) (λz1=>qMR (K:=K) (n:=2) rfl rfl (qBH (qC0 0) (qBH (qC0 1) qFE)) rfl rfl) (λz1=>qBI) (λz1=>(qAP qD1 (pv 1) (pv 0))) (by kernel_rfl)) (qA6 (qAK (qAC (qHA rfl) rfl z qP9 (qA0 (qAP qLR (qBX (qA0 (qAP qD1 (qAC qAA rfl qBK qBR (qA0 (pv 0) qA3)) qA9) qA3)) (pv 1)) qA3))))),?_⟩
 try dsimp only[Cx.nox,Cx.wish,cxOf]
 refine⟨_,rfl,p,rfl,⟨_,Ab2 r⟩,λl hl=>?_⟩;refine qQL (p:=l) (a:=p) (xs:=d.map V.int) (λi σ o=>∃(v w:Option V),σ=[v,w]/\Same H o/\o l=some (.lst ((qDB d i).map V.int))) ?_ ?_ ?_ ?_
 ·exact⟨none,none,rfl,qA2 hl _,qA1⟩
 ·rintro i σ o hi ⟨v,w,rfl,sm,_⟩;exact Ab2 (sm _ _ r)
 ·refineλi x σ o T hx g hT=>opq λa2 j=>?_;obtain⟨v,w,rfl,sm,e⟩:=g;obtain⟨y,ey,rfl⟩:=qB5 hx;refine j ?_;have hi:=(A5.mp ey).1;have sT:=qA2 hT (.tup [.int (i:Int),.int y]);have t:=sT _ _ e;refine⟨T,_,rfl,Ac0 qA1,rfl,_,_,rfl,_,_,rfl,rfl,?_⟩;refine⟨_,rfl,_,rfl,_,_,rfl,rfl,_,t,small_n (by rw[A0,qLJ];lia),?_⟩
  refine⟨_,_,rfl,qAD (sm.trans sT) hl,?_⟩;rw[qA1,qPQ ey,C1]
  rfl
 ·refineλσ o k=>opq λa1 m=>?_;obtain⟨v,w,rfl,sm,e⟩:=k;refine m ?_;rw[A0] at e;refine⟨_,rfl,p,_,rfl,.inl (Ab2 (sm _ _ r)),_,_,rfl,rfl,(by show 1<=B62;decide),λb hb=>?_⟩
  have sb:=qA2 hb (.lst [.int ((((d.map V.int).length:Nat):Int)+1)]);refine⟨_,rfl,b,l,_,_,rfl,rfl,qA1,sb _ _ e,(by simp only[A0,qLJ,B9,B64];lia),λc hc=>?_⟩
  have sc:=qA2 hc (.lst ([V.int ((((d.map V.int).length:Nat):Int)+1)]++(qDB d d.length).map V.int));refine⟨c,(((d.length:Nat):Int)+1)::qDB d d.length,_,rfl,Ab2 ?_,rfl,q _ ((sm.trans sb).trans sc)⟩;rw[qA1,A0]
  rfl
section
variable{P:B63}{w:World}{K:Ab1}{mg:Ab0}{base:Heap}{f:Addr}{fd:B77}{qEY qBU qEV:Addr}{qL8 qCF qL5:B77}
theorem sc_numbers_of:FnScope ["net","work","numbers","other"] ["net","work"] (qA8 qE4):=qBO
theorem ok_numbers_of (F:Fun K "numbers_of" "numbers_of" qE4 f fd) (am:Clb P w K mg base 3 qEY qL8 "demand_tree" ["net","work"] qRM) (aq:Clb P w K mg base 1 qBU qCF "all_needed" ["net","asked"] qUX) (as:Clb P w K mg base 1 qEV qL5 "number_over" ["falling"] qaE) (qBG:mg "sorted" = none) (ao:mg "list" = none):FnOk P w K mg base CX0 4 f fd ["net","work"] qJA:=by
 refine F.okA sc_numbers_of λaz A af s H vs Q E hr h=>?_;obtain⟨a,Ae,c,rfl,TI,q⟩:=h;obtain⟨hN,wf,av,w0,n,on,hn,wn⟩:=id TI;have hu:=qID hr;refine⟨_,(qA4 (qEE (qAL am hr rfl (qA0 (pv 0) (qA0 (pv 1) qA3)))) (qA4 (qAF (i:=2) sc_numbers_of.nd rfl (A30 rfl) qGV) (qA4 (qC8 F1 rfl (qDT (qAL aq hr rfl (qA0 (pv 0) (qA0 (qBW (qA0 (pv 1) qA3)) qA3)))) (qAW (i:=3) sc_numbers_of.nd rfl (E9 rfl)) (qA6 (qFD hu (pv 2) (pv 3) (qAL as hr rfl (qA0 (qYS rfl rfl qBG qD4 (qA0 (qEJ rfl (lcs (own:=["need"]) (fv:=[2]) (by kernel_rfl)) (qDC (qBY qCD (pv 0) (pv 3) (λ_ _=>rfl))) (λz1=>qC0 0) (λz1=>qBI) (λz1=>(qCB hu (pv 1) (pv 0) (λ_ _=>rfl)))) qA3) (qMP qHN qV8)) qA3)) rfl))) (qA6 (qAK (qAB (qU6 rfl) rfl ao qXQ (qA0 (qaN A10 PySem.F.slot_dict_items PySem.F.type_dict_items qZB (pv 2)) qA3))))))),?_⟩
 try dsimp only[Cx.nox,Cx.wish,cxOf]
 refine⟨_,rfl,_,rfl,a,Ae,c,rfl,TI,λH1 s1=>?_⟩;intro o a3;have s2:=s1.trans (qA2 a3 (.dK []));have ae:(Ag H1 o (.dK [])) o=some (.dK (qDK [] λ_=>0)):=qA1;generalize Ag H1 o (.dK [])=H2 at s2 ae ⊢;have an:H o=none:=s1.free a3;refine⟨_,rfl,_,rfl,(by show 1<=B62;decide),λta ap=>?_⟩
 have a0:=qA2 ap (.tup [.int c]);have a4:(Ag H2 ta (.tup [.int c])) ta=some (.tup ([c].map V.int)):=qA1;have s3:=s2.trans a0;have a6:=a0 _ _ ae;generalize Ag H2 ta (.tup [.int c])=H3 at a4 s3 a6 ⊢;refine⟨a,ta,Ae,[c],rfl,hN.same s3,wf,by lia,a4,(λx hx=>by rw[A6.mp hx];lia),λlw u H4 s4 f4 gw N=>?_⟩
 have lz:=N.1.len;have s5:=s3.trans s4;have ac:=s4 _ _ a6;have ar:lw≠o:=qC6 gw ac (by intro z;cases z)
 obtain⟨rs,hA,NL⟩:=id hN;refine⟨lw,rfl,⟨_,Ab2 gw⟩,qH5 (a:=lw) (xs:=u.map V.int) (λi σ Hc=>∃(f:Int->Int) (v3:Option V),σ=[some (.ref a),some (.int c),some (.ref o),v3]/\Same H Hc/\Hc lw=some (.lst (u.map V.int))/\Hc o=some (.dK (qDK (u.take i) f))/\NumOn Ae (u.take i) f)
  ⟨λ_=>0,none,rfl,s5,gw,ac,λz hz=>by simp at hz⟩ (λi σ Hc _ hP=>by obtain⟨_,_,_,_,g,_⟩:=hP;exact Ab2 g) ?_ ?_⟩
 ·refineλi x σ Hc hx a9=>opq λb1 a8=>?_;obtain⟨g,v3,rfl,sc,a7,d,NO⟩:=a9;obtain⟨z,ez,rfl⟩:=qB5 hx;refine a8 ?_;have hi:=(A5.mp ez).1;have zb:=N.1.in_ z (B0 ez);have hw:z.toNat<Ae.length:=by lia
  obtain⟨b2,r,h1,l1,h2,h3⟩:=hN.get (A4 hw);have rz:=wf z.toNat _ (A4 hw);have en:=qAS (A4 hw);generalize Ae[z.toNat]=ys at h3 rz en;have ax:=rz.len;have ag:∀y∈ys,y∈u.take i:=λy hy=>(qEL wf N ez (by rw[en];exact hy)).1
  refine⟨_,rfl,_,rfl,a,_,_,_,rfl,rfl,Ac0 (sc _ _ h1),qDV zb.1 h2,r,rfl,⟨_,Ac0 (sc _ _ h3)⟩,λp hp=>?_⟩;refine qFJ (p:=p) (a:=r) (xs:=ys.map V.int) (λj σ Hd=>∃(v:Option V),σ=[v,some (.ref o)]/\Same Hc Hd/\Hd p=some (.lst (((ys.take j).map g).map V.int))) ?_ ?_ ?_ ?_
  ·exact⟨none,rfl,qA2 hp _,qA1⟩
  ·rintro j σ Hd hj ⟨v,rfl,sd,_⟩;exact Ac0 (sd _ _ (sc _ _ h3))
  ·refineλj x σ Hd hx ad=>opq λb0 a5=>?_;obtain⟨v,rfl,sd,t⟩:=ad;obtain⟨y,ey,rfl⟩:=qB5 hx;refine a5 ?_;have hj:=(A5.mp ey).1;have hg:=DGet.k (k:=F4 y) (sd _ _ d);rw[qIF (ag y (B0 ey))] at hg;refine⟨_,rfl,_,rfl,o,_,rfl,hg,_,t,small_n (by rw[A0,A0,C8];lia),?_⟩
   refine⟨_,rfl,qAD sd hp,?_⟩;rw[qA1,D3,ey,D5,C1,C1]
   rfl
  refineλσ Hd a1=>opq λaw ab=>?_;obtain⟨v,rfl,sd,t⟩:=a1;refine ab ?_;rw[A0,qB2 rfl] at t;refine⟨p,_,rfl,rfl,Ab2 t,by rw[A0];lia,λb ds hb pm st=>?_⟩
  have ak:=pm.length_eq;rw[A0] at ak;have sb:=qA2 hb (.lst (ds.map V.int));refine⟨b,ds,rfl,qA1,by lia,λHe se=>?_⟩
  have ah:=sc.trans (sd.trans (sb.trans se));have au:=(sd.trans (sb.trans se)) _ _ d;have ai:=(sd.trans (sb.trans se)) _ _ a7;have hz:z∉u.take i:=λm=>by have:=qHI N ez m;lia
  have ns:=NumOn.snoc wf N ez NO (by rw[en];exact pm) st
  refine⟨_,rfl,_,rfl,o,_,rfl,DPut.k (k:=F4 z) au (small_n (by unfold qDK;rw[A0,C8];lia)),?_⟩
  refine⟨_,_,rfl,qAD ah an,by rw[qA7 ar];exact ai,?_,ns.1⟩
  rw[qA1,qRV hz,D3,ez]
  rfl
 ·refineλσ Hc aa=>opq λay a2=>?_;obtain⟨g,v3,rfl,sc,a7,d,NO⟩:=aa;refine a2 ?_;rw[A0,qB2 rfl] at d NO;refine⟨_,rfl,.inr (.inr (.inl ⟨rfl,.inl ⟨_,d⟩⟩)),o,_,rfl,rfl,d,λvw al=>?_⟩;have sv:=qA2 al (qY0 vw o);refine⟨vw,o,_,rfl,qA1,sv _ _ d,(λp hp=>by obtain⟨z,_,e⟩:=E1.mp hp;exact⟨z,by rw[<- e]⟩),λl aj H' fl ext gl PP=>?_⟩
  refine q l aj u g H' ((sc.trans sv).trans ext) ((sc.trans sv).free fl) N NO gl (qJN (F:=λr (kv:Key×V)=>H' r=some (.tup [kV kv.1,kv.2])) (h:=λz=>((F4 z:Key),V.int (g z))) PP)
end
section
variable{P:B63}{w:World}{K:Ab1}{mg:Ab0}{base:Heap}{f:Addr}{fd:B77}{qD3:Addr}{qEU:B77}
theorem qMI:FnScope ["net","work"] ["net","work"] (qA8 qE2):=qBO
theorem ok_tree_rooms (F:Fun K "tree_rooms" "tree_rooms" qE2 f fd) (qC9:Clb P w K mg base 4 qD3 qEU "numbers_of" ["net","work"] qJA) (qRA:mg "dict" = none):FnOk P w K mg base CX0 5 f fd ["net","work"] qJ8:=by
 refine F.okA qMI λo A i s H vs Q E m h=>?_;obtain⟨a,v,b,rfl,x,q⟩:=h;have hu:=qID m;refine⟨_,(qA6 (qAK (qCB hu (qAB (qM3 rfl) rfl qRA qXT (qA0 (qAL qC9 m rfl (qA0 (pv 0) (qA0 (pv 1) qA3))) qA3)) (pv 1) (λ_ _=>rfl)))),?_⟩
 try dsimp only[Cx.nox,Cx.wish,cxOf]
 refine⟨_,rfl,_,rfl,a,v,b,rfl,x,λl rs c g p s1 f1 N y u PP=>?_⟩;refine⟨l,rs,c.map λz=>(z,V.int (g z)),rfl,Ab2 u,qI4 (qEK PP λr z e=>Ac0 e),λd hd=>?_⟩;have t:=qA2 hd (.dK (qDS [] (c.map λz=>(z,V.int (g z)))));have n:(Ag p d (.dK (qDS [] (c.map λz=>(z,V.int (g z)))))) d=some (.dK (qDK c g)):=by
  rw[qA1];exact congrArg (λk=>some (HO.dK k)) (qHJ (l:=[]) (f:=g) N.1.nodup)
 have j:=DGet.k (k:=F4 b) n;rw[qIF (qBM N)] at j;exact⟨_,rfl,d,_,rfl,j,q c g _ (s1.trans t) N y⟩
end
theorem sc_tree_plan:FnScope ["net","work","numbers","plans","other","plan","need"] ["net","work"] (qA8 qC5):=qBO
theorem ok_tree_plan (F:Fun K "tree_plan" "tree_plan" qC5 f fd) (hcd:fd.code=.ref cc) (hBM:BM mg base) (qE9:hdIn K cc Pt=true) (qC9:Clb P w K mg base 4 qD3 qEU "numbers_of" ["net","work"] qJA) (qRA:mg "dict" = none) (qBG:mg "sorted" = none):FnOk P w K mg base CX0 5 f fd ["net","work"] (qLK Pt):=by
 refine F.okL hcd sc_tree_plan (λvs H Q E h=>?_) (λA bj s H vs Q E hr h=>?_)
 ·obtain⟨a,Ae,a0,rfl,_⟩:=h
  rfl
 obtain⟨a,Ae,a0,rfl,bb,TI,q⟩:=h;have hu:=qID hr;have rm:Room 2 _:=hr.mono (by decide)
 refine⟨_,(qA4 (qAF (i:=2) sc_tree_plan.nd rfl (A30 rfl) (qe5 (qAB (qM3 rfl) rfl qRA qXT (qA0 (qAL qC9 hr rfl (qA0 (pv 0) (qA0 (pv 1) qA3))) qA3)))) (qA4 (qAF (i:=3) sc_tree_plan.nd rfl (E9 rfl) qGV) (qA4 (qC8 F1 rfl (qYR (pv 2)) (qAW (i:=4) sc_tree_plan.nd rfl (E9 rfl)) (qA4 (qAF (i:=5) sc_tree_plan.nd rfl (E9 rfl) (qBX qA3)) (qA4 (qC8 F1 rfl (qDT (qYT (p:="one") (fv:=[2]) (q:="tree_plan.<locals>.<lambda>") rm rfl qBG qD4 hBM rfl qE9 (by kernel_rfl) (lms (by kernel_rfl)) rfl (λ_ _ _ _ _=>rfl) (qA0 (qBY qCD (pv 0) (pv 4) (λ_ _=>rfl)) qA3) (λz1=>(qBW (qA0 (qMS qGN (qCB (lm_hu _) (pv 1) (pv 0) (λ_ _=>rfl))) (qA0 (pv 0) qA3)))))) (qAW (i:=6) sc_tree_plan.nd rfl (E9 rfl)) (qA6 (qEE (qOE J2 PySem.F.slot_list_extend PySem.F.type_list_extend qVV (pv 5) (qA0 (qYV (pv 3) (pv 6) ⟨rfl,rfl,rfl,rfl⟩) qA3))))) (qA4 (qEE (qOE J2 L9 M0 qD2 (pv 5) (qA0 (qBW (qA0 qCI (qA0 (pv 4) qA3))) qA3))) (qA6 (qFD hu (pv 3) (pv 4) (qAP qLR (pv 5) (qEJ rfl (lcs (own:=["need"]) (fv:=[]) (by kernel_rfl)) (qDC (qBY qCD (pv 0) (pv 4) (λ_ _=>rfl))) (λz2=>qC0 0) (λz2=>qBI) (λz2=>(qBW (qA0 qCI (qA0 (pv 0) qA3)))))) rfl)))))) (qA6 (qAK (qCB hu (pv 3) (pv 1) (λ_ _=>rfl))))))),?_⟩
 try dsimp only[Cx.nox,Cx.wish,cxOf]
 refine cut λN0 br=>?_;refine⟨_,rfl,_,rfl,a,Ae,a0,rfl,TI,λl rs zs g H1 s1 f1 N NO gl PP=>?_⟩;refine⟨l,rs,zs.map λz=>(z,V.int (g z)),rfl,Ab2 gl,qI4 (qEK PP λr z e=>Ac0 e),λd hd=>?_⟩;have gd:(Ag H1 d (.dK (qDS [] (zs.map λz=>(z,V.int (g z)))))) d=some (.dK (qDK zs g)):=by
  rw[qA1];exact congrArg (λk=>some (HO.dK k)) (qHJ (l:=[]) (f:=g) N.1.nodup)
 refine⟨d,_,rfl,gd,λo=>?_⟩;have sd:Same H (Ag (Ag H1 d (.dK (qDS [] (zs.map λz=>(z,V.int (g z)))))) d (.frz o (.dK (qDK zs g)))):=qAD (s1.trans (qA2 hd _)) (s1.free hd);have gf:(Ag (Ag H1 d (.dK (qDS [] (zs.map λz=>(z,V.int (g z)))))) d (.frz o (.dK (qDK zs g)))) d=some (.frz o (.dK (qDK zs g))):=qA1;generalize Ag (Ag H1 d (.dK (qDS [] (zs.map λz=>(z,V.int (g z)))))) d (.frz o (.dK (qDK zs g)))=H2 at sd gf ⊢;have T:=TI.tin N;obtain⟨Pl,PO⟩:=exP T g;refine br _ _ (cut λN1 bt=>?_);intro n ah;have s3:=sd.trans (qA2 ah (.dK []));have aq:H n=none:=sd.free ah;have g3:(Ag H2 n (.dK [])) n=some (.dK []):=qA1;have a6:=qA2 ah (.dK []) _ _ gf;have ar:d≠n:=qC6 a6 g3 (by intro z;cases z)
 generalize Ag H2 n (.dK [])=H3 at s3 g3 a6 ⊢;obtain⟨hN,wf,bv,w0,_⟩:=id TI;have lz:=N.1.len;refine bt _ _ (cut λN2 bs=>?_);refine⟨_,rfl,d,o,_,rfl,a6,qWV (a:=d) (o:=o) (Af:=qDK zs g) (λi σ Hc=>∃(ad:Int->Addr) (v4 v5 v6:Option V),σ=[some (.ref a),some (.int a0),some (.ref d),some (.ref n),v4,v5,v6]/\Same H Hc/\Hc d=some (.frz o (.dK (qDK zs g)))/\Hc n=some (.dK (kvsV (opn Ae (zs.take i)) λz=>.ref (ad z)))/\∀z∈opn Ae (zs.take i),PlanAt Hc (ad z) (Pl z)/\H (ad z)=none)
  ⟨λ_=>d,none,none,none,rfl,s3,a6,g3,λz hz=>by simp[opn] at hz⟩ (λi σ Hc _ ⟨_,_,_,_,_,_,g,_⟩=>g) ?_ ?_⟩
 ·refineλi k v σ Hc hk b3=>opq λc6 b2=>?_;obtain⟨ad,v4,v5,v6,rfl,sc,aa,a2,PA⟩:=b3;obtain⟨z,ez,rfl⟩:=qWA hk;refine b2 ?_;have hz:=B0 ez;have zb:=N.1.in_ z hz;have hw:z.toNat<Ae.length:=by lia
  obtain⟨c8,r,h1,l1,h2,h3⟩:=hN.get (A4 hw);have rz:=wf z.toNat _ (A4 hw);have en:=qAS (A4 hw);generalize Ae[z.toNat]=ys at h3 rz en;have bx:=rz.len;have a9:=qYX T ez;have b9:=qc2 T (zs.take i) (by rw[C8];lia)
  have bg:∀y∈ys,y∈opn Ae (zs.take i):=λy hy=>qYY T ez (by rw[en];exact hy)
  have ai:z∉opn Ae (zs.take i):=λm=>by have:=qHI N ez (opn_mem.mp m).1;lia
  have lP:=qYB T PO hz;generalize opn Ae (zs.take i)=op at a2 PA a9 b9 bg ai;refine cut λN3 bu=>?_;refine⟨(by show 0<=B62;decide),λp hp=>?_⟩
  have k4:Keep n n Hc (Ag Hc p (.lst [])):=qCC hp _;have s4:=qA2 hp (.lst []);have ak:(Ag Hc p (.lst [])) p=some (.lst (([]:List Addr).map V.ref)):=qA1;have ba:=s4 _ _ aa;have a3:=s4 _ _ a2;have a8:p≠n:=(qA5 a2 hp).symm;generalize Ag Hc p (.lst [])=H4 at k4 s4 ak ba a3;have aj:=sc.trans s4;refine bu _ _ (cut λN4 bn=>?_);refine⟨_,rfl,_,rfl,a,_,_,_,rfl,rfl,Ac0 (aj _ _ h1),qDV zb.1 h2,aj _ _ bb,r,ys.map V.int,ys.map (keyT g),rfl,.inl (Ac0 (aj _ _ h3)),by rw[A0];lia,by rw[A0,A0],?_,?_,λH5 D bz s5 hD pm so=>?_⟩
  ·intro k hk;obtain⟨y,_,rfl⟩:=E1.mp hk;exactλz=>by cases z
  ·intro i x k hx b6 Hd sd;obtain⟨y,ey,rfl⟩:=qB5 hx;rw[C5,ey] at b6;cases b6;have my:=B0 ey;have bp:y∈zs:=(T.has hz (by rw[en];exact my)).1
   have hg:DGet Hd d (.int y) (valV (qDK zs g) (F4 y)):=.inl ⟨_,F4 y,.inr ⟨o,sd _ _ ba⟩,rfl,rfl⟩;rw[qIF bp] at hg;exact⟨_,rfl,_,rfl,d,_,rfl,hg,_,rfl,_,rfl,(by show 2<=B62;decide),λp hp=>⟨qA2 hp _,p,rfl,qA1⟩⟩
  obtain⟨t,po,oo,eo⟩:=qfI rz.nodup pm so;rw[eo];have b8:Pl z=qGG Ae Pl z t:=(PO z hz).by (by rw[en];exact po) oo
  have c7:((t.map Pl).flatten).length+(ys.length+1)<=800:=by
   rw[b8] at lP;unfold qGG clrM at lP;rw[A9,C6,A0,en] at lP
   lia
  have bl:t.Nodup:=po.nodup_iff.mpr rz.nodup;have sD:=qA2 hD (.lst (t.map V.int));have gD:(Ag H5 D (.lst (t.map V.int))) D=some (.lst (t.map V.int)):=qA1;have s6:Same H4 (Ag H5 D (.lst (t.map V.int))):=λb o e=>sD b o (s5 b o e);have bh:D≠p:=(qA5 (s5 _ _ ak) hD).symm;have bi:D≠n:=(qA5 (s5 _ _ a3) hD).symm;generalize Ag H5 D (.lst (t.map V.int))=H6 at gD s6 ⊢;refine⟨D,rfl,⟨_,Ab2 gD⟩,qH5 (a:=D) (xs:=t.map V.int) (λj σ Hd=>∃(rs:List Addr) (v6:Option V),σ=[some (.ref a),some (.int a0),some (.ref d),some (.ref n),some (.int z),some (.ref p),v6]/\Keep n n Hc Hd/\Hd p=some (.lst (rs.map V.ref))/\MovL Hd rs (((t.take j).map Pl).flatten)/\Hd n=some (.dK (kvsV (op.filter λx=>decide (x∉t.take j)) λz=>.ref (ad z)))/\Hd D=some (.lst (t.map V.int)))
   ⟨[],v6,rfl,k4.trans (.of_same s6),s6 _ _ ak,.nil,by rw[show(op.filter λx=>decide (x∉t.take 0))=op from X0.mpr λx _=>by simp];exact s6 _ _ a3,gD⟩ (λj σ Hd _ hP=>by obtain⟨_,_,_,_,_,_,_,g⟩:=hP;exact Ab2 g) ?_ ?_⟩
  ·refineλj x σ Hd hx b0=>opq λc4 as=>?_;obtain⟨rs,v6,rfl,kd,a4,M,a1,am⟩:=b0;obtain⟨y,ey,rfl⟩:=qB5 hx;refine as ?_;have my:=B0 ey;have au:=bg y (po.mem_iff.mp my);have bk:y∉t.take j:=λm=>by
    obtain⟨j2,h2⟩:=D6 m;have lj:j2<j:=by have:=(A5.mp h2).1;rw[C8] at this;lia
    rw[J8 lj] at h2;have h5:=(A5.mp h2).1;have:=(A97 h5 bl).mp (h2.trans ey.symm)
    lia
   have hv:=qN0 (g:=λz=>V.ref (ad z)) (show y∈op.filter λx=>decide (x∉t.take j) from C7.mpr ⟨au,decide_eq_true bk⟩);obtain⟨bd,gy,My⟩:=(PA y au).1.keepD a2 kd;have bo:ad y≠n:=qC6 gy a1 (by intro z;cases z)
   have lM:=C2 M;have c0:=C2 My;have fs:=qWX (P:=Pl) ey;have ft:=qWW Pl t (j+1);rw[fs,A9] at ft;have ab:(Ag Hd n (.dK (kvsV (op.filter λx=>decide (x∉t.take (j+1))) λz=>.ref (ad z)))) p=some (.lst (rs.map V.ref)):=by rw[qA7 a8];exact a4
   have ao:(Ag Hd n (.dK (kvsV (op.filter λx=>decide (x∉t.take (j+1))) λz=>.ref (ad z)))) (ad y)=some (.lst (bd.map V.ref)):=by rw[qA7 bo];exact gy
   have k2:=qWE (o:=.dK (kvsV (op.filter λx=>decide (x∉t.take (j+1))) λz=>.ref (ad z))) kd;have M2:=(M.putT (u:=.dK (kvsV (op.filter λx=>decide (x∉t.take (j+1))) λz=>.ref (ad z))) a1 (λ_ z=>by cases z)).app (My.putT (u:=.dK (kvsV (op.filter λx=>decide (x∉t.take (j+1))) λz=>.ref (ad z))) a1 (λ_ z=>by cases z))
   refine⟨_,rfl,.inl ⟨rfl,_,Ab2 a4⟩,_,rfl,n,rfl,.inl ⟨_,.inl a1⟩,_,rfl,_,F4 y,_,a1,rfl,hv,?_⟩;rw[qW9,qTD ey];have a7:(Ag Hd n (.dK (kvsV (op.filter λx=>decide (x∉t.take (j+1))) λz=>.ref (ad z)))) n=some (.dK (kvsV (op.filter λx=>decide (x∉t.take (j+1))) λz=>.ref (ad z))):=qA1;have ap:(Ag Hd n (.dK (kvsV (op.filter λx=>decide (x∉t.take (j+1))) λz=>.ref (ad z)))) D=some (.lst (t.map V.int)):=by rw[qA7 bi];exact am
   generalize Ag Hd n (.dK (kvsV (op.filter λx=>decide (x∉t.take (j+1))) λz=>.ref (ad z)))=He at ab ao k2 M2 a7 ap ⊢;refine⟨p,ad y,_,_,rfl,rfl,ab,ao,by rw[A0,A0,B64];lia,?_⟩
   rw[<- C1];refine⟨rs++bd,_,rfl,qH0 k2 hp,qA1,?_,by rw[qA7 (F6 a8)];exact a7,by rw[qA7 bh];exact ap⟩
   rw[fs];exact M2.putT ab (λ_ z=>by cases z)
  refineλσ Hd be=>opq λc2 av=>?_;obtain⟨rs,v6,rfl,kd,a4,M,a1,am⟩:=be;refine av ?_;rw[A0,qB2 rfl] at M a1;have lM:=C2 M;have bm:(op.filter λx=>decide (x∉t))=op.filter λx=>decide (x∉nd Ae z):=R9 λx _=>decide_eq_decide.mpr (by rw[en];exact not_congr po.mem_iff)
  rw[bm] at a1;refine bn _ _ (cut λN5 bq=>?_);refine⟨_,rfl,.inl ⟨rfl,_,Ab2 a4⟩,_,rfl,(by show 2<=B62;decide),λU hU=>?_⟩
  have sU:=qA2 hU (.tup [.str "do",.int z])
  have ae:=sU _ _ a4;have b4:=sU _ _ a1;have kU:Keep n n Hc (Ag Hd U (.tup [.str "do",.int z])):=kd.trans (.of_same sU)
  have MU:=(M.same sU).snoc (r:=U) (wo:="do") (x:=z) qA1
  generalize Ag Hd U (.tup [.str "do",.int z])=He at ae b4 kU MU ⊢
  refine⟨p,_,_,rfl,rfl,ae,small_n (by rw[A0];lia),?_⟩
  rw[qB4];have ac:=qH0 (o:=.lst ((rs++[U]).map V.ref)) kU hp;have MV:=MU.putT (u:=.lst ((rs++[U]).map V.ref)) ae (λ_ z=>by cases z)
  have ag:(Ag He p (.lst ((rs++[U]).map V.ref))) p=some (.lst ((rs++[U]).map V.ref)):=qA1;have ay:(Ag He p (.lst ((rs++[U]).map V.ref))) n=some (.dK (kvsV (op.filter λx=>decide (x∉nd Ae z)) λz=>.ref (ad z))):=by rw[qA7 (F6 a8)];exact b4
  generalize Ag He p (.lst ((rs++[U]).map V.ref))=Hf at ac MV ag ay ⊢;have lU:(rs++[U]).length<=801:=by rw[A9,B9];lia
  generalize rs++[U]=rU at MV ag lU;have sf:Same H Hf:=ac.toSame sc aq;refine bq _ _ ?_;refine⟨_,rfl,_,rfl,_,rfl,a,_,_,_,rfl,rfl,Ac0 (sf _ _ h1),qDV zb.1 h2,r,rfl,⟨_,Ac0 (sf _ _ h3)⟩,λc hc=>?_⟩;refine qFJ (p:=c) (a:=r) (xs:=ys.map V.int) (λj σ Hx=>∃(v:Option V) (rc:List Addr),σ=[v]/\Same Hf Hx/\Hx c=some (.lst (rc.map V.ref))/\MovL Hx rc (clrM (ys.take j))) ?_ ?_ ?_ ?_
  ·exact⟨none,[],rfl,qA2 hc _,qA1,.nil⟩
  ·rintro j σ Hx hj ⟨v,rc,rfl,sx,_⟩;exact Ac0 (sx _ _ (sf _ _ h3))
  ·refineλj x σ Hx hx b5=>opq λc1 an=>?_;obtain⟨v,rc,rfl,sx,af,Mc⟩:=b5;obtain⟨y,ey,rfl⟩:=qB5 hx;refine an ?_;have hj:=(A5.mp ey).1;have lc:=C2 Mc;unfold clrM at lc;rw[A0,C8] at lc;refine⟨_,rfl,(by show 2<=B62;decide),λW hW=>?_⟩
   have sW:=qA2 hW (.tup [.str "clear",.int y]);have b7:=sW _ _ af;refine⟨_,b7,small_n (by rw[A0];lia),?_⟩
   rw[qB4];refine⟨_,rc++[W],rfl,qAD (sx.trans sW) hc,qA1,?_⟩;have e:clrM (ys.take (j+1))=clrM (ys.take j)++[(("clear",y):Mv)]:=by
    unfold clrM;rw[D3,ey,D5,C1]
    rfl
   rw[e];exact(((Mc.same sW).snoc (r:=W) (wo:="clear") (x:=y) qA1).putT b7 (λ_ z=>by cases z))
  refineλσ Hx aw=>opq λc5 ax=>?_;obtain⟨v,rc,rfl,sx,af,Mc⟩:=aw;refine ax ?_;rw[A0,qB2 rfl] at Mc;have lc:=C2 Mc;unfold clrM at lc;rw[A0] at lc;refine⟨p,c,_,_,rfl,rfl,sx _ _ ag,af,by rw[A0,A0,B64];lia,λb hb=>?_⟩
  rw[<- C1];have fb:H b=none:=(sf.trans sx).free hb;have sb:=qA2 hb (.lst ((rU++rc).map V.ref));have gb:(Ag Hx b (.lst ((rU++rc).map V.ref))) b=some (.lst ((rU++rc).map V.ref)):=qA1;have kx:=ac.trans (.of_same (sx.trans sb));have MB:=((MV.same sx).app Mc).same sb;have a5:=sb _ _ (sx _ _ ay);generalize Ag Hx b (.lst ((rU++rc).map V.ref))=Hy at gb kx MB a5 ⊢;have nb:b≠n:=qC6 gb a5 (by intro z;cases z)
  have bf:z∉op.filter λx=>decide (x∉nd Ae z):=λm=>ai (C7.mp m).1;have c3:=M6 (λx=>decide (x∉nd Ae z)) op;have al:=DPut.k (k:=F4 z) (v:=.ref b) a5 (small_n (by unfold kvsV;rw[A0];lia))
  rw[qZI bf] at al;refine⟨_,rfl,_,rfl,n,_,rfl,al,?_⟩;have kz:=qWE (o:=.dK (kvsV ((op.filter λx=>decide (x∉nd Ae z))++[z]) λy=>if y=z then .ref b else .ref (ad y))) kx
  refine⟨λy=>if y=z then b else ad y,_,_,_,rfl,kz.toSame sc aq,kz _ _ aa ar ar,?_,?_⟩
  ·rw[qA1,a9];congr 3
   funext y
   show _=V.ref (if y=z then b else ad y)
   by_cases c:y=z
   ·rw[if_pos c,if_pos c]
   ·rw[if_neg c,if_neg c]
  ·intro x hx;rw[a9] at hx;rcases B8.mp hx with m|m
   ·have mo:=(C7.mp m).1;dsimp only;rw[if_neg (λ(e:x=z)=>ai (by rw[<- e];exact mo))]
    exact⟨(PA x mo).1.keepD a2 kz,(PA x mo).2⟩
   ·have ex:=A6.mp m;subst ex;dsimp only;rw[if_pos rfl];refine⟨⟨rU++rc,by rw[qA7 nb];exact gb,?_⟩,fb⟩
    have b1:Pl x=(t.map Pl).flatten++([(("do",x):Mv)]++clrM ys):=by
     rw[b8];unfold qGG;rw[en]
     rfl
    rw[b1];have:=MB.putT (u:=.dK (kvsV ((op.filter λy=>decide (y∉nd Ae x))++[x]) λy=>if y=x then .ref b else .ref (ad y))) a5 (λ_ z=>by cases z)
    rw[F7] at this;exact this
 ·refineλσ Hc bc=>opq λbw az=>?_;obtain⟨ad,v4,v5,v6,rfl,sc,aa,a2,PA⟩:=bc;refine az ?_;have e:(qDK zs g).length=zs.length:=by unfold qDK;rw[A0]
  rw[e,qB2 rfl] at a2 PA;have hw:=qYZ T;have hg:=DGet.k (k:=F4 a0) a2;rw[qN0 hw] at hg;have PW:=PA a0 hw;exact bs _ _ ⟨_,rfl,_,rfl,n,_,rfl,hg,q _ zs g Pl Hc sc PW.2 N NO PO PW.1⟩
theorem qT5:FnScope ["needs","by"] ["needs","by"] (qA8 qGP):=qBO
theorem ok_shifted (F:Fun K "shifted" "shifted" qGP f fd) (n:mg "tuple" = none):FnOk P w K mg base CX0 1 f fd ["needs","by"] qUP:=by
 refine F.okA qT5 λz A o s H vs Q E hr h=>?_;obtain⟨r,v,k,rfl,j,l1,q⟩:=h;refine⟨_,(qA6 (qAK (qAB qAE rfl n qAQ (qA0 (qEJ rfl (lcs (own:=["need"]) (fv:=[1]) (by kernel_rfl)) (qDC (pv 0)) (λt=>qC0 0) (λt=>qBI) (λt=>(qAP qD1 (pv 0) (pv 1)))) qA3)))),?_⟩
 try dsimp only[Cx.nox,Cx.wish,cxOf]
 refine⟨_,rfl,r,rfl,⟨_,Ac0 j⟩,λp u=>?_⟩;refine qFJ (p:=p) (a:=r) (xs:=v.map V.int) (λi σ g=>∃(v0:Option V),σ=[v0,some (.int k)]/\Same H g/\g p=some (.lst (((v.map (·+k)).take i).map V.int))) ?_ ?_ ?_ ?_
 ·exact⟨none,rfl,qA2 u _,qA1⟩
 ·rintro i σ g hi ⟨v0,rfl,sm,_⟩;exact Ac0 (sm _ _ j)
 ·refineλi x σ g hx c=>opq λa1 l=>?_;obtain⟨v0,rfl,sm,b⟩:=c;obtain⟨y,ey,rfl⟩:=qB5 hx;refine l ?_;refine⟨_,rfl,_,rfl,_,_,rfl,rfl,_,b,qAI (by rw[A0,C8,A0];lia),_,rfl,qAD sm u,?_⟩
  rw[qA1,D3,C5,ey,T0,D5,C1]
  rfl
 ·refineλσ g d=>opq λa0 e=>?_;obtain⟨v0,rfl,sm,b⟩:=d;refine e ?_;rw[A0,qB2 (by rw[A0])] at b
  refine⟨p,_,rfl,.inl ⟨Ab2 b,λr' m=>?_⟩⟩;exact q r' _ (sm.trans (qA2 m _)) qA1
theorem qV1:FnScope ["one","other"] ["one","other"] (qA8 qIK):=qBO
theorem ok_beside (F:Fun K "beside" "beside" qIK f fd) (a3:Clb P w K mg base 1 qKC qTV "shifted" ["needs","by"] qUP)
  (qBK:mg "len" = none) (a8:mg "tuple" = none):FnOk P w K mg base CX0 2 f fd ["one","other"] qRN:=by
 refine F.okA qV1 λad A a9 s H vs Q E hr h=>?_;obtain⟨a,b,d,c,rfl,ac,ah,a6,ab,m1,m2,n1,n2,q⟩:=h;have ae:Room 1 _:=hr;refine⟨_,(qA6 (qAK (qAP qVO (pv 0) (qAB qAE rfl a8 qAQ (qA0 (qEJ rfl (lcs (own:=["needs"]) (fv:=[0]) (by kernel_rfl)) (qDC (pv 1)) (λz2=>qC0 0) (λz2=>qBI) (λz2=>(qAL a3 hr rfl (qA0 (pv 0) (qA0 (qAC (qP6 (K:=K) rfl) rfl qBK qBR (qA0 (pv 1) qA3)) qA3))))) qA3))))),?_⟩
 try dsimp only[Cx.nox,Cx.wish,cxOf]
 obtain⟨rs,hA,NL⟩:=id ac;obtain⟨ss,hB,NM⟩:=id a6;have k:=C2 NL;have a5:=C2 NM;have a4:(((rs.map V.ref).length:Nat):Int)=(d.length:Int):=by rw[A0,k]
 refine⟨_,rfl,_,rfl,b,rfl,⟨_,Ac0 hB⟩,λp hp=>?_⟩;refine qFJ (p:=p) (a:=b) (xs:=ss.map V.ref) (λi σ o=>∃(v0:Option V) (ts:List Addr),σ=[v0,some (.ref a)]/\Same H o/\o p=some (.lst (ts.map V.ref))/\NetL o ts ((c.map λn=>n.map (·+(d.length:Int))).take i)) ?_ ?_ ?_ ?_
 ·exact⟨none,[],rfl,qA2 hp _,qA1,by rw[A62];exact .nil⟩
 ·rintro i σ o hi ⟨v0,ts,rfl,sm,_⟩;exact Ac0 (sm _ _ hB)
 ·refineλi x σ o hx a2=>opq λag v=>?_;obtain⟨v0,ts,rfl,sm,g,m⟩:=a2;obtain⟨r,aa,rfl⟩:=qEG hx;obtain⟨n,hz,a7⟩:=qAY NM aa;refine v ?_;have lz:=(ab i n hz).len;have li:=(A5.mp hz).1;refine⟨_,rfl,_,rfl,a,_,rfl,.inr (Ac0 (sm _ _ hA)),r,n,_,rfl,sm _ _ a7,by lia,λr' H' l u=>?_⟩
  rw[a4] at u;have g1:=l _ _ g;have j:ts.length=((c.map λn=>n.map (·+(d.length:Int))).take i).length:=C2 m;refine⟨_,g1,qAI (by rw[A0,j,C8,A0];lia),?_⟩
  rw[qB4];refine⟨_,ts++[r'],rfl,qAD (sm.trans l) hp,qA1,?_⟩;rw[D3,C5,hz];exact qE7 (qCT (m.same λr' ys e=>l _ _ e) u) g1
 ·refineλσ o y=>opq λaf a1=>?_;obtain⟨v0,ts,rfl,sm,g,m⟩:=y;refine a1 ?_;rw[A0,qB2 (by rw[A0,a5])] at m
  have j:=C2 m;rw[A0] at j;refine⟨p,_,rfl,.inl ⟨Ab2 g,λb2 a0=>?_⟩⟩;have s1:=sm.trans (qA2 a0 (.tup (ts.map V.ref)));refine⟨a,b2,_,_,rfl,rfl,Ac0 (s1 _ _ hA),Ac0 qA1,.inl ⟨?_,s1 _ _ hA⟩,?_,λp3 H3 t h3=>?_⟩
  ·intro z;rw[o9] at z;rw[z] at k;simp at k
   lia
  ·rw[A0,A0,B64]
   lia
  ·rw[<- C1] at h3;have s3:=s1.trans t;refine q p3 H3 s3 ⟨rs++ts,h3,?_⟩;exact qLP (NL.same λr ys e=>s3 _ _ e) (m.same λr ys e=>t _ _ ((qA2 a0 (.tup (ts.map V.ref))) _ _ e))
theorem sc_Ltold:FnScope ["_law_net_here","_law_asked_here","_law_rooms","_law_plan","_law_least","_law_stand","_law_move"] ["_law_net_here","_law_asked_here"] (qA8 qML):=qBO
theorem ok_Ltold (F:Fun K "_law_told" "_law_told" qML f fd) (b9:Clb P w K mg base 1 qKH qTY "_law_needed" ["_law_net_here","_law_asked_here"] qRJ) (aj:Clb P w K mg base 5 qN9 qWY "fewest" ["net","asked"] (qaF Pt)) (qM6:Clb P w K mg base 4 qSI qWZ "does" ["net","rooms","plan","asked"] qPU) (as:FnOk P w K mg base (CX1 P w) 3 qKE qN7 ["net","rooms","stand","move"] (qUS qAM)) (al:Binds K qN7 ["net","rooms","stand","move"] []) (an:J4 K (.ref qKE)=true) (ao:mg "moved" = some (.ref qKE)) (b5:FnOk P w K mg base (CX1 P w) 3 qEA qFN ["net","rooms","plan"] (qUQ qAM)) (ax:Binds K qFN ["net","rooms","plan"] []) (b6:J4 K (.ref qEA)=true) (az:mg "played" = some (.ref qEA)) (qBK:mg "len" = none) (b8:mg "max" = none):FnOk P w K mg base CX0 6 f fd ["_law_net_here","_law_asked_here"] (qIG Pt):=by
 refine F.okA sc_Ltold λbf A ai s H vs Q E hr h=>?_;obtain⟨a,t,b,Ad,rfl,ae,hN,n,bj,hT,a1,q⟩:=h;have b0:Room 3 _:=hr.mono (by decide)
 have ar:Room 3 _:=hr.mono (by decide)
 have ak:=hr.units0;refine⟨_,(qA4 (qRX (qAL aj hr rfl (qA0 (pv 0) (qA0 (pv 1) qA3))) (qOD rfl (qBH (qAW (i:=2) sc_Ltold.nd rfl (E9 rfl)) (qBH (qAW (i:=3) sc_Ltold.nd rfl (E9 rfl)) qFE)))) (qA4 (qAF (i:=4) sc_Ltold.nd rfl (E9 rfl) (qAP qD1 (qAC (qHA rfl) rfl b8 qP9 (qA0 (qEJ rfl (lcs (own:=["_law_work"]) (fv:=[0]) (by kernel_rfl)) (qDT (qAL b9 hr rfl (qA0 (pv 0) (qA0 (pv 1) qA3)))) (λz1=>qC0 0) (λz1=>qBI) (λz1=>(qAC (qP6 (K:=K) rfl) rfl qBK qBR (qA0 (qBY (qK1 (K:=K) rfl) (pv 1) (pv 0) (λ_ _=>rfl)) qA3)))) qA3)) qA9)) (qA4 (qCL (PW.pt (qYJ (qAU qOG (pv 2) (pv 4) (qBF _)) (qV4 (qRW (qJG (qAL qM6 hr rfl (qA0 (pv 0) (qA0 (pv 2) (qA0 (pv 3) (qA0 (pv 1) qA3)))))))))) (qA6 (qAK (qMS qGN qA9))) qAV) (qA4 (qAF (i:=5) sc_Ltold.nd rfl (E9 rfl) (qBW qA3)) (qA4 (qC8 F1 rfl (qDT (pv 3)) (qAW (i:=6) sc_Ltold.nd rfl (E9 rfl)) (qA6 (qAF (i:=5) sc_Ltold.nd rfl (E9 rfl) (qQ4 as b0 rfl ao an al .nil qe7 (qA0 (pv 0) (qA0 (pv 2) (qA0 (pv 5) (qA0 (pv 6) qA3)))))))) (qA6 (qAK (qIO (qAU (qQ7 ak) (qBY qES (qQ4 b5 ar rfl az b6 ax .nil qe7 (qA0 (pv 0) (qA0 (pv 2) (qA0 (pv 3) qA3)))) (qMS qGN qA9) (λ_ _=>rfl)) (pv 5) (qBF _)) (pv 2) (qMS qGN qA9))))))))),?_⟩
 try dsimp only[Cx.nox,Cx.wish,cxOf]
 obtain⟨ra,hA,NL⟩:=id hN;have bh:=C2 NL;have rA:=hT.2;obtain⟨ws,N⟩:=qOJ n rA;have lw:=N.1.len;refine cut λN0 av=>?_;refine⟨_,rfl,_,rfl,a,t,b,Ad,rfl,ae,hN,n,by lia,hT,a1,λT l r mv H1 s1 FO fl PL gT=>?_⟩
 have LR:=FO.lr N;have r1:=LR.1;have bm:=qTN n N a1 LR;obtain⟨y,run,a0,c,ba⟩:=FO.run n rA (by lia)
 have FW:=Few.of n N rA LR run c a0;refine⟨T,_,rfl,Ac0 gT,rfl,_,_,rfl,_,_,rfl,rfl,?_⟩;clear gT;refine av _ _ (cut λN1 aw=>?_);refine⟨_,rfl,_,rfl,a,t,b,Ad,rfl,hN.same s1,n,by lia,⟨s1 _ _ hT.1,rA⟩,λlz zs H2 s2 bd gz NZ=>?_⟩
 rw[qHR NZ N] at gz;have a4:=s1.trans s2;have w1:ws≠[]:=λe=>by
  obtain⟨x,r,e'⟩:=U9 (X1.mp a1);have:=(N.2 x).mpr (.ask (by rw[e'];exact B7))
  rw[e] at this;cases this
 refine⟨lz,rfl,⟨_,Ab2 gz⟩,λp hp=>?_⟩;refine qHU (p:=p) (a:=lz) (xs:=ws.map V.int) (λi σ j=>∃(v:Option V),σ=[v,some (.ref a)]/\Same H2 j/\j p=some (.lst (((ws.take i).map λx=>((nd b x).length:Int)).map V.int))) ?_ ?_ ?_ ?_
 ·exact⟨none,rfl,qA2 hp _,qA1⟩
 ·rintro i σ j hi ⟨v,rfl,sm,_⟩;exact Ab2 (sm _ _ gz)
 ·refineλi x σ j hx aa=>opq λbl a8=>?_;obtain⟨v,rfl,sm,u⟩:=aa;obtain⟨z,ez,rfl⟩:=qB5 hx;refine a8 ?_;have hi:=(A5.mp ez).1;have zb:=N.1.in_ z (B0 ez);obtain⟨rz,er,gr⟩:=qG5 NL (A4 (show z.toNat<b.length by lia))
  refine⟨_,rfl,_,rfl,a,_,_,_,rfl,rfl,Ac0 ((a4.trans sm) _ _ hA),qDV zb.1 (by rw[C5,er];rfl),?_⟩
  refine⟨rz,_,rfl,.inr (Ac0 ((a4.trans sm) _ _ gr)),_,u,small_n (by rw[A0,A0,C8];lia),?_⟩
  refine⟨_,rfl,qAD sm hp,?_⟩;rw[qA1,qNU ez,C1,C1];have e:nd b z=b[z.toNat]:=qAS (A4 _);rw[A0,<- e]
  rfl
 refineλσ σH af=>opq λbg a9=>?_;obtain⟨v,rfl,sm,u⟩:=af;refine a9 ?_;rw[A0,X3] at u;obtain⟨m,em⟩:∃m,topD none (ws.map λx=>((nd b x).length:Int))=some m:=by
  cases ws with
  |nil=>exact absurd rfl w1
  |cons x ws=>exact⟨_,rfl⟩
 have mr:m+1<=r:=by
  obtain⟨x,hx,e⟩:=E1.mp (qRH em).1;have:=qWN n FW.2.1 ((N.2 x).mp hx)
  lia
 refine⟨p,_,m,rfl,Ab2 u,em,_,_,rfl,rfl,?_⟩;have s3:=a4.trans sm;refine aw _ _ (cut λN2 au=>?_);refine⟨_,rfl,_,rfl,_,_,rfl,rfl,?_⟩;refine⟨_,rfl,?_⟩;rw[decide_eq_false (show¬r<m+1 by lia)]
 refine iteF ?_;have pl:=qe0 c run;have PI:qY1 σH a l b mv r:=⟨hN.same s3,n,by lia,PL.same (s2.trans sm),by lia,c,by lia,by lia⟩
 refine⟨_,rfl,_,rfl,_,rfl,_,rfl,a,l,t,b,mv,r,Ad,rfl,PI,s3 _ _ hT.1,by have:=rA.len;lia,λg H4 s4 P4=>?_,λg w0 H4 s4 P4=>absurd P4 (pl.2 g w0)⟩
 rw[pl.1 g P4,decide_eq_true a0];refine⟨_,rfl,?_⟩;refine iteF ?_;have S4:=s3.trans s4;refine au _ _ (cut λN3 b4=>?_);refine⟨(by show 0<=B62;decide),λe he=>?_⟩
 have s5:=qA2 he (.tup []);have S5:=S4.trans s5;have ge:(Ag H4 e (.tup [])) e=some (.tup (([]:List Int).map V.int)):=qA1;generalize Ag H4 e (.tup [])=H5 at s5 S5 ge ⊢;refine b4 _ _ (cut λN4 am=>?_);obtain⟨rs,hl,M⟩:=PL.same (s2.trans (sm.trans (s4.trans s5)));have bk:=C2 M;refine⟨_,rfl,l,rfl,⟨_,Ab2 hl⟩,qH5 (a:=l) (xs:=rs.map V.ref) (λk σ j=>∃(z:Addr) (st:List Int) (v6:Option V) (sts':Aa0),σ=[some (.ref a),some (.ref t),some (.int r),some (.ref l),some (.int (m+1)),some (.ref z),v6]/\Same H5 j/\j z=some (.tup (st.map V.int))/\(st.length:Int)<=r/\Play b r st (mv.drop k) sts' .non/\qLV st sts'=y)
  ⟨e,[],none,g,rfl,.refl _,ge,by show((0:Nat):Int)<=r;lia,P4,pl.1 g P4⟩ (λk σ j _ hP=>by obtain⟨_,_,_,_,_,sm,_⟩:=hP;exact Ab2 (sm _ _ hl)) ?_ ?_⟩
 ·refineλk x σ j hx a6=>opq λbb ad=>?_;obtain⟨z,st,v6,sts',rfl,sc,a2,ag,P,el⟩:=a6;obtain⟨b3,ap,rfl⟩:=qEG hx;obtain⟨⟨Ac,o⟩,hm,hH⟩:=qAY M ap;refine ad ?_;have hk:=(A5.mp hm).1;obtain⟨hw,ab,ah⟩:=c _ (B0 hm);dsimp only at hw ab ah hH;have ed:mv.drop k=(Ac,o)::mv.drop (k+1):=by
   obtain⟨b7,e⟩:=A5.mp hm;rw[P6 b7,e]
  rw[ed] at P;have a3:=A4 (show o.toNat<b.length by lia)
  have bn:=(n o.toNat _ a3).len;have aq:wd b st r (Ac,o)=qCA b[o.toNat] st r Ac o:=by unfold wd;rw[a3];rfl
  cases P with
  |@go _ st1 _ _ sts1 _ e1 b1 P1=>
   refine⟨_,rfl,_,rfl,_,rfl,_,rfl,a,z,b3,b,st,b[o.toNat],r,o,Ac,rfl,⟨hN.same (S5.trans sc),a2,by lia,sc _ _ hH,hw,ab,a3,by lia⟩,λ_ z1 bc H6 s6 g6 b2=>?_,λw0 e2=>?_⟩
   ·rw[Beh.one hw b2 b1] at g6;exact⟨z1,st1,_,sts1,rfl,sc.trans s6,g6,Beh.fits (m:=(Ac,o)) hw e1 b1 ag,P1,el⟩
   ·rw[<- aq,e1] at e2;cases e2
 ·refineλσ j ac=>opq λbe a7=>?_;obtain⟨z,st,v6,sts',rfl,sc,a2,ag,P,el⟩:=ac;refine a7 ?_;rw[R5 (by rw[A0];lia)] at P
  cases P;have S6:=S5.trans sc;obtain rfl:st=y:=el;refine am _ _ ?_;refine⟨_,rfl,_,rfl,_,rfl,a,l,b,mv,r,rfl,⟨hN.same S6,n,by lia,⟨rs,sc _ _ hl,M.same sc⟩,by lia,c,by lia,by lia⟩,λls d H7 s7 P7 bi SA=>?_,λd w0 dx H7 s7 P7=>absurd P7 (pl.2 d w0)⟩
  obtain⟨ks,a5,NK⟩:=id SA;obtain⟨ss,r',ek,gr⟩:=qW8 NK;rw[ek] at a5;refine⟨_,rfl,ls,_,_,_,rfl,rfl,Ab2 a5,by rw[C1];exact qSR _ _,?_⟩
  have ay:=pl.1 d P7;rw[ay] at gr;refine⟨_,rfl,r',z,st,rfl,rfl,Ac0 gr,Ac0 (s7 _ _ a2),?_⟩;refine⟨_,rfl,?_⟩;refine iteT ?_;exact⟨_,rfl,q r _ (S6.trans s7) FW (by lia)⟩
theorem qJW {n:Nat} (h:n<=1000):n<=B62:=F3 h (by decide)
theorem sc_Lmore_right:FnScope ["_law_state","_law_net_here","_law_asked_here","_law_rooms","_law_more","_law_works","_law_anew","_law_part","_law_at","_law_less"] ["_law_state","_law_net_here","_law_asked_here","_law_rooms"] (qA8 qDJ):=qBO
theorem ok_Lmore_right (F:Fun K "_law_more_right" "_law_more_right" qDJ f fd) (qB0:Clb P w K mg base 1 qFS qG9 "_law_take" ["_law_state","_law_many"] qJ9) (qDA:Clb P w K mg base 6 qKG qN8 "_law_told" ["_law_net_here","_law_asked_here"] (qIG Pt)) (bk:Clb P w K mg base 2 qEN qGJ "part_net" ["net","works"] qMD) (qBK:mg "len" = none) (a5:mg "tuple" = none) (qBG:mg "sorted" = none) (c6:mg "set" = none) (bs:mg "range" = none) (qBD:mg "enumerate" = none):FnOk P w K mg base CX0 7 f fd ["_law_state","_law_net_here","_law_asked_here","_law_rooms"] (qRK Pt):=by
 refine F.okA sc_Lmore_right λcd A bl s H vs Q E hr h=>?_;obtain⟨d,c,a,ta,t,ns,g,k,r,rfl,S,tb,m,hN,wf,l1,c9,hT,a1,FW,q⟩:=h;have cj:t<=1000000000-100:=tb;refine⟨_,(qA4 (qAF (i:=4) sc_Lmore_right.nd rfl (E9 rfl) (qAB qAE rfl a5 qAQ (qA0 (qAC (qEC rfl) rfl qBG qD4 (qA0 (qAB (qU4 rfl) rfl c6 qSQ (qA0 (qAP qQ8 (pv 2) (qBW (qA0 (qAL qB0 hr rfl (qA0 (pv 0) (qA0 (qAC qAA rfl qBK qBR (qA0 (pv 1) qA3)) qA3))) qA3))) qA3)) qA3)) qA3))) (qA4 (qCL (PW.pt (qdY (qAU qOG (qAC qAA rfl qBK qBR (qA0 (pv 4) qA3)) qA9 (qBF _)) (qbO (qAU qOG (qAL qDA hr rfl (qA0 (pv 1) (qA0 (pv 4) qA3))) (pv 3) (qBF _))))) (qA6 (qAK qHN)) qAV) (qA4 (qOA (i:=5) sc_Lmore_right.nd rfl rfl rfl (lcs (own:=["_law_work"]) (fv:=[2,0]) (by kernel_rfl)) (qBT rfl bs (qA0 (qAC qAA rfl qBK qBR (qA0 (pv 1) qA3)) qA3)) (λz1=>qC0 0) (λz1=>(qFC (PW.pt (qYJ (qAU (qVM (K:=K) rfl) (pv 0) (pv 1) (by with_unfolding_all rfl)) (qV4 (qAU qZ2 (qAL qB0 hr rfl (qA0 (pv 2) (qA0 qA9 qA3))) qA9 (qBF _))))))) (λz1=>(pv 0)) (by kernel_rfl)) (qA4 (qAF (i:=6) sc_Lmore_right.nd rfl (E9 rfl) (qAB qAE rfl a5 qAQ (qA0 (qEJ rfl (lcs (own:=["_law_place","_law_work"]) (fv:=[2]) (by kernel_rfl)) (qMQ rfl qBD qD5 (qA0 (pv 5) qA3)) (λz2=>qMR (K:=K) (n:=2) rfl rfl (qBH (qC0 0) (qBH (qC0 1) qFE)) rfl rfl) (λz2=>(qFC (qAU (qVM (K:=K) rfl) (pv 1) (pv 2) (by with_unfolding_all rfl)))) (λz2=>(pv 0))) qA3))) (qA4 (qAF (i:=7) sc_Lmore_right.nd rfl (E9 rfl) (qAL qDA hr rfl (qA0 (qAL bk hr rfl (qA0 (pv 1) (qA0 (qAB qAE rfl a5 qAQ (qA0 (pv 5) qA3)) qA3))) (qA0 (pv 6) qA3)))) (qA4 (qAF (i:=8) sc_Lmore_right.nd rfl (E9 rfl) (qAL qB0 hr rfl (qA0 (pv 0) (qA0 (qAC qAA rfl qBK qBR (qA0 (pv 1) qA3)) qA3)))) (qA4 (qAF (i:=9) sc_Lmore_right.nd rfl (E9 rfl) (qAL qDA hr rfl (qA0 (qAP qQ8 (qAP qQ8 (qG4 qPV (pv 1) qHL (qHK (pv 8))) (qBW (qA0 (qG4 qPV (qBY qCD (pv 1) (pv 8) (λ_ _=>rfl)) (qHK qA9) qHL) qA3))) (qG4 qPV (pv 1) (qHK (qAP qD1 (pv 8) qA9)) qHL)) (qA0 (pv 2) qA3)))) (qA6 (qAK (qaO (qMT qOG qZ1 qA9 (pv 7) (pv 3)) (qaL (qMT qOG qZ1 qA9 (pv 9) (pv 3))))))))))))),?_⟩
 try dsimp only[Cx.nox,Cx.wish,cxOf]
 have rA:=hT.2;have lA:=rA.len;have aa:Pt≠d:=qC6 m S.dict (by intro z;cases z)
 have ad:Pt≠c:=qC6 m S.list (by intro z;cases z)
 refine cut λN0 bw=>?_;obtain⟨rs,hA,NL⟩:=id hN;have a2:(((rs.map V.ref).length:Nat):Int)=(g.length:Int):=by rw[A0,C2 NL]
 refine⟨_,rfl,_,rfl,_,rfl,a,_,rfl,.inr (Ac0 hA),d,c,t,ns,_,rfl,S,(by show t<=1000000000;lia),by rw[a2];lia,by rw[a2];lia,λx c4 H1 x0 x1 S1 K1=>?_⟩
 rw[a2] at x1;refine⟨(by show 1<=B62;decide),λp1 bj=>?_⟩
 have s1:=qA2 bj (.tup [.int x]);have bb:=s1 _ _ (K1 _ _ hT.1 (S.tup hT.1).1 (S.tup hT.1).2);refine⟨ta,p1,_,_,rfl,rfl,bb,qA1,qJW (by rw[A0];show _+1<=_;lia),λp2 H4 s2 g2=>?_⟩
 have g2:H4 p2=some (.tup ((k++[x]).map V.int)):=by rw[g2,C1];rfl
 refine⟨p2,k++[x],rfl,Ac0 g2,by rw[A9];show _+1<=_;lia,λe he=>?_⟩
 have s3:=qA2 he (SetM w e (dedI (k++[x])));refine⟨e,dedI (k++[x]),rfl,qA1,T4 (qIT _) (by rw[A9];show _+1<_;lia),λb o hb as hs=>?_⟩
 have s4:=qA2 hb (.lst (o.map V.int));refine⟨b,_,rfl,.inl ⟨Ab2 qA1,λr3 am=>?_⟩⟩;have s5:=qA2 am (.tup (o.map V.int));have a6:=(((s1.trans s2).trans s3).trans s4).trans s5;have rY:Rise (g.length:Int) o:=qIN as hs λy hy=>by
  rcases B8.mp hy with hy|hy
  ·exact rA.in_ y hy
  ·rw[A6.mp hy];exact⟨x0,x1⟩
 have sub:∀y∈k,y∈o:=λy hy=>as.mem_iff.mpr (mem_dedI.mpr (Q5 _ hy));have gY:qD8 (Ag (Ag (Ag H4 e (SetM w e (dedI (k++[x])))) b (.lst (o.map V.int))) r3 (.tup (o.map V.int))) r3 g o:=⟨qA1,rY⟩;generalize Ag (Ag (Ag H4 e (SetM w e (dedI (k++[x])))) b (.lst (o.map V.int))) r3 (.tup (o.map V.int))=H5 at a6 gY s5 ⊢;clear s1 s2 s3 s4 s5 g2 bb hb he am;have S5:=S1.same a6;have K5:Keep d c H H5:=K1.trans (.of_same a6);have a9:=hN.keep S K5;have bg:=K5 _ _ hT.1 (S.tup hT.1).1 (S.tup hT.1).2;have al:TabB H5 Pt:=K5 _ _ m aa ad;refine bw _ _ (cut λN1 c0=>?_);have a4:∀Hx,Same H5 Hx->N1 [some (.ref d),some (.ref a),some (.ref ta),some (.int r),some (.ref r3),none,none,none,none,none] Hx:=by
  intro Hx sx;refine c0 _ _ (cut λN2 bv=>?_);refine⟨_,rfl,a,_,rfl,.inr (Ac0 ((K5.trans (.of_same sx)) _ _ hA (S.tup hA).1 (S.tup hA).2)),?_⟩;rw[a2];have Sx:=S5.same sx;refine⟨_,rfl,by lia,by lia,λp hp=>?_⟩
  have af:p≠d:=(qA5 Sx.dict hp).symm;have ak:p≠c:=(qA5 Sx.list hp).symm;have u:=sx _ _ bg;refine qE8 (p:=p) (lo:=0) (n:=((g.length:Int)).toNat) (λi σ Hc=>∃(v:Option V) (k':Int) (ms':List Int) (zs:List Int),σ=[v,some (.ref ta),some (.ref d)]/\StAt Hc d c k' ms'/\t+1<=k'/\k'<=t+1+i/\Keep d c Hx Hc/\Hc p=some (.lst (zs.map V.int))/\Rise (i:Int) zs/\∀y∈k,y<(i:Int)->y∈zs) ?_ ?_ ?_
  ·exact⟨none,t+1,c4,[],rfl,Sx.new hp _,by lia,by lia,qCC hp _,qA1,⟨.nil,λ_ z=>nomatch z⟩,λy hy z=>by have:=rA.in_ y hy;lia⟩
  ·refineλi σ Hc hi ay=>opq λch av=>?_;obtain⟨v,k',ms',zs,rfl,S3,b1,b2,K3,gp,rz,hz⟩:=ay;refine av ?_;have lz:=rz.len;have a7:=K3 _ _ u (Sx.tup u).1 (Sx.tup u).2;have c1:Rise ((i+1:Nat):Int) (zs++[(i:Int)]):=⟨Y7.mpr ⟨rz.up,W9 _ _,λx hx y hy=>by rw[A6.mp hy];exact(rz.in_ x hx).2⟩,λx hx=>by
    rcases B8.mp hx with h|h
    ·have:=rz.in_ x h;lia
    ·rw[A6.mp h];lia⟩
   have put:∀(Hd:Hp) (kk:Int) (mm:List Int),StAt Hd d c kk mm->Keep d c Hx Hd->Hd p=some (.lst (zs.map V.int))->t+1<=kk->kk<=t+1+(i+1:Nat)->∃o,Hd p=some (.lst o)/\o.length<B62/\∃(v:Option V) (k':Int) (ms':List Int) (zs:List Int),[some (V.int (0+(i:Int))),some (.ref ta),some (.ref d)]=[v,some (.ref ta),some (.ref d)]/\StAt (Ag Hd p (.lst (o++[.int (0+(i:Int))]))) d c k' ms'/\t+1<=k'/\k'<=t+1+(i+1:Nat)/\Keep d c Hx (Ag Hd p (.lst (o++[.int (0+(i:Int))])))/\(Ag Hd p (.lst (o++[.int (0+(i:Int))]))) p=some (.lst (zs.map V.int))/\Rise ((i+1:Nat):Int) zs/\∀y∈k,y<((i+1:Nat):Int)->y∈zs:=by
    intro Hd kk mm S4 K4 g4 q1 q2;refine⟨_,g4,qAI (by rw[A0];lia),_,kk,mm,zs++[(i:Int)],rfl,S4.put' af ak,q1,q2,qH0 K4 hp,?_,c1,λy hy z=>?_⟩
    ·rw[qA1,C1,show(0:Int)+(i:Int)=(i:Int) by lia];rfl
    ·by_cases e:y=(i:Int)
     ·rw[e];exact F9 _ (A6.mpr rfl)
     ·exact Q5 _ (hz y hy (by lia))
   refine⟨_,rfl,_,rfl,ta,_,rfl,.inr (Ac0 a7),rfl,qFM k,_,rfl,?_⟩;rw[qK4];by_cases ci:(0:Int)+(i:Int)∈k
   ·rw[decide_eq_true ci];exact⟨_,rfl,put _ _ _ S3 K3 gp b1 (by lia)⟩
   ·rw[decide_eq_false ci];refine⟨_,rfl,d,c,k',ms',4,rfl,S3,(by show k'<=1000000000;lia),by decide,by decide,λx bz H4 x0 x1 S4 K4=>?_⟩
    have be:=K4 _ _ gp af ak;refine⟨_,_,rfl,rfl,_,rfl,?_⟩;by_cases cx:0<x
    ·rw[decide_eq_true cx];exact⟨_,rfl,put _ _ _ S4 (K3.trans K4) be (by lia) (by lia)⟩
    ·rw [decide_eq_false cx];exact ⟨_,k'+1,bz,zs,rfl,S4,by lia,by lia,K3.trans K4,be,rz.mono (by lia),fun y hy z=>hz y hy (by
      have:y≠(i:Int):=λe=>ci (by rw[show(0:Int)+(i:Int)=y by lia];exact hy)
      lia)⟩
  refineλσ Hc ar=>opq λcf aj=>?_;obtain⟨v,k',ms',zs,rfl,S3,b1,b2,K3,gp,rz,hz⟩:=ar;refine aj ?_;rw[D0] at rz hz b2;have hz:∀y∈k,y∈zs:=λy hy=>hz y hy (rA.in_ y hy).2;have lz:=rz.len;have a7:=K3 _ _ u (Sx.tup u).1 (Sx.tup u).2;refine bv _ _ (cut λN3 c3=>?_);refine⟨_,rfl,p,rfl,⟨_,Ab2 gp⟩,λp2 b0=>?_⟩;refine qQL (p:=p2) (a:=p) (xs:=zs.map V.int) (λi σ Hd=>∃(v0 v1:Option V),σ=[v0,v1,some (.ref ta)]/\Same Hc Hd/\Hd p2=some (.lst ((((qB8 0 zs.length).take i).filter λp=>decide ((zs[p.toNat]?).getD 0∈k)).map V.int))) ?_ ?_ ?_ ?_
  ·exact⟨none,none,rfl,qA2 b0 _,qA1⟩
  ·rintro i σ Hd hi ⟨v0,v1,rfl,sm,_⟩;exact Ab2 (sm _ _ gp)
  ·refineλi x σ Hd T2 hx ah ax=>opq λc8 b8=>?_;obtain⟨v0,v1,rfl,sm,bn⟩:=ah;obtain⟨y,ey,rfl⟩:=qB5 hx;refine b8 ?_;have hi:=(A5.mp ey).1;have sT:=qA2 ax (.tup [.int (i:Int),.int y]);have ae:=sm.trans sT;have an:=sT _ _ bn;have lk:=qCE (p:=λp=>decide ((zs[p.toNat]?).getD 0∈k)) (l:=qB8 0 zs.length) (i:=i);refine⟨T2,_,rfl,Ac0 qA1,rfl,_,_,rfl,_,_,rfl,rfl,?_⟩;refine⟨_,rfl,_,rfl,ta,_,rfl,.inr (Ac0 (ae _ _ a7)),rfl,qFM k,_,rfl,?_⟩;rw[qK4,qDW (qCK (by lia))]
   have ez:(zs[((i:Int)).toNat]?).getD 0=y:=by rw[D0,ey];rfl
   rw[ez];by_cases hw:y∈k
   ·rw[decide_eq_true hw];refine⟨_,rfl,_,an,qAI (by rw[A0];lia),_,_,rfl,qAD ae b0,?_⟩
    rw[qA1,if_pos rfl,C1]
    rfl
   ·rw[decide_eq_false hw];refine⟨_,_,rfl,ae,?_⟩;simpa using an
  refineλσ Hd b4=>opq λcc ai=>?_;obtain⟨v0,v1,rfl,sd,gq⟩:=b4;refine ai ?_;rw[A0,qB2 (by rw[qG3];lia)] at gq
  generalize hwz:(qB8 0 zs.length).filter (λp=>decide ((zs[p.toNat]?).getD 0∈k))=wz at gq;have aw:Rise (zs.length:Int) wz:=by rw[<- hwz];exact qUI
  have c7:wz.length<=zs.length:=aw.len;have bu:∀p∈wz,0<=p/\∃x,zs[p.toNat]?=some x/\x∈k:=λp hp=>by
   rw[<- hwz] at hp;obtain⟨h1,h2⟩:=C7.mp hp;have h1:=mem_rangeI.mp h1;have e:=A4 (show p.toNat<zs.length by lia)
   have h2:=of_decide_eq_true h2;rw[e] at h2;exact⟨h1.1,_,e,h2⟩
  have w1:1<=wz.length:=by
   obtain⟨x0,cb,ea⟩:=U9 (X1.mp a1);have hx:x0∈k:=by rw[ea];exact B7
   obtain⟨i,hi⟩:=D6 (hz x0 hx);have li:=(A5.mp hi).1;refine U6 (a:=(i:Int)) ?_;rw[<- hwz];refine C7.mpr ⟨mem_rangeI.mpr (by lia),decide_eq_true ?_⟩
   rw[D0,hi];exact hx
  refine⟨p2,_,rfl,.inl ⟨Ab2 gq,λtq bf=>?_⟩⟩;have se:=sd.trans (qA2 bf (.tup (wz.map V.int)));have a0:(Ag Hd tq (.tup (wz.map V.int))) tq=some (.tup (wz.map V.int)):=qA1;generalize Ag Hd tq (.tup (wz.map V.int))=He at se a0 ⊢;refine c3 _ _ (cut λN4 bq=>?_);refine⟨_,rfl,_,rfl,p,_,rfl,.inl ⟨Ab2 (se _ _ gp),λtw b9=>?_⟩⟩;have sf:=se.trans (qA2 b9 (.tup (zs.map V.int)));have ao:(Ag He tw (.tup (zs.map V.int))) tw=some (.tup (zs.map V.int)):=qA1;have a0:=(qA2 b9 (.tup (zs.map V.int))) _ _ a0;generalize Ag He tw (.tup (zs.map V.int))=Hf at sf a0 ao ⊢;have ab:Keep d c H Hc:=K5.trans ((Keep.of_same sx).trans K3);have c2:=hN.keep S ab;refine⟨a,tw,g,zs,rfl,c2.same sf,wf,by lia,.inl ao,rz,λb2 Hg sg hB=>?_⟩
  have bi:=qBP g zs;have bd:TabB Hc Pt:=ab _ _ m aa ad;refine⟨_,rfl,b2,tq,qBQ g zs,wz,rfl,(sf.trans sg) _ _ bd,hB,qDN wf rz,by lia,⟨sg _ _ a0,by rw[bi];exact aw⟩,w1,λrp Hh sh Fp _=>?_⟩
  have cp:rp<=r:=Fp.2.2 r FW.1 (FW.2.1.part rz bu);have ca:=Fp.1;have sH:=sf.trans (sg.trans sh);refine bq _ _ (cut λN5 a9=>?_);have au:Keep d c H Hh:=ab.trans (.of_same sH);have az:=au _ _ hA (S.tup hA).1 (S.tup hA).2;refine⟨_,rfl,_,rfl,a,_,rfl,.inr (Ac0 az),?_⟩;rw[a2];refine⟨d,c,k',ms',(g.length:Int),rfl,S3.same sH,(by show k'<=1000000000;lia),by lia,by lia,λjz cg Hi j0 j1 Si Ki=>?_⟩
  obtain⟨j,rfl⟩:=Int.eq_ofNat_of_zero_le j0;have hj:j<g.length:=by lia
  have a3:Keep d c H Hi:=au.trans Ki;have bt:=hN.keep S a3;clear az;have ba:TabB Hi Pt:=a3 _ _ m aa ad;have bp:=a3 _ _ hT.1 (S.tup hT.1).1 (S.tup hT.1).2;obtain⟨aq,ac,a8⟩:=id bt;have ce:=C2 a8;obtain⟨rj,ej,gj⟩:=qG5 a8 (A4 hj);refine a9 _ _ (cut λN6 bh=>?_);refine⟨_,rfl,_,rfl,_,rfl,a,_,rfl,ac,λq1 Hj sj bc=>?_⟩;rw[qcW] at bc;refine⟨_,rfl,_,rfl,a,_,_,_,rfl,rfl,Ac0 (sj _ _ ac),qDV j0 (by rw[D0,C5,ej];rfl),?_⟩
  refine⟨_,rfl,rj,_,rfl,sj _ _ gj,λq2 Hk sk b3=>?_⟩;rw[show(1:Int)=((1:Nat):Int) from rfl,qP1,<- A89] at b3;refine⟨(by show 1<=B62;decide),λq3 bx=>?_⟩
  have sl:=qA2 bx (.tup [.ref q2]);have s1:=sk.trans sl;refine⟨q1,q3,_,_,rfl,rfl,s1 _ _ bc,qA1,qJW (by rw[C8,A0];show _+1<=_;lia),λq4 Hl sm br=>?_⟩
  have s2:=sj.trans (s1.trans sm);refine⟨_,rfl,_,rfl,_,_,rfl,rfl,_,rfl,a,_,rfl,s2 _ _ ac,λq5 Hm sn b6=>?_⟩;rw[show(j:Int)+1=((j+1:Nat):Int) by lia,qP1] at b6
  refine⟨q4,q5,_,_,rfl,rfl,sn _ _ br,b6,qJW (by rw[A9,C8,R1,A0];show _+1+_<=_;lia),λq6 Hn so bm=>?_⟩
  have s3:=s2.trans (sn.trans so);have ap:=a8.same λr zs e=>s3 _ _ e;have ge:=A4 hj;have bo:Rise (j:Int) (g[j].drop 1):=(wf j _ ge).sub (A02 _ _);have hM:NetAt Hn q6 (g.take j++[g[j].drop 1]++g.drop (j+1)):=by
   refine⟨aq.take j++[q2]++aq.drop (j+1),?_,Paired.app (Paired.app (qJM j ap) (.cons ((sl.trans (sm.trans (sn.trans so))) _ _ b3) .nil)) (qJO (j+1) ap)⟩;rw[bm,C1,C1,B48,A89]
   rfl
  have b5:WFn (g.take j++[g[j].drop 1]++g.drop (j+1)):=wf.put hj bo;have lM:(g.take j++[g[j].drop 1]++g.drop (j+1)).length=g.length:=by rw[qV5 hj,b7]
  have sub:∀ w,0<=w->w<(g.length:Int)->∀ y ∈ nd (g.take j++[g[j].drop 1]++g.drop (j+1)) w,y ∈ nd g w:=fun w w0 _=>qZ7 hj (fun y hy=>by
   have e:nd g (j:Int)=g[j]:=qAS (by rw[D0];exact ge)
   rw[e];exact T8 hy) w0
  generalize g.take j++[g[j].drop 1]++g.drop (j+1)=ag at hM b5 lM sub;refine⟨_,rfl,q6,ta,ag,k,rfl,s3 _ _ ba,hM,b5,by lia,⟨s3 _ _ bp,by rw[lM];exact rA⟩,a1,λrl Ho sp Fl _=>?_⟩
  have cl:=FW.emb (by lia) sub Fl
  have ck:=Fl.1;refine bh _ _ ?_;refine⟨_,rfl,_,_,rfl,rfl,_,rfl,?_⟩;rw[if_pos (decide_eq_true (show(0:Int)<rp by lia))]
  refine⟨_,rfl,_,_,rfl,rfl,_,rfl,?_⟩;rw[if_pos (decide_eq_true cp)];refine⟨_,rfl,_,_,rfl,rfl,_,rfl,?_⟩;rw[if_pos (decide_eq_true (show(0:Int)<rl by lia))]
  refine⟨_,rfl,_,_,rfl,rfl,?_⟩;dsimp only;rw[decide_eq_true cl];exact q _ _ _ (Si.same (s3.trans sp)) (by lia) (by lia) (a3.trans (.of_same (s3.trans sp)))
 refine⟨_,rfl,r3,_,rfl,.inr (Ac0 gY.1),_,_,rfl,rfl,_,rfl,?_⟩;refine ite2 (λc5=>?_) (λc5=>a4 _ (.refl _));refine⟨_,rfl,_,rfl,a,r3,g,o,rfl,al,a9,wf,by lia,gY,?_,λrm H6 s6 Fm _=>?_⟩
 ·have:=qGE rA.nodup sub
  lia
 refine⟨_,rfl,_,_,rfl,rfl,_,rfl,?_⟩;have:=FW.mono Fm sub;rw[decide_eq_false (show¬rm<r by lia)]
 exact iteF (a4 _ s6)
theorem sc_Lalone_right:FnScope ["_law_net_here","_law_asked_here","_law_rooms","_law_alone"] ["_law_net_here","_law_asked_here","_law_rooms"] (qA8 qCQ):=qBO
theorem ok_Lalone_right (F:Fun K "_law_alone_right" "_law_alone_right" qCQ f fd) (qDA:Clb P w K mg base 6 qKG qN8 "_law_told" ["_law_net_here","_law_asked_here"] (qIG Pt)) (qBK:mg "len" = none) (a3:mg "max" = none) (qKT:mg "min" = none):FnOk P w K mg base CX0 7 f fd ["_law_net_here","_law_asked_here","_law_rooms"] (qNZ Pt):=by
 refine F.okA sc_Lalone_right λae A ac s H vs Q E hr h=>?_;obtain⟨a,t,n,k,r,rfl,a2,hN,wf,a9,hT,a1,FW,q⟩:=h;refine⟨_,(qA4 (qOA (i:=3) sc_Lalone_right.nd rfl rfl rfl (lcs (own:=["_law_work"]) (fv:=[0]) (by kernel_rfl)) (qDC (pv 1)) (λz1=>qC0 0) (λz1=>qBI) (λz1=>(qAL qDA hr rfl (qA0 (pv 1) (qA0 (qBW (qA0 (pv 0) qA3)) qA3)))) (by kernel_rfl)) (qA6 (qAK (qaO (qMT qZ1 qZ1 (qAC (qHA rfl) rfl a3 qP9 (qA0 (pv 3) qA3)) (pv 2) (qAP qDD (qAP qD1 (qAC (qHA rfl) rfl a3 qP9 (qA0 (pv 3) qA3)) (qAC qAA rfl qBK qBR (qA0 (pv 1) qA3))) qA9)) (qaL (qHM qZ2 (qAC (qXO rfl) rfl qKT qP8 (qA0 (pv 3) qA3)) qA9 (qBF _))))))),?_⟩
 try dsimp only[Cx.nox,Cx.wish,cxOf]
 have rA:=hT.2;have lA:=rA.len;refine cut λN0 ab=>?_;refine⟨_,rfl,t,rfl,⟨_,Ac0 hT.1⟩,λp hp=>?_⟩;refine qFJ (p:=p) (a:=t) (xs:=k.map V.int) (λi σ e=>∃(v:Option V) (rs:List Int),σ=[v,some (.ref a)]/\Same H e/\e p=some (.lst (rs.map V.int))/\Paired (λx r=>Few n [x] r) (k.take i) rs) ?_ ?_ ?_ ?_
 ·exact⟨none,[],rfl,qA2 hp _,qA1,.nil⟩
 ·rintro i σ e hi ⟨v,rs,rfl,sm,_⟩;exact Ac0 (sm _ _ hT.1)
 ·refineλi x σ e c l=>opq λah a7=>?_;obtain⟨v,rs,rfl,sm,b,g⟩:=l;obtain⟨z,ez,rfl⟩:=qB5 c;refine a7 ?_;have hi:=(A5.mp ez).1;have zb:=rA.in_ z (B0 ez);have j:=C2 g;rw[C8] at j;refine⟨_,rfl,_,rfl,(by show 1<=B62;decide),λtz a4=>?_⟩
  have s1:=sm.trans (qA2 a4 (.tup [.int z]));have gz:qD8 (Ag e tz (.tup [.int z])) tz n [z]:=⟨qA1,⟨W9 _ _,λx c=>by rw[A6.mp c];exact zb⟩⟩
  have d:=(qA2 a4 (.tup [.int z])) _ _ b;generalize Ag e tz (.tup [.int z])=Hd at s1 gz d ⊢;refine⟨a,tz,n,[z],rfl,s1 _ _ a2,hN.same s1,wf,a9,gz,A7 _,λrz He s2 Fz _=>?_⟩;refine⟨_,s2 _ _ d,small_n (by rw[A0];lia),_,rs++[rz],rfl,qAD (s1.trans s2) hp,?_,?_⟩
  ·rw[qA1,C1]
   rfl
  ·rw[qNU ez];exact U3 g Fz
 refineλσ e a5=>opq λag a6=>?_;obtain⟨v,rs,rfl,sm,b,g⟩:=a5;refine a6 ?_;rw[A0,X3] at g;have j:=C2 g;have a8:∀x∈k,∃rx∈rs,Few n [x] rx:=λx c=>by
  obtain⟨i,hi⟩:=D6 c;obtain⟨y,ey,h⟩:=qAY g hi;exact⟨y,B0 ey,h⟩
 have a0:∀rx∈rs,∃x∈k,Few n [x] rx:=λrx c=>by
  obtain⟨i,hi⟩:=D6 c;obtain⟨y,ey,h⟩:=qG5 g hi;exact⟨y,B0 ey,h⟩
 obtain⟨x0,ai,ea⟩:=U9 (X1.mp a1);obtain⟨m,em⟩:∃m,topD none rs=some m:=by
  cases rs with
  |nil=>rw[ea] at j;cases j
  |cons x ws=>exact⟨_,rfl⟩
 obtain⟨o,eo⟩:∃m,lowD none rs=some m:=by
  cases rs with
  |nil=>rw[ea] at j;cases j
  |cons x ws=>exact⟨_,rfl⟩
 have tm:=qRH em;have to:=qZD eo;obtain⟨xm,aa,Fm⟩:=a0 m tm.1;obtain⟨xo,af,Fo⟩:=a0 o to.1;have c1:m<=r:=Fm.mono FW λx c=>by rw[A6.mp c];exact aa
 have m1:=Fm.1;have o1:=Fo.1;have c2:r<=m+(k.length:Int) - 1:=qcN FW m1 (fun x c=>by
  obtain⟨rx,ad,Fx⟩:=a8 x c;obtain⟨u,st,P,h⟩:=Fx.2.1;exact⟨u,st,P.mono (tm.2 rx ad),h⟩) (by rw[ea];simp)
 refine ab _ _ ?_;refine⟨_,rfl,p,rs,m,rfl,Ab2 b,em,_,rfl,_,_,rfl,rfl,?_⟩;refine⟨_,rfl,?_⟩;rw[if_pos (decide_eq_true c1)];refine⟨_,rfl,p,rs,m,rfl,Ab2 b,em,_,rfl,t,_,rfl,.inr (Ac0 (sm _ _ hT.1)),_,_,rfl,rfl,_,_,rfl,rfl,_,_,rfl,rfl,?_⟩;refine⟨_,rfl,?_⟩;rw[if_pos (decide_eq_true (by rw[A0];exact c2))]
 refine⟨_,rfl,p,rs,o,rfl,Ab2 b,eo,_,_,rfl,rfl,?_⟩;dsimp only;rw[decide_eq_true (show(0:Int)<o by lia)]
 exact q e sm
theorem qbV {v u:Int} (b:Bool):atI [V.int v,V.int u] (if b=true then(1:Int) else 0)=some (.int (if b=true then u else v)):=by cases b<;>rfl
theorem sc_law:FnScope ["_law_script","_law_state","_law_net_here","_law_asked_here","_law_rooms","_law_other","_law_tree","_law_last"] ["_law_script"] (qA8 qKX):=qBO
theorem ok_law (F:Fun K "law" "law" qKX f fd) (qIX:Clb P w K mg base 1 qNB qX1 "_law_begin" ["_law_script"] (qUV K)) (qB0:Clb P w K mg base 1 qFS qG9 "_law_take" ["_law_state","_law_many"] qJ9) (qPM:Clb P w K mg base 3 qX3 qcO "_law_net" ["_law_state","_law_many"] qdM) (qIY:Clb P w K mg base 2 qNC qX2 "_law_asked" ["_law_state","_law_net_here"] qUW) (qDA:Clb P w K mg base 6 qKG qN8 "_law_told" ["_law_net_here","_law_asked_here"] (qIG Pt)) (qDL:Clb P w K mg base 5 qEW qL6 "never_paper" ["net","asked","rooms"] (qRI Pt)) (qCY:Clb P w K mg base 7 qEI qKB "_law_alone_right" ["_law_net_here","_law_asked_here","_law_rooms"] (qNZ Pt)) (qDM:Clb P w K mg base 7 qF1 qLA "_law_more_right" ["_law_state","_law_net_here","_law_asked_here","_law_rooms"] (qRK Pt)) (qIW:Clb P w K mg base 2 qNA qX0 "beside" ["one","other"] qRN) (qCN:Clb P w K mg base 2 qEZ qI5 "_law_tree_net" ["_law_state","_law_many"] qPR) (qD6:Clb P w K mg base 5 qFQ qN5 "tree_rooms" ["net","work"] qJ8) (qF3:Clb P w K mg base 5 qDY qOV "tree_plan" ["net","work"] (qLK Po)) (qM6:Clb P w K mg base 4 qSI qWZ "does" ["net","rooms","plan","asked"] qPU) (qBK:mg "len" = none) (qUF:mg "int" = none):FnOk P w K mg base CX0 8 f fd ["_law_script"] (qMF K Pt Po):=by
 refine F.okA sc_law λce A b4 s H vs Q E g h=>?_;obtain⟨as,b5,sc,ns,rfl,hS,b9,q⟩:=h;refine⟨_,(qA4 (qAF (i:=1) sc_law.nd rfl (E9 rfl) (qAL qIX g rfl (qA0 (pv 0) qA3))) (qA4 (qAF (i:=2) sc_law.nd rfl (E9 rfl) (qAL qPM g rfl (qA0 (pv 1) (qA0 (qBY qES (qBX (qA0 (qAP qD1 qA9 (qAL qB0 g rfl (qA0 (pv 1) (qA0 qA9 qA3)))) (qA0 (qAP qD1 qA9 (qAL qB0 g rfl (qA0 (pv 1) (qA0 qA9 qA3)))) qA3))) (qAB qKO rfl qUF qXR (qA0 (qHM qMU (qAL qB0 g rfl (qA0 (pv 1) (qA0 qA9 qA3))) qA9 (qBF _)) qA3)) (λ_ _=>rfl)) qA3)))) (qA4 (qAF (i:=3) sc_law.nd rfl (E9 rfl) (qAL qIY g rfl (qA0 (pv 1) (qA0 (pv 2) qA3)))) (qA4 (qAF (i:=4) sc_law.nd rfl (E9 rfl) (qAL qDA g rfl (qA0 (pv 2) (qA0 (pv 3) qA3)))) (qA4 (qCL (PW.pt (qYJ (qAU qOG (pv 4) qA9 (qBF _)) (qYJ (qF6 (qJL (qAL qDL g rfl (qA0 (pv 2) (qA0 (pv 3) (qA0 (pv 4) qA3)))))) (qV4 (qRW (qJG (qAL qCY g rfl (qA0 (pv 2) (qA0 (pv 3) (qA0 (pv 4) qA3)))))))))) (qA6 (qAK qHN)) qAV) (qA4 (qCL (qRW (qJG (qAL qDM g rfl (qA0 (pv 1) (qA0 (pv 2) (qA0 (pv 3) (qA0 (pv 4) qA3))))))) (qA6 (qAK qHN)) qAV) (qA4 (qAF (i:=5) sc_law.nd rfl (E9 rfl) (qAL qPM g rfl (qA0 (pv 1) (qA0 (qAP qD1 qA9 (qAL qB0 g rfl (qA0 (pv 1) (qA0 (qAP qDD qA9 (qAC qAA rfl qBK qBR (qA0 (pv 2) qA3))) qA3)))) qA3)))) (qA4 (qCL (qAU qZ0 (qAL qDA g rfl (qA0 (qAL qIW g rfl (qA0 (pv 2) (qA0 (pv 5) qA3))) (qA0 (pv 3) qA3))) (pv 4) (qBF _)) (qA6 (qAK qHN)) qAV) (qA4 (qAF (i:=6) sc_law.nd rfl (E9 rfl) (qAL qCN g rfl (qA0 (pv 1) (qA0 (qAP qD1 qA9 (qAL qB0 g rfl (qA0 (pv 1) (qA0 qA9 qA3)))) qA3)))) (qA4 (qAF (i:=7) sc_law.nd rfl (E9 rfl) (qAP qDD (qAC qAA rfl qBK qBR (qA0 (pv 6) qA3)) qA9)) (qA4 (qCL (qAU qZ0 (qAL qDA g rfl (qA0 (pv 6) (qA0 (qBW (qA0 (pv 7) qA3)) qA3))) (qAL qD6 g rfl (qA0 (pv 6) (qA0 (pv 7) qA3))) (qBF _)) (qA6 (qAK qHN)) qAV) (qA6 (qAK (qAL qM6 g rfl (qA0 (pv 6) (qA0 (qAL qD6 g rfl (qA0 (pv 6) (qA0 (pv 7) qA3))) (qA0 (qAL qF3 g rfl (qA0 (pv 6) (qA0 (pv 7) qA3))) (qA0 (qBW (qA0 (pv 7) qA3)) qA3)))))))))))))))))),?_⟩
 try dsimp only[Cx.nox,Cx.wish,cxOf]
 refine cut λN0 bf=>?_;refine⟨_,rfl,sc,ns,rfl,hS,b9,λd c ms H1 S1 ah bz ca=>?_⟩;have j:TabB H1 Pt:=ah _ _ as;have t:Pt≠d:=qC6 j S1.dict (by intro z;cases z)
 have v:Pt≠c:=qC6 j S1.list (by intro z;cases z)
 have a8:TabT H1 Po:=ah _ _ b5;have az:Po≠d:=qC6 a8 S1.dict (by intro z;cases z)
 have bs:Po≠c:=qC6 a8 S1.list (by intro z;cases z)
 refine bf _ _ (cut λN1 bn=>?_);refine⟨_,rfl,_,rfl,d,c,0,ms,7,rfl,S1,(by show(0:Int)<=1000000000;decide),by decide,by decide,λk1 b2 H2 a0 a1 S2 K2=>⟨_,_,rfl,rfl,?_⟩⟩
 refine⟨_,rfl,d,c,0+1,b2,2,rfl,S2,(by show(0:Int)+1<=1000000000;decide),by decide,by decide,λk2 bc H3 b0 b1 S3 K3=>⟨_,_,rfl,rfl,?_⟩⟩
 refine⟨(by show 2<=B62;decide),λp hp=>?_⟩
 have S4:=S3.new hp (.lst [.int (1+k1),.int (8+k2)]);have K4:=qCC (d:=d) (c:=c) hp (.lst [.int (1+k1),.int (8+k2)]);have g4:(Ag H3 p (.lst [.int (1+k1),.int (8+k2)])) p=some (.lst [.int (1+k1),.int (8+k2)]):=qA1;have np:p≠d/\p≠c:=⟨(qA5 S3.dict hp).symm,(qA5 S3.list hp).symm⟩;dsimp only;generalize Ag H3 p (.lst [.int (1+k1),.int (8+k2)])=H4 at S4 K4 g4 ⊢;refine⟨_,rfl,d,c,0+1+1,bc,8,rfl,S4,(by show(0:Int)+1+1<=1000000000;decide),by decide,by decide,λk3 ay H5 c0 c1 S5 K5=>⟨rfl,.inr ⟨_,rfl,p,_,_,_,rfl,rfl,Ab2 (K5 _ _ g4 np.1 np.2),qbV _,?_⟩⟩⟩
 have vb:1<=(if decide (V.int k3=V.int 0)=true then 8+k2 else 1+k1)/\(if decide (V.int k3=V.int 0)=true then 8+k2 else 1+k1)<=9:=by split<;>lia
 generalize (if decide (V.int k3=V.int 0)=true then 8+k2 else 1+k1)=m at vb
 refine⟨d,c,0+1+1+1,ay,m,rfl,S5,(by show(0:Int)+1+1+1<=1000000000-10000;decide),by lia,by lia,λa o t4 bi H6 S6 c9 c4 K6 hN wf nm=>?_⟩
 have al:Keep d c H1 H6:=K2.trans (K3.trans (K4.trans (K5.trans K6)));refine bn _ _ (cut λN2 be=>?_);refine⟨_,rfl,_,rfl,d,c,t4,bi,a,o,rfl,S6,(by show t4<=1000000000-100;lia),hN,wf,by lia,by lia,λta Ad t5 bj H7 S7 ci c6 K7 hW rA a1=>?_⟩
 have y:=hN.keep S6 K7;have a9:=al.trans K7;refine be _ _ (cut λN3 bp=>?_);refine⟨_,rfl,_,rfl,a,ta,o,Ad,rfl,a9 _ _ j t v,y,wf,by lia,⟨hW,rA⟩,a1,λr H8 s8 FW _=>?_⟩
 have r1:=FW.1;have aa:Keep d c H1 H8:=a9.trans (.of_same s8);have S8:=S7.same s8;have a2:=y.same s8;have a6:qD8 H8 ta o Ad:=⟨s8 _ _ hW,rA⟩;have ao:TabB H8 Pt:=aa _ _ j t v;obtain⟨ws,N⟩:=qOJ wf rA;have dn:=FW.2.1.done wf N rA;refine bp _ _ (cut λN4 b7=>?_);refine⟨_,rfl,_,_,rfl,rfl,?_⟩;refine⟨_,rfl,?_⟩;rw[decide_eq_false (show¬r<1 by lia)]
 refine iteF ?_;refine⟨_,rfl,_,rfl,_,rfl,a,ta,o,Ad,ws,r,rfl,ao,a2,wf,by lia,a6,a1,N,dn,λH9 s9=>?_⟩
 refine⟨_,rfl,?_⟩;refine iteF ?_;have ac:Keep d c H1 H9:=aa.trans (.of_same s9);have S9:=S8.same s9;have u:=a2.same s9;have n:qD8 H9 ta o Ad:=⟨s9 _ _ a6.1,rA⟩;refine⟨_,rfl,_,rfl,_,rfl,a,ta,o,Ad,r,rfl,ac _ _ j t v,u,wf,by lia,n,a1,FW,λHa sa=>?_⟩
 refine⟨_,rfl,?_⟩;refine iteF ?_;have an:Keep d c H1 Ha:=ac.trans (.of_same sa);have Sa:=S9.same sa;refine b7 _ _ (cut λN5 bb=>?_);refine⟨_,rfl,_,rfl,_,rfl,_,rfl,d,c,a,ta,t5,bj,o,Ad,r,rfl,Sa,(by show t5<=1000000000-100;lia),an _ _ j t v,u.same sa,wf,by lia,by lia,⟨sa _ _ n.1,rA⟩,a1,FW,λt6 bm Hb Sb cb c3 Kb=>?_⟩
 refine⟨_,rfl,?_⟩;refine iteF ?_;have ag:=(u.same sa).keep Sa Kb;have b8:=an.trans Kb;have ae:qD8 Hb ta o Ad:=⟨Kb _ _ (sa _ _ n.1) (Sa.tup (sa _ _ n.1)).1 (Sa.tup (sa _ _ n.1)).2,rA⟩;clear n a6 u a2 y ac aa a9 al;obtain⟨rs,hA,NL⟩:=id ag;have a3:(((rs.map V.ref).length:Nat):Int)=(o.length:Int):=by rw[A0,C2 NL]
 refine bb _ _ (cut λN6 ax=>?_);refine⟨_,rfl,_,rfl,_,rfl,a,_,rfl,.inr (Ac0 hA),_,_,rfl,rfl,?_⟩;dsimp only;rw[a3];refine⟨d,c,t6,bm,10-(o.length:Int),rfl,Sb,(by show t6<=1000000000;lia),by lia,by lia,λk7 b6 Hc e0 e1 Sc Kc=>⟨_,_,rfl,rfl,?_⟩⟩
 refine⟨d,c,t6+1,b6,1+k7,rfl,Sc,(by show t6+1<=1000000000-10000;lia),by lia,by lia,λb k t8 aw Hd Sd ch cg Kd hO aj no=>?_⟩
 have ab:=Kc.trans Kd;have av:=b8.trans ab;have bh:=ag.keep Sb ab;have bo:=ab _ _ ae.1 (Sb.tup ae.1).1 (Sb.tup ae.1).2;have bl:=qM4 o k;refine ax _ _ (cut λN7 y=>?_);refine⟨_,rfl,_,rfl,a,b,o,k,rfl,bh,wf,hO,aj,by lia,by lia,by lia,by lia,λcc He se hB=>?_⟩
 refine⟨_,rfl,cc,ta,qBZ o k,Ad,rfl,se _ _ (av _ _ j t v),hB,qUH wf aj,by lia,⟨se _ _ bo,rA.mono (by lia)⟩,a1,λr2 Hf sf F2 _=>?_⟩
 obtain rfl:r2=r:=FW.beside wf (λx hx=>rA.in_ x hx) F2;refine⟨_,rfl,rfl,_,rfl,?_⟩;rw[decide_eq_true (rfl:V.int r2=V.int r2)];refine iteF ?_;have s2:=se.trans sf;have bk:=av.trans (.of_same s2);have Sf:=Sd.same s2;clear hA NL a3 rs;refine y _ _ (cut λN8 a2=>?_);refine⟨_,rfl,_,rfl,d,c,t8,aw,9,rfl,Sf,(by show t8<=1000000000;lia),by decide,by decide,λk9 br Hg f0 f1 Sg Kg=>⟨_,_,rfl,rfl,?_⟩⟩
 refine⟨d,c,t8+1,br,1+k9,rfl,Sg,(by show t8+1<=1000000000-1000;lia),by lia,by lia,λtr e c8 bv Hh Sh bu bt Kh hT a4 nt on=>?_⟩
 have ai:=bk.trans (Kg.trans Kh);obtain⟨rs,hA,NL⟩:=id hT;have a3:(((rs.map V.ref).length:Nat):Int)=(e.length:Int):=by rw[A0,C2 NL]
 refine a2 _ _ (cut λN9 u=>?_);refine⟨_,rfl,tr,_,rfl,.inr (Ac0 hA),_,_,rfl,rfl,?_⟩;dsimp only;rw[a3];have bw:1<=e.length:=by lia
 have rW:Rise (e.length:Int) [(e.length:Int)-1]:=⟨W9 _ _,λx hx=>by rw[A6.mp hx];lia⟩
 refine u _ _ (cut λcd aq=>?_);refine⟨_,rfl,_,rfl,(by show 1<=B62;decide),λte ba=>?_⟩
 have si:=qA2 ba (.tup [.int ((e.length:Int)-1)]);have ar:qD8 (Ag Hh te (.tup [.int ((e.length:Int)-1)])) te e [(e.length:Int)-1]:=⟨qA1,rW⟩;generalize Ag Hh te (.tup [.int ((e.length:Int)-1)])=Hi at si ar ⊢;have TI:TreeIn Hi tr e ((e.length:Int)-1):=⟨hT.same si,a4,by lia,by lia,e.length,on,A7 _,by lia⟩
 refine⟨tr,te,e,[(e.length:Int)-1],rfl,si _ _ (ai _ _ j t v),hT.same si,a4,by lia,ar,A7 _,λrt Hj sj FT c2=>?_⟩
 refine⟨_,rfl,_,rfl,tr,e,_,rfl,TI.same sj,λzs f Hk sk NT NO=>?_⟩;have T:=TI.tin NT;have ef:=FT.tree T NO;rw[ef];refine⟨rfl,_,rfl,?_⟩;rw[decide_eq_true (rfl:V.int rt=V.int rt)];refine iteF ?_;have au:=sj.trans sk;refine aq _ _ ?_;refine⟨_,rfl,_,rfl,_,rfl,tr,e,_,rfl,TI.same au,λcj f1 Hl sl N1 bg=>?_⟩;have e1:=FT.tree (TI.tin N1) bg;rw[e1];have a5:=au.trans sl;refine⟨_,rfl,_,rfl,tr,e,_,rfl,(si.trans a5) _ _ (ai _ _ a8 az bs),TI.same a5,λl c5 f2 P2 Hm sm fl N2 a7 PO PL=>?_⟩;have T2:=TI.tin N2;have e2:=FT.tree T2 a7;have hw:=qBM N2;have am:=qLI T2 PO;have c7:=(qMA T2 PO _ _ rfl hw).2.2;have bx:=am.length_eq;have cf:=N2.1.len;obtain⟨st,b3,pm,af⟩:=(qRG T2 a7 PO (qVT a7 hw)).lets (Int.le_of_eq e2) (λx hx=>N2.1.in_ x (am.mem_iff.mp hx)) y3 (λx hx=>nomatch hx) (.zero) (.refl _);have pl:=qe0 af b3;have ak:∀x∈[(e.length:Int)-1],x∈st:=λx hx=>pm.mem_iff.mpr hx;have bd:=a5.trans sm;refine⟨_,rfl,(by show 1<=B62;decide),λtg bq=>?_⟩
 have sn:=qA2 bq (.tup [.int ((e.length:Int)-1)]);have ap:(Ag Hm tg (.tup [.int ((e.length:Int)-1)])) tg=some (.tup ([(e.length:Int)-1].map V.int)):=qA1;generalize Ag Hm tg (.tup [.int ((e.length:Int)-1)])=Hn at sn ap ⊢;refine⟨tr,l,tg,e,P2 ((e.length:Int)-1),rt,[(e.length:Int)-1],rfl,⟨(hT.same si).same (bd.trans sn),a4,by lia,PL.same sn,by lia,af,by have:=FT.1;lia,by lia⟩,ap,(by rw[B9];decide),λad Ho so P4=>?_,λad w0 Ho so P4=>absurd P4 (pl.2 ad w0)⟩
 rw[pl.1 ad P4,decide_eq_true ak];exact q Ho
end
theorem all_mk {l:PySem.W.OpenLaw} {K:Ab1} {h:Heap} {mg:Ab0} {fa i j ck b3 bw ca bd bt ai an bl a5 bs b7 b4 bo o c7 ar bi ak cg b5 c0 aq a7 ci q bm a6 b0 bu b6 aj ao c8 b9 c5 n:Addr} (X:K.In h) (G:h.Ns B74 mg) (bh:mg "law" = some (.ref fa))
  {ab ad c4 c1 bj a9 a1 u:Option Addr} {au a4 af b1:Array (Option Value)} {bg a0 aw be y bn bq am c2 az ba cc a8 ac cj cl ay t z r p x:Value}
  {qF2 qGL qEB qFX:Addr}
  (b8:W5 K B74 "Barred" = some (some (.ref i)))
  (co:G3 K (.ref i) "__init__" = some (some (.ref j)))
  (ce:K.lookup j=some ⟨bg,ab,.func (R0 "__init__" "Barred.__init__" (qDZ qBL) (qAZ qBL) (qA8 qBL) .none a0 aw be ad y bn),au⟩) (c3:X4 K y "Barred.__init__" = true) (ae:J4 K (.ref j)=true)
  (T_all_needed:Tf K "all_needed" qE5 ck)
  (T_use_counts:Tf K "use_counts" qE1 b3)
  (T_renumbered:Tf K "renumbered" qE3 bw)
  (T_part_net:Tf K "part_net" qG0 ca)
  (T_is_tree:Tf K "is_tree" qGR bd)
  (T_shifted:Tf K "shifted" qGP bt)
  (T_beside:Tf K "beside" qIK ai)
  (T_fault_of_do:Tf K "fault_of_do" qDG an)
  (T_fault_of:Tf K "fault_of" qG2 bl)
  (T_stand_behind:Tf K "stand_behind" qCO a5)
  (T_moved:Tf K "moved" qMK bs)
  (T_has_all:Tf K "has_all" qGS b7)
  (T_moves_of:Tf K "moves_of" qG1 b4)
  (T_stands_reached:Tf K "stands_reached" qAG bo)
  (bp:W5 K B74 "best_end" = some (some (.ref o))) (a2:K.lookup o=some ⟨bq,c4,.func (R0 "best_end" "best_end" (qDZ qCJ) (qAZ qCJ) (qA8 qCJ) .none am c2 az c1 (.ref qF2) ba),a4⟩) (cd:X4 K (.ref qF2) "best_end" = true) (c6:J4 K (.ref o)=true)
  (T_plan_to:Tf K "plan_to" qGQ c7)
  (T_part_numbers:Tf K "part_numbers" qCP ar)
  (T_fewest:Tf K "fewest" qIJ bi)
  (T_never_paper:Tf K "never_paper" qDF ak)
  (T_played:Tf K "played" qII cg)
  (T_does:Tf K "does" qRP b5)
  (T_demand_tree:Tf K "demand_tree" qDH c0)
  (T_number_over:Tf K "number_over" qDE aq)
  (T_numbers_of:Tf K "numbers_of" qE4 a7)
  (T_tree_rooms:Tf K "tree_rooms" qE2 ci)
  (cb:W5 K B74 "tree_plan" = some (some (.ref q))) (ax:K.lookup q=some ⟨cc,bj,.func (R0 "tree_plan" "tree_plan" (qDZ qC5) (qAZ qC5) (qA8 qC5) .none a8 ac cj a9 (.ref qEB) cl),af⟩) (ah:X4 K (.ref qEB) "tree_plan" = true) (bx:J4 K (.ref q)=true)
  (T_Lbegin:Tf K "_law_begin" qIL bm)
  (T_Ltake:Tf K "_law_take" qMM a6)
  (T_Lsome_needs:Tf K "_law_some_needs" qDI b0)
  (T_Ltree_net:Tf K "_law_tree_net" qER bu)
  (T_Lnet:Tf K "_law_net" qRQ b6)
  (T_Lasked:Tf K "_law_asked" qIM aj)
  (T_Lneeded:Tf K "_law_needed" qGT ao)
  (T_Ltold:Tf K "_law_told" qML c8)
  (T_Lmore_right:Tf K "_law_more_right" qDJ b9)
  (T_Lalone_right:Tf K "_law_alone_right" qCQ c5)
  (ch:W5 K B74 "law" = some (some (.ref n))) (ap:K.lookup n=some ⟨ay,a1,.func (R0 "law" "law" (qDZ qKX) (qAZ qKX) (qA8 qKX) .none t z r u p x),b1⟩) (bf:X4 K p "law" = true) (aa:J4 K (.ref n)=true)
  (a3:xcIn K i (some (.ref j))=true)
  (al:G3 K (.ref i) "__setattr__" = some (some (.builtin "object.__setattr__")))
  (bk:J4 K (.ref i)=true)
  (qC1:j7 K (.ref j)=true)
  (n_move:G3 K (.ref i) "move" = some none)
  (cp:A60 K (.ref i) (.ref i)=some true)
  (n_word:G3 K (.ref i) "word" = some none)
  (qET:hdIn K qF2 qGL=true)
  (qE9:hdIn K qEB qFX=true)
  (Z:Zs K ["all","dict","divmod","enumerate","int","len","list","max","min","range","set","sorted","tuple"])
  : ∃fd:B77,(∀(s:Shared) (v:Value),BindsTo s fd ⟨[v],[]⟩ [("_law_script",v)])/\∀base:Heap,K.In base->base.Ns B74 mg->BM mg base->FnOk l.prog w K mg base CX0 8 fa fd ["_law_script"] (qMF K qGL qFX):=by
 have e:=bh.symm.trans (n0 X G ch);cases e;have b:=fun_mk (st:=qBL) ce c3 ae;have qBA:=b.binds (ps:=["self","move","word"]) λ_ _ _ _ _ _ k m=>us3 k m (λ_ _ _=>rfl);obtain⟨ct,g,cz⟩:=T_moved.use X G;have cw:=g.binds (ps:=["net","rooms","stand","move"]) λ_ _ _ _ _ _ k m=>us4 k m (λ_ _ _ _=>rfl);have cy:=g.kp;have d:=fun_mk (st:=qCJ) a2 cd c6;have av:=d.binds (ps:=["reached","asked"]) λ_ _ _ _ _ _ k m=>us2 k m (λ_ _=>rfl);have as:=n0 X G bp;obtain⟨db,f,df⟩:=T_played.use X G;have da:=f.binds (ps:=["net","rooms","plan"]) λ_ _ _ _ _ _ k m=>us3 k m (λ_ _ _=>rfl);have dj:=f.kp;have a:=fun_mk (st:=qC5) ax ah bx;have c9:=a.binds (ps:=["net","work"]) λ_ _ _ _ _ _ k m=>us2 k m (λ_ _=>rfl);have br:=n0 X G cb;have bb:=fun_mk (st:=qKX) ap bf aa;have qCS:=n0 X G b8;have qBV:XCls K i (some (.ref j)):=⟨a3,al,bk⟩;obtain⟨cq,bz,d8,b2,ag,cf,dk,dg,bc,de,d4,bv,dc,_⟩:=Z.mg X G;refine⟨R0 "law" "law" (qDZ qKX) (qAZ qKX) (qA8 qKX) .none t z r u p x,λs v=>.of_eq rfl,λbase _ _ hBM=>?_⟩;have B:Bs l.prog w base:=⟨rfl,rfl,rfl⟩;have qBB:=ok_init_Barred (P:=l.prog) (w:=w) (mg:=mg) (base:=base) (F:=b) (qBV:=qBV) (n_move:=n_move) (n_word:=n_word);obtain⟨_,d5⟩:=T_all_needed.c X G B λ_ F=>by apply ok_all_needed<;>assumption
 obtain⟨_,cu⟩:=T_use_counts.c X G B λ_ F=>by apply ok_use_counts<;>assumption
 obtain⟨_,cx⟩:=T_renumbered.c X G B λ_ F=>by apply ok_renumbered<;>assumption
 obtain⟨_,cr⟩:=T_part_net.c X G B λ_ F=>by apply ok_part_net<;>assumption
 obtain⟨_,d7⟩:=T_is_tree.c X G B λ_ F=>by apply ok_is_tree<;>assumption
 obtain⟨_,dd⟩:=T_shifted.c X G B λ_ F=>by apply ok_shifted<;>assumption
 obtain⟨_,qIW⟩:=T_beside.c X G B λ_ F=>by apply ok_beside<;>assumption
 obtain⟨_,cv⟩:=T_fault_of_do.c X G B λ_ F=>by apply ok_fault_of_do<;>assumption
 obtain⟨_,qBS⟩:=T_fault_of.c X G B λ_ F=>by apply ok_fault_of<;>assumption
 obtain⟨_,qAR⟩:=T_stand_behind.c X G B λ_ F=>by apply ok_stand_behind<;>assumption
 have d6:=ok_moved (P:=l.prog) (w:=w) (mg:=mg) (base:=base) (F:=g) (qBS:=qBS) (qAR:=qAR) (qBB:=qBB) (qBA:=qBA) (qBV:=qBV) (qC1:=qC1) (qCS:=qCS);obtain⟨_,qEP⟩:=T_has_all.c X G B λ_ F=>by apply ok_has_all<;>assumption
 obtain⟨_,d0⟩:=T_moves_of.c X G B λ_ F=>by apply ok_moves_of<;>assumption
 obtain⟨_,cm⟩:=T_stands_reached.c X G B λ_ F=>by apply ok_stands_reached<;>assumption
 have d2:=Clb.mk (ok_best_end (P:=l.prog) (w:=w) (mg:=mg) (base:=base) (F:=d) (qEP:=qEP) (qKT:=bc) (hcd:=rfl) (hBM:=hBM) (qET:=qET)) av d.kp as;obtain⟨_,d3⟩:=T_plan_to.c X G B λ_ F=>by apply ok_plan_to<;>assumption
 obtain⟨_,cn⟩:=T_part_numbers.c X G B λ_ F=>by apply ok_part_numbers<;>assumption
 obtain⟨_,cs⟩:=T_fewest.c X G B λ_ F=>by apply ok_fewest<;>assumption
 obtain⟨_,qDL⟩:=T_never_paper.c X G B λ_ F=>by apply ok_never_paper<;>assumption
 have dh:=ok_played (P:=l.prog) (w:=w) (mg:=mg) (base:=base) (F:=f) (qBS:=qBS) (qAR:=qAR) (qBD:=b2) (qBB:=qBB) (qBA:=qBA) (qBV:=qBV) (qC1:=qC1) (qCS:=qCS);obtain⟨_,qM6⟩:=T_does.c X G B λ_ F=>by apply ok_does<;>assumption
 obtain⟨_,d1⟩:=T_demand_tree.c X G B λ_ F=>by apply ok_demand_tree<;>assumption
 obtain⟨_,d9⟩:=T_number_over.c X G B λ_ F=>by apply ok_number_over<;>assumption
 obtain⟨_,qC9⟩:=T_numbers_of.c X G B λ_ F=>by apply ok_numbers_of<;>assumption
 obtain⟨_,qD6⟩:=T_tree_rooms.c X G B λ_ F=>by apply ok_tree_rooms<;>assumption
 have qF3:=Clb.mk (ok_tree_plan (P:=l.prog) (w:=w) (mg:=mg) (base:=base) (F:=a) (qC9:=qC9) (qRA:=bz) (qBG:=bv) (hcd:=rfl) (hBM:=hBM) (qE9:=qE9)) c9 a.kp br;obtain⟨_,qIX⟩:=T_Lbegin.c X G B λ_ F=>by apply ok_Lbegin<;>assumption
 obtain⟨_,qB0⟩:=T_Ltake.c X G B λ_ F=>by apply ok_Ltake<;>assumption
 obtain⟨_,di⟩:=T_Lsome_needs.c X G B λ_ F=>by apply ok_Lsome_needs<;>assumption
 obtain⟨_,qCN⟩:=T_Ltree_net.c X G B λ_ F=>by apply ok_Ltree_net<;>assumption
 obtain⟨_,qPM⟩:=T_Lnet.c X G B λ_ F=>by apply ok_Lnet<;>assumption
 obtain⟨_,qIY⟩:=T_Lasked.c X G B λ_ F=>by apply ok_Lasked<;>assumption
 obtain⟨_,dl⟩:=T_Lneeded.c X G B λ_ F=>by apply ok_Lneeded<;>assumption
 obtain⟨_,qDA⟩:=T_Ltold.c X G B λ_ F=>by apply ok_Ltold<;>assumption
 obtain⟨_,qDM⟩:=T_Lmore_right.c X G B λ_ F=>by apply ok_Lmore_right<;>assumption
 obtain⟨_,qCY⟩:=T_Lalone_right.c X G B λ_ F=>by apply ok_Lalone_right<;>assumption
 exact ok_law (P:=l.prog) (w:=w) (mg:=mg) (base:=base) (F:=bb) (qIX:=qIX) (qPM:=qPM) (qB0:=qB0) (qIY:=qIY) (qDA:=qDA) (qCY:=qCY) (qDL:=qDL) (qDM:=qDM) (qIW:=qIW) (qCN:=qCN) (qD6:=qD6) (qM6:=qM6) (qF3:=qF3) (qUF:=ag) (qBK:=cf)
noncomputable def tabsL:List LTab:=[⟨"best_end",144,142,"best_end.<locals>.<lambda>"⟩,⟨"tree_plan",211,209,"tree_plan.<locals>.<lambda>"⟩]
theorem walk {l:PySem.W.OpenLaw} {b:List Str} {XP:(Ab0)->Heap->Prop} {YP:World->Heap->Prop} {d:DefRec} {K:Params->Ab1} (hn:l.most=some 63)(j:d.params.defaults=[])
  (p:∀(w:World) (h:Heap),YP w h->(K w.params).In h)
  (i:∀t∈tabsL,((PyProof.Rows.recsOf q).find? λe=>e.name==t.x).isSome=true) (g:∀(w:World),∀t∈tabsL,B47 (K w.params) t.x=some (t.c,t.P)) (y:∀w:World,A61 (K w.params)=true)
  (F:∀ (w:World) (mg:Ab0) (fa:Addr) (h:Heap),(K w.params).In h->h.Ns B74 mg->mg d.name=some (.ref fa)->
   ∃fd:B77,(∀(s:Shared) (u:Value),BindsTo s fd ⟨[u],[]⟩ [("_law_script",u)])/\∀base:Heap,(K w.params).In base->base.Ns B74 mg->BM mg base->FnOk l.prog w (K w.params) mg base CX0 8 fa fd ["_law_script"] (qMF (K w.params) 142 209)):
  PySem.W.WalkO q b XP YP l.row.toRowW d [] (λf vs=>B38 f vs):=
 L2.walk_ofT (n:=63) (k:=8) (x:="_law_script") (sp:=λw=>qMF (K w.params) 142 209) tabsL hn (by decide) j ⟨rfl,by decide,by decide,rfl⟩ p i g y (λt h t' o _=>by simp only[tabsL,B1,G2,or_false] at h o;rcases h with rfl|rfl<;>rcases o with rfl|rfl<;>first|rfl|(rename_i q;exact absurd q (by decide))) F λ_ _ a r z m v=>⟨m _ B7,m _ (A8 _ B7),a,r,rfl,v,z,λ_=>rfl⟩
end Fw
open PySem PySem.W PyProof.Rows
set_option maxRecDepth 100000 in
set_option maxHeartbeats 0 in
theorem PySem.Challenge.cw_fewrooms_k35_whole_fewest_of_small_nets_holds : PySem.Challenge.rw_fewrooms_k35_whole_fewest_of_small_nets.Holds := by
 w_on;refine holds_law Fw.hpSaid λsaid=>?_
 refine holds_open (q:=Fw.hpQ) (Xt:=Fw.hpX) (XP:=XL Fw.hpQ []) (YP:=(kHook Fw.hpK Fw.hpA Fw.hpE).says)
  Fw.hpLeft (kHook Fw.hpK Fw.hpA Fw.hpE).of (kHook Fw.hpK Fw.hpA Fw.hpE).keeps (λs e=>xl_of s (A57.mp e).1) XL.keeps
  (by rfl) (by rfl) (by rfl) (λs e=>recFacts_of (A57.mp e).2) (by rfl)
  (by first|assumption|decide +kernel) (by decide +kernel) ⟨rfl,rfl,rfl,rfl,rfl,by decide +kernel⟩ ?hw ?hc
 case hw=>w_witness2
 k_fill
 refine Fw.walk (l:=PySem.Challenge.rw_fewrooms_k35_whole_fewest_of_small_nets) rfl rfl (λw h Y=>PySem.W.kIn_of Y) ?hrec ?htab ?hK ?F
 case hrec=>intro t ht;simp only[Fw.tabsL,B1,G2,or_false] at ht;rcases ht with rfl|rfl<;>kernel_rfl
 case htab=>intro w t ht;simp only[Fw.tabsL,B1,G2,or_false] at ht;rcases ht with rfl|rfl<;>kernel_rfl
 case hK=>intro w;kernel_rfl
 case F=>
  intro w mg fa h KX G hmg;refine' Fw.all_mk (qF2:=144) (qGL:=142) (qEB:=211) (qFX:=209) KX G hmg ?qNL ?qHC ?_ ?_ ?_ ?_ ?_ ?_ ?_ ?_ ?_ ?_ ?_ ?_ ?_ ?_ ?_ ?_ ?_ ?_ ?_ ?_ ?_ ?_ ?_ ?_ ?_ ?_ ?_ ?_ ?_ ?_ ?_ ?_ ?_ ?_ ?_ ?_ ?_ ?_ ?_ ?_ ?_ ?_ ?_ ?_ ?_ ?_ ?_ ?_ ?_ ?qJ1 ?qIZ ?qJ0 ?qC1 ?n_move ?qH8 ?n_word ?_ ?_ ?_
  (case qNL=>k_is)
  (case qHC=>k_is)
  (case qJ1=>kernel_rfl)
  (case qIZ=>k_is)
  (case qJ0=>k_is)
  (case qC1=>k_is)
  (case n_move=>k_is)
  (case qH8=>kernel_rfl)
  (case n_word=>k_is)
  any_goals first|exact⟨by k_is,_,L2.fun_mk (by k_is) (by k_is) (by k_is)⟩|k_is|kernel_rfl
  any_goals (repeat (refine⟨by k_is,?_⟩))
  any_goals exact trivial

