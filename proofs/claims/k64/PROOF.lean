import PyProof.Rows.All
import Wide.All
import OpenK.AllK
import Wide.FinOn
import Lean
import PyProof.EqAt
import PyProof.EqKinds
import PyProof.TupleCall
import PySem.Challenge.RW_fewrooms_k64_whole_squares_by_all_stands
noncomputable section
set_option compiler.extract_closed false
set_option bootstrap.genMatcherCode false
open PySem.W renaming Frag→Ab1
abbrev Aa0:=List (List Int)
abbrev Aa1:=PySem.Value->PySem.Shared->Prop
abbrev Aa2:=List (PySem.Addr × PySem.Obj)
abbrev Ab0:=PySem.Str->Option PySem.Value
open PyProof.Rows renaming wpS_bind→B14,wpS_pure→B15,pendingOf→B16,IntsAre→B20,wpS_forRange→B26,wpS_modify→B29,wpS_mono→B36,SortKind→B45,pairsOf→B49,wpS_get→B54,AllBare→B69,reverseSlice'_eq→B80
open PySem renaming wpAny_bind→B10,wpAny_pure→B11,sizeLine→B12,Program→B13,starEach→B17,wpAny_mono→B18,bootBuiltins→B19,wpAny_newObj_type→B21,FuncData→B22,mainGlobals→B23,sizeLine_eq→B24,wpAny_holding→B25,wpAny_call_entry→B27,wpAny_truthy_bool→B28,compareOp→B30,wpAny_tryCatch→B31,sysModules→B32,wpAny_setField→B33,codeAny_builtin→B34,plainId_quiet→B35,wpAny_pyIter_list→B37,wpAny_setState_of→B38,Arguments→B39,wpAny_standAt→B40,wpAny_typeNameOfWhole_keyiter→B41,binaryOp→B42,codeAny→B43,wpAny_seqItems→B44,codeAny_mono→B46,wpAny_Call_Name_kw→B47,wpAny_passesOwn→B48,wpAny_loadPart_at→B50,wpAny_rule→B51,wpAny_typeNameOf_keyiter→B52,behindInMarks→B53,wpAny_execs_nil→B55,wpAny_updateSeq→B56,SetTable→B57,wpAny_field→B58,wpAny_letGo→B59,holding→B60,firstArgMember→B61,assignEach→B62,NameKind→B63,sliceBounds→B64,wpAny_of_eq→B65,GenState→B66,bindArgs→B67,tupleKind_room_in1→B68,wpAny_call→B70,Keyword→B71,foldedSetIterable→B72,wpAny_pyIter_enum→B73,wpAny_pyNext_list_item→B74,keywordEach→B75,attributeBase→B76,wpAny_attempt→B77,noFill_tuple_add→B78,wpAny_askSetting→B79,tupleKind→B81,wpAny_pyNext_list_end→B82,builtinsNs→B83,letOwnedTupleGo→B84,wpAny_loadPart'→B85,call_meets→B86,wpAny_ite_false→B87,wpAny_pyIter_keyiter→B88
open Array renaming getElem?_eq_getElem→C8,length_toList→E6,toList_append→F0,getElem?_toList→F6,getD_eq_getD_getElem?→M5,getElem?_eq_some_iff→Q6,toList_reverse→S3,toList_push→T0,perm_iff_toList_perm→V7,toList_setIfInBounds→f8,getElem_toList→A08,find?_toList→A30,toList→A54,toList_zip→A66,toList_map→A67
open Bool renaming false_ne_true→B1,and_eq_true→D6,eq_false_iff→F8,eq_iff_iff→G6,or_eq_true→G7,false_eq_true→M6,and_eq_true_iff→O0,and_false→W5,not_eq_true'→Z7,not_true→c6,false_and→j9,false_or→o9,true_and→p6,and_true→A42,or_true→A60
open Classical renaming byContradiction→O6,choose→A70
open Eq renaming symm→B07
open False renaming elim→L9
open ForInStep renaming yield→L7,done→Z8
open Int renaming toNat_natCast→D7,le_refl→K7,emod_lt_of_pos→R6,emod_nonneg→V5,fdiv_eq_ediv_of_nonneg→e8,fmod_eq_emod_of_nonneg→f6,le_of_lt→j5,natCast_nonneg→A41,zero_add→A61
open List renaming length_map→A0,getElem?_eq_some_iff→A3,getElem?_eq_getElem→A4,mem_singleton→A6,mem_cons_of_mem→A8,mem_of_getElem?→A9,mem_append→B4,getElem?_map→B6,length_append→B7,mem_cons→B8,mem_filter→B9,size_toArray→C1,map_append→C2,range→C3,length_cons→C5,map_cons→C7,take_add_one→C9,length_take→D8,mem_map→D9,mem_range→E2,mem_cons_self→E4,replicate→E5,length_singleton→F1,length_filter_le→F2,take_of_length_le→F3,drop_eq_getElem_cons→F4,all_eq_true→F5,filterMap_cons→F9,pairwise_iff_getElem→G2,take_length→G3,getElem?_append_right→G4,mem_append_right→G5,length_range→J2,getElem?_of_mem→J5,length_filterMap_le→J7,length_nil→K4,append_nil→K6,filter_cons→K8,append_assoc→L0,length_eq_zero_iff→L1,nodup_cons→L6,getElem_of_mem→L8,getElem?_eq_none→M0,pairwise_cons→M7,pairwise_singleton→M8,getD_eq_getElem?_getD→O1,drop_eq_nil_of_le→O2,replicate_succ→O3,flatten_cons→O4,map_congr_left→O5,lookup_cons_self→O8,getElem?_take_of_lt→P0,pairwise_append→P3,mem_of_mem_take→P4,pairwise_map→Q0,getElem?_set_self→Q4,length_drop→Q8,length→R7,getElem?_append_left→R8,mem_append_left→R9,getElem_toArray→S4,range_succ→T1,map_map→T6,any_cons→U1,reverse_append→U2,filter_eq_self→U3,lookup_cons→U4,find?_cons→V0,pairwise_reverse→V2,filterMap_append→V4,drop_sublist→V6,perm_ext_iff_of_nodup→V8,getElem?_set_ne→V9,mem_of_mem_drop→W0,drop_zero→W8,cons_append→X0,any_eq_true→X2,drop_length→X3,mem_map_of_mem→X6,mem_filterMap→X8,filter_append→Y3,pairwise_lt_range→Y8,length_pos_of_mem→Y9,lookup→Z1,take_sublist→Z2,reverse_cons→Z4,take_append_drop→a6,getElem_mem→a9,mem_reverse→b8,nil_append→d5,zip_cons_cons→i9,map_nil→j4,filter_filter→j8,drop_drop→k6,mem_of_find?_eq_some→k7,getElem?_zip_eq_some→k9,getElem_drop→m7,reverse_perm→m8,ext_getElem?→n0,nodup_append→n5,filter_congr→n6,not_mem_nil→t6,drop_of_length_le→t8,of_mem_zip→u8,length_replicate→u9,foldl_cons→w6,perm_append_comm→y9,length_zip→z5,mem_iff_getElem→A07,reverse_reverse→A09,length_reverse→A19,range'→A23,flatMap_append→A24,length_pos_iff→A25,getElem?_drop→A36,contains_cons→A38,map_singleton→A43,getElem_take→A49,mapM_toArray→A52,flatMap_cons→A53,range'_succ→A69,length_set→A75,forIn_cons→A76,find?_some→A78,drop_take→A80,mapM_cons→A82,foldl→A85,all_cons→A92,take_nil→A95,take_add→A96,map→A98
open List.Nodup renaming length_le_of_subset→T8
open List.Pairwise renaming nil→A47
open List.Perm renaming append_left→y8
open Nat renaming le_refl→A7,ne_of_lt→D5,lt_of_lt_of_le→E1,le_trans→E3,zero_le→E7,eq_of_testBit_eq→M9,lt_irrefl→P7,testBit_two_pow→Q3,le_of_lt→R4,lt_succ_of_lt→S9,testBit_and→T5,ne_of_gt→U8,le_succ→V1,pow_le_pow_right→W1,lt_of_le_of_lt→Y1,testBit_or→Z9,succ_ne_self→b7,lt_or_ge→j6,lt_pow_two_of_testBit→k8,lt_trichotomy→n4,le_of_not_lt→q9,lt_trans→y7,not_lt_zero→z8,pow_lt_pow_right→A12,mul_le_mul_left→A26,add_sub_cancel→A34,add_assoc→A35,sub_zero→A57,sub_self→A58,add_zero→A59,strongRecOn→A79,not_lt→A89
open Ne renaming symm→J6
open Option renaming toList_some→D0,map_some→Q1,map_eq_some_iff→Q5,getD_some→Q9,some→T9,isSome_iff_exists→X7,isSome_map→m5,getD_none→A63,none→B04
open Option.some renaming inj→B0
open Or renaming inl→E9,inr→r8
open Prod renaming fst→A01,snd→B09
open PyProof renaming noPylong_small→Y4
open PyProof.Rows renaming callWith_type1→K3
open PyProof.Rows.IntsAre renaming int_at→A77
open PySem renaming mem_of_lookup→G9,call→A86
open PySem.Around renaming under_plainId→J4,under→u7,frames_deeper→A03
open PySem.AutoSeq1 renaming sub_tuple_tuple→l9
open PySem.Builtin.Builtins renaming bindParams→Q2
open PySem.Builtin.Dict_items renaming ownsTuple→d0
open PySem.Builtin.Frozenset renaming sizeOf→A87,slot0→A94
open PySem.Builtin.List renaming listTooLong→S8,listLengthHint→d6
open PySem.Builtin.ObjectAttr renaming storeInDict→O9,storeInOwnDict→Y2,newKeyGuard→a7
open PySem.Builtin.Range renaming rangeSize→P8,small→A20
open PySem.Builtin.SmallTypes renaming calledThroughType→W7,newRecord→c9,nextOf→k4,ownedTupleFields→A21
open PySem.Builtin.Tuple renaming tupleCompareSizes→Z3,tupleExact→m6
open PySem.Calls renaming call_function_entry→W6,callWith_builtin→Y6,evalArgs_plain→A05
open PySem.ClassData renaming mk→B00
open PySem.Code renaming quiet_builtin→A39,isFrame→A55
open PySem.Data renaming fields→A18,cell→A73
open PySem.EntryCells renaming newEntry→A22
open PySem.F renaming plainAttrs_list→G0,slot_list_append→J8,type_list_append→J9,plain_min_loop→L5,slot_dict_keyiterator_next→M4,slot_tuple_iterator_next→Q7,plain_max_loop→R3,args_tuple_add_2→S6,entry_tuple_add→U0,slot_tuple_add→U7,slot_tuple_lt→U9,args_tuple_lt_2→Y0,entry_tuple_lt→Y5,entry_min_loop→Y7,args_dict_keyiterator_next_1→a8,entry_dict_keyiterator_next→b9,args_tuple_iterator_next_1→c8,entry_tuple_iterator_next→d8,store_ValueError→m9,plainAttrs_tuple→n8,slot_tuple_index→n9,type_tuple_index→o5,slot_list_extend→o6,type_list_extend→o8,plain_list_iadd→p8,entry_max_loop→t5,args_object_init_2→A06,called_tuple→A14,plain_tuple_new→A48,slot_dict_iter→A65
open PySem.Heap renaming get?_push_of_some→A5,get?_push_size→B3,lt_size→B5,get?_update_other→D3,get?_update_self→F7,size_push→U5,get?_update_ne→d9,get?_push_ne→A51,size_update→A68
open PySem.Heap.IsSliceOf renaming new→B08
open PySem.Heap.SameBut renaming update→X5
open PySem.Heap.UpToSlots renaming refl→B05
open PySem.IsRange renaming new→B03
open PySem.NameKind renaming free→J1,cell→A93
open PySem.Obj renaming data_mapFields→L3,mapFields→P9,isFreed_of_fields→R5,mapSeq→S7,cls_mapFields→Z6,mk→A83
open PySem.Paired renaming length→C6,snoc→X4
open PySem.PassesOwn renaming never→D4
open PySem.SeqAt renaming notIn_listAt→A33
open PySem.SeqAt.EqAt renaming int_int→X9,same→w5,int_str→A27,str_int→A28,of_refs→A40
open PySem.SeqAt.RcAt renaming tuples→A50
open PySem.SetTable renaming below→U6
open PySem.SetTable.below renaming go→Z5
open PySem.Str renaming ofString→C0,empty→P2
open PySem.Value renaming ref→C4,none→L4,int→W2,isInt_shape→l6,type→l7,bool→z9,notImplemented→A04,str→A71,isStrOf→A91
open PySem.W renaming findIn→G1,keepIn→G8,kia_one→K5,fnOf→O7,nsIn→V3,kitOne→W3,codeIn→W4,kla_fn→W9,methodObj→Z0,kdu_collect→d7,isFn→f9,callWith_K→i8,specialIn→l8,mg_of→p9,cellsFrom_some→t7,instObj→t9,kat_nil→z6,hideAll_none→A02,looks_findIn→A10,kas_first_eq→A11,lookIn→A13,exmOne→A15,noTabs→A16,hideAll_get→A17,of_hideAll→A29,mroIn→A31,kitx_tuple→A32,isNs_of_in→A37,hasDictIn→A44,kitx_list→A45,kitx_dict→A46,plainGet→A62,kdl_dict→A64,hideAll→A72,takesIn→A74,tabObj→A81,kHook→A90,tabIn→A97
open PySem.W.Looks renaming ld→X1,here→j7
open PySem.W.OpenLaw renaming wellSaid→A84,row→B01
open PySem.W.OpenRow renaming toRowW→A99
open PySem.Walks renaming list→A88
open PySem.Within renaming cons→B06
open PySem.pickOrder renaming go→A56
open Std.Legacy.Range renaming size→z7,forIn_eq_forIn_range'→A00
open Sum renaming inl→E8,inr→K9
open Sum.inl renaming inj→P1
open Sum.inr renaming inj→B02
open True renaming intro→S5
set_option Elab.async false
set_option linter.all false
set_option maxRecDepth 100000
set_option maxHeartbeats 0
namespace Fw
open PySem
noncomputable def inCl (s:Stmt)(j:Nat):Stmt:=match s with
 |.ClassDef _ _ _ body _ _ _ _ _ _ _=>body.getD j (.Pass ⟨0,0,0,0⟩)
 |_=>.Pass ⟨0,0,0,0⟩
noncomputable def top (i:Nat):Stmt:=PySem.Challenge.pw_fewrooms_k64_whole_squares_by_all_stands.main.body.getD i (.Pass ⟨0,0,0,0⟩)
abbrev qEX:Stmt:=top 1
abbrev qGD:Stmt:=top 2
abbrev qEW:Stmt:=top 3
abbrev qHR:Stmt:=top 4
abbrev qGC:Stmt:=top 5
noncomputable abbrev qE7:Stmt:=top 7
noncomputable abbrev qE3:Stmt:=top 8
noncomputable abbrev qGA:Stmt:=top 9
abbrev qCE:Stmt:=top 11
abbrev qE4:Stmt:=top 12
abbrev qHO:Stmt:=top 14
abbrev qCW:Stmt:=top 15
abbrev qE2:Stmt:=top 16
abbrev qG7:Stmt:=top 17
abbrev qEV:Stmt:=top 18
abbrev qCV:Stmt:=top 19
abbrev qE0:Stmt:=top 20
abbrev qG9:Stmt:=top 21
abbrev qE5:Stmt:=top 22
abbrev qDC:Stmt:=top 23
abbrev qEU:Stmt:=top 24
noncomputable abbrev qDF:Stmt:=top 29
noncomputable abbrev qGE:Stmt:=top 30
noncomputable abbrev qCU:Stmt:=top 31
noncomputable abbrev qHS:Stmt:=top 32
noncomputable abbrev qGB:Stmt:=top 33
abbrev qE6:Stmt:=top 35
abbrev qCF:Stmt:=top 36
abbrev qDD:Stmt:=top 37
abbrev qJS:Stmt:=top 39
abbrev qG6:Stmt:=top 40
abbrev qHQ:Stmt:=top 41
abbrev qSS:Stmt:=top 42
abbrev qG8:Stmt:=top 44
abbrev qE1:Stmt:=top 45
abbrev qJR:Stmt:=top 46
noncomputable abbrev qAD:Stmt:=top 48
noncomputable abbrev qCO:Stmt:=top 49
noncomputable abbrev qHP:Stmt:=top 50
noncomputable abbrev qCX:Stmt:=top 52
noncomputable abbrev qJT:Stmt:=top 53
noncomputable abbrev qDE:Stmt:=top 54
noncomputable abbrev qJV:Stmt:=top 56
noncomputable abbrev qNQ:Stmt:=top 57
abbrev qCP:Stmt:=top 58
abbrev qJU:Stmt:=top 59
noncomputable abbrev qLX:Stmt:=top 60
abbrev qBN:Stmt:=inCl (top 27) 0
noncomputable def dA (s:Stmt):B39:=match s with
 |.FunctionDef _ a _ _ _ _ _ _ _ _=>a
 |_=>{posonlyargs:=[],args:=[],vararg:=none,kwonlyargs:=[],kw_defaults:=[],kwarg:=none,defaults:=[]}
noncomputable def dB (s:Stmt):List Stmt:=match s with
 |.FunctionDef _ _ b _ _ _ _ _ _ _=>b
 |_=>[]
noncomputable def dS (s:Stmt):Scope:=match s with
 |.FunctionDef _ _ _ _ _ _ sc _ _ _=>sc
 |_=>{kind:=.function,names:=[],isGenerator:=false,isCoroutine:=false}
noncomputable abbrev so (s:String):Str:=PySem.Str.ofString s
noncomputable abbrev kh (P:Params)(s:Str):Int:=PySem.PyData.keyHash P s
noncomputable abbrev hde (P:Params)(s:String)(n:Nat)(v:Value):DictEntry:=⟨kh P (so s),.str (so s) n,v⟩
noncomputable abbrev hvs (s:String)(n:Nat):Value:=.str (so s) n
noncomputable abbrev hcut (n:Nat):Value:=hvs "/claim/cut.py" n
noncomputable abbrev hfd (x q:String)(s:Stmt)(a b c d:Value)(e:Option Addr)(f g:Value)(i:Addr):B22:=⟨so x,so q,dA s,.stmts (dB s),dS s,3,[],a,b,c,d,e,f,g,i⟩
noncomputable abbrev htp (d:Data) (s:Array (Option Value)):Obj:=⟨.type "tuple",none,d,s⟩
noncomputable abbrev hcd (d:Data) (s:Array (Option Value)):Obj:=⟨.type "code",none,d,s⟩
noncomputable abbrev hfn (d:Data) (s:Array (Option Value)):Obj:=⟨.type "function",none,d,s⟩
noncomputable abbrev ht0:Obj:=htp (.seq #[]) #[]
noncomputable def hvl:List String->Nat->List Value
 |[],_=>[]
 |x::r,n=>hvs x n::hvl r (n+1)
noncomputable abbrev hts (l:List String)(n:Nat):Obj:=htp (.seq (hvl l n).toArray) #[]
noncomputable abbrev hco (x:String)(t:Nat)(ln ac fl:Int)(b:Nat)(md e:Int)(n:Nat):Obj:=hcd (.fields #[hvs x t,hvs x (t+1),hcut (t+2),.int ln 0,.int ac 0,.int 0 0,.int 0 0,.int fl 0,.ref b,.bool .true,.int md 0,.ref (b+1),.none,.ref (b+2),.ref (b+3),.ref (b+4),.int e 0,.int ln 0,hcut n]) #[]
noncomputable abbrev hcp (x:String)(t:Nat)(ln ac:Int)(b:Nat)(md e:Int):Obj:=hcd (.fields #[hvs x t,hvs x (t+1),hcut (t+2),.int ln 0,.int ac 0,.int 0 0,.int 0 0,.int 3 0,.ref b,.bool .true,.int md 0,.ref (b+1),.none,.none,.none,.ref (b+2),.int e 0,.int ln 0,hcut (t+4)]) #[]
noncomputable abbrev hfo (x:String)(s:Stmt)(m:String)(t c:Nat):Obj:=hfn (.func (hfd x x s .none .none .none (hvs m t) .none (.ref c) .none 0)) #[]
noncomputable def hpK:Params->Ab1:=λP=>
 (nat_lit 2,A83 .none .none (.dict #[]) #[])::
 (nat_lit 3,A83 (.type "dict") .none (.dict #[hde P "__name__" 165 (hvs "law_fewrooms_k64_whole_squares_by_all_stands" 600),hde P "__doc__" 166 .none,hde P "__package__" 167 .none,hde P "__loader__" 168 (.builtin "__main__.__loader__#opaque"),hde P "__spec__" 169 .none,hde P "__annotations__" 170 (.ref 6),hde P "__builtins__" 171 (.ref 4),hde P "__file__" 173 (hcut 172),hde P "__cached__" 174 .none,hde P "is_number" 195 (.ref 21),hde P "is_below" 203 (.ref 28),hde P "is_rising" 213 (.ref 35),hde P "is_pair" 220 (.ref 42),hde P "is_stand" 229 (.ref 49),hde P "all_needed" 242 (.ref 56),hde P "renumbered" 248 (.ref 61),hde P "part_net" 254 (.ref 66),hde P "plan_in_order" 269 (.ref 73),hde P "plain_plan" 277 (.ref 80),hde P "row_net" 285 (.ref 85),hde P "square_needs" 296 (.ref 92),hde P "square_net" 302 (.ref 97),hde P "step_net" 308 (.ref 102),hde P "row_rooms" 316 (.ref 109),hde P "square_rooms" 324 (.ref 116),hde P "step_rooms" 331 (.ref 123),hde P "row_plan" 339 (.ref 130),hde P "by_columns" 345 (.ref 135),hde P "square_plan" 354 (.ref 142),hde P "step_plan" 362 (.ref 149),hde P "RoomError" 382 (.ref 159),hde P "Barred" 409 (.ref 179),hde P "fault_of_do" 424 (.ref 188),hde P "fault_of" 434 (.ref 195),hde P "stand_behind" 440 (.ref 200),hde P "has_all" 446 (.ref 205),hde P "moves_of" 452 (.ref 210),hde P "are_closed" 466 (.ref 217),hde P "never_come_to" 472 (.ref 222),hde P "shows_never" 478 (.ref 227),hde P "played" 494 (.ref 234),hde P "steps_of" 500 (.ref 239),hde P "most_of" 506 (.ref 244),hde P "does" 517 (.ref 251),hde P "stays_of" 525 (.ref 256),hde P "stays_left" 536 (.ref 263),hde P "tidied" 542 (.ref 268),hde P "stands_reached" 559 (.ref 275),hde P "best_end" 565 (.ref 280),hde P "plan_to" 574 (.ref 287),hde P "part_numbers" 582 (.ref 292),hde P "fewest" 588 (.ref 297),hde P "never_paper" 599 (.ref 304),hde P "_law_begin" 609 (.ref 311),hde P "_law_take" 622 (.ref 318),hde P "_law_case" 633 (.ref 325),hde P "_law_right" 646 (.ref 332),hde P "law" 656 (.ref 339)] 58) #[])::
 (nat_lit 15,ht0)::
 (nat_lit 17,hts ["thing"] 192)::
 (nat_lit 18,ht0)::
 (nat_lit 20,hco "is_number" 189 2 1 3 15 181 193 194)::
 (nat_lit 21,hfo "is_number" qEX "fewrooms.kinds" 187 20)::
 (nat_lit 22,ht0)::
 (nat_lit 24,hts ["thing","end"] 199)::
 (nat_lit 25,ht0)::
 (nat_lit 27,hco "is_below" 196 4 2 3 22 181 201 202)::
 (nat_lit 28,hfo "is_below" qGD "fewrooms.kinds" 187 27)::
 (nat_lit 29,ht0)::
 (nat_lit 31,hts ["thing","end","least","number"] 207)::
 (nat_lit 32,ht0)::
 (nat_lit 34,hco "is_rising" 204 6 2 3 29 181 211 212)::
 (nat_lit 35,hfo "is_rising" qEW "fewrooms.kinds" 187 34)::
 (nat_lit 36,ht0)::
 (nat_lit 38,hts ["thing"] 217)::
 (nat_lit 39,ht0)::
 (nat_lit 41,hco "is_pair" 214 15 1 3 36 181 218 219)::
 (nat_lit 42,hfo "is_pair" qHR "fewrooms.kinds" 187 41)::
 (nat_lit 43,ht0)::
 (nat_lit 45,hts ["net","rooms","thing"] 224)::
 (nat_lit 46,ht0)::
 (nat_lit 48,hco "is_stand" 221 17 3 3 43 181 227 228)::
 (nat_lit 49,hfo "is_stand" qGC "fewrooms.kinds" 187 48)::
 (nat_lit 50,ht0)::
 (nat_lit 52,hts ["net","asked","wanted","work","need"] 235)::
 (nat_lit 53,ht0)::
 (nat_lit 55,hco "all_needed" 232 20 2 3 50 181 240 241)::
 (nat_lit 56,hfo "all_needed" qE7 "fewrooms.nets" 230 55)::
 (nat_lit 57,ht0)::
 (nat_lit 60,hcp "renumbered" 243 29 2 57 181 246)::
 (nat_lit 61,hfo "renumbered" qE3 "fewrooms.nets" 230 60)::
 (nat_lit 62,ht0)::
 (nat_lit 65,hcp "part_net" 249 31 2 62 181 252)::
 (nat_lit 66,hfo "part_net" qGA "fewrooms.nets" 230 65)::
 (nat_lit 67,ht0)::
 (nat_lit 69,hts ["net","asked","order","last_user","work","need","plan"] 260)::
 (nat_lit 70,ht0)::
 (nat_lit 72,hco "plan_in_order" 257 37 3 3 67 181 267 268)::
 (nat_lit 73,hfo "plan_in_order" qCE "fewrooms.plainly" 255 72)::
 (nat_lit 74,ht0)::
 (nat_lit 76,hts ["net","asked"] 273)::
 (nat_lit 77,ht0)::
 (nat_lit 79,hco "plain_plan" 270 49 2 3 74 181 275 276)::
 (nat_lit 80,hfo "plain_plan" qE4 "fewrooms.plainly" 255 79)::
 (nat_lit 81,ht0)::
 (nat_lit 84,hcp "row_net" 280 52 2 81 181 283)::
 (nat_lit 85,hfo "row_net" qHO "fewrooms.squares" 278 84)::
 (nat_lit 86,ht0)::
 (nat_lit 88,hts ["m","i","j","above","ahead"] 289)::
 (nat_lit 89,ht0)::
 (nat_lit 91,hco "square_needs" 286 54 3 3 86 181 294 295)::
 (nat_lit 92,hfo "square_needs" qCW "fewrooms.squares" 278 91)::
 (nat_lit 93,ht0)::
 (nat_lit 96,hcp "square_net" 297 58 2 93 181 300)::
 (nat_lit 97,hfo "square_net" qE2 "fewrooms.squares" 278 96)::
 (nat_lit 98,ht0)::
 (nat_lit 101,hcp "step_net" 303 60 1 98 181 306)::
 (nat_lit 102,hfo "step_net" qG7 "fewrooms.squares" 278 101)::
 (nat_lit 103,ht0)::
 (nat_lit 105,hts ["n","back"] 312)::
 (nat_lit 106,ht0)::
 (nat_lit 108,hco "row_rooms" 309 67 2 3 103 181 314 315)::
 (nat_lit 109,hfo "row_rooms" qEV "fewrooms.squares" 278 108)::
 (nat_lit 110,ht0)::
 (nat_lit 112,hts ["n","m"] 320)::
 (nat_lit 113,ht0)::
 (nat_lit 115,hco "square_rooms" 317 69 2 3 110 181 322 323)::
 (nat_lit 116,hfo "square_rooms" qCV "fewrooms.squares" 278 115)::
 (nat_lit 117,ht0)::
 (nat_lit 119,hts ["n"] 328)::
 (nat_lit 120,ht0)::
 (nat_lit 122,hco "step_rooms" 325 73 1 3 117 181 329 330)::
 (nat_lit 123,hfo "step_rooms" qE0 "fewrooms.squares" 278 122)::
 (nat_lit 124,ht0)::
 (nat_lit 126,hts ["n","back"] 335)::
 (nat_lit 127,ht0)::
 (nat_lit 129,hco "row_plan" 332 75 2 3 124 181 337 338)::
 (nat_lit 130,hfo "row_plan" qG9 "fewrooms.squares" 278 129)::
 (nat_lit 131,ht0)::
 (nat_lit 134,hcp "by_columns" 340 77 2 131 181 343)::
 (nat_lit 135,hfo "by_columns" qE5 "fewrooms.squares" 278 134)::
 (nat_lit 136,ht0)::
 (nat_lit 138,hts ["n","m","order"] 349)::
 (nat_lit 139,ht0)::
 (nat_lit 141,hco "square_plan" 346 82 2 3 136 181 352 353)::
 (nat_lit 142,hfo "square_plan" qDC "fewrooms.squares" 278 141)::
 (nat_lit 143,ht0)::
 (nat_lit 145,hts ["n","net"] 358)::
 (nat_lit 146,ht0)::
 (nat_lit 148,hco "step_plan" 355 85 1 3 143 181 360 361)::
 (nat_lit 149,hfo "step_plan" qEU "fewrooms.squares" 278 148)::
 (nat_lit 150,htp (.seq #[.type "ValueError"]) #[])::
 (nat_lit 157,ht0)::
 (nat_lit 158,A83 (.type "dict") .none (.dict #[hde P "__module__" 372 (hvs "fewrooms.errors" 363),hde P "__firstlineno__" 376 (.int 89 375),hde P "__static_attributes__" 377 (.ref 157),hde P "__weakref__" 379 (.ref 160),hde P "__doc__" 380 .none] 3) #[])::
 (nat_lit 159,A83 (.type "type") .none (.cls (B00 (so "RoomError") [.type "ValueError"] [.ref 159,.type "ValueError",.type "Exception",.type "BaseException",.type "object"] 158 (so "RoomError") .true [] [.ref 179] .false .none .false)) #[T9 (.ref 150),.none,T9 (hvs "RoomError" 365),T9 (hvs "RoomError" 373),T9 (.builtin "ValueError.__new__"),T9 (.bool .true)])::
 (nat_lit 160,A83 (.type "getset_descriptor") .none (.fields #[hvs "__weakref__" 378,.ref 159,.builtin "ExceptionGroup.__weakref__",.none]) #[])::
 (nat_lit 163,htp (.seq #[.ref 159]) #[])::
 (nat_lit 170,ht0)::
 (nat_lit 172,hts ["self","move","word"] 398)::
 (nat_lit 173,ht0)::
 (nat_lit 175,hcd (.fields #[hvs "__init__" 395,hvs "Barred.__init__" 396,hcut 397,.int 93 0,.int 3 0,.int 0 0,.int 0 0,.int 3 0,.ref 170,.bool .true,.int 181 0,.ref 171,.none,.ref 172,.ref 173,.ref 174,.int 401 0,.int 93 0,hcut 402]) #[])::
 (nat_lit 176,hfn (.func (hfd "__init__" "Barred.__init__" qBN .none .none .none (hvs "fewrooms.errors" 363) .none (.ref 175) .none 0)) #[])::
 (nat_lit 177,hts ["move","word"] 404)::
 (nat_lit 178,A83 (.type "dict") .none (.dict #[hde P "__module__" 390 (hvs "fewrooms.errors" 363),hde P "__firstlineno__" 394 (.int 91 393),hde P "__init__" 403 (.ref 176),hde P "__static_attributes__" 406 (.ref 177),hde P "__doc__" 407 .none] 2) #[])::
 (nat_lit 179,A83 (.type "type") .none (.cls (B00 (so "Barred") [.ref 159] [.ref 179,.ref 159,.type "ValueError",.type "Exception",.type "BaseException",.type "object"] 178 (so "Barred") .true [] [] .false .none .false)) #[T9 (.ref 163),.none,T9 (hvs "Barred" 383),T9 (hvs "Barred" 391),T9 (.builtin "ValueError.__new__"),T9 (.bool .true)])::
 (nat_lit 182,ht0)::
 (nat_lit 184,hts ["net","rooms","stand","work","there","result","need"] 415)::
 (nat_lit 185,ht0)::
 (nat_lit 187,hco "fault_of_do" 412 97 4 3 182 181 422 423)::
 (nat_lit 188,hfo "fault_of_do" qDF "fewrooms.moves" 410 187)::
 (nat_lit 189,ht0)::
 (nat_lit 191,hts ["net","rooms","stand","move"] 428)::
 (nat_lit 192,ht0)::
 (nat_lit 194,hco "fault_of" 425 109 4 3 189 181 432 433)::
 (nat_lit 195,hfo "fault_of" qGE "fewrooms.moves" 410 194)::
 (nat_lit 196,ht0)::
 (nat_lit 199,hcp "stand_behind" 435 115 2 196 181 438)::
 (nat_lit 200,hfo "stand_behind" qCU "fewrooms.moves" 410 199)::
 (nat_lit 201,ht0)::
 (nat_lit 204,hcp "has_all" 441 119 2 201 181 444)::
 (nat_lit 205,hfo "has_all" qHS "fewrooms.moves" 410 204)::
 (nat_lit 206,ht0)::
 (nat_lit 209,hcp "moves_of" 447 121 3 206 181 450)::
 (nat_lit 210,hfo "moves_of" qGB "fewrooms.moves" 410 209)::
 (nat_lit 211,ht0)::
 (nat_lit 213,hts ["net","rooms","stands","known","stand","move"] 458)::
 (nat_lit 214,ht0)::
 (nat_lit 216,hco "are_closed" 455 126 3 3 211 181 464 465)::
 (nat_lit 217,hfo "are_closed" qE6 "fewrooms.nevercheck" 453 216)::
 (nat_lit 218,ht0)::
 (nat_lit 221,hcp "never_come_to" 467 135 4 218 181 470)::
 (nat_lit 222,hfo "never_come_to" qCF "fewrooms.nevercheck" 453 221)::
 (nat_lit 223,ht0)::
 (nat_lit 226,hcp "shows_never" 473 141 4 223 181 476)::
 (nat_lit 227,hfo "shows_never" qDD "fewrooms.nevercheck" 453 226)::
 (nat_lit 228,ht0)::
 (nat_lit 230,hts ["net","rooms","plan","stand","stands","number","move","word"] 484)::
 (nat_lit 231,ht0)::
 (nat_lit 233,hco "played" 481 148 3 3 228 181 492 493)::
 (nat_lit 234,hfo "played" qJS "fewrooms.plans" 479 233)::
 (nat_lit 235,ht0)::
 (nat_lit 238,hcp "steps_of" 495 158 1 235 181 498)::
 (nat_lit 239,hfo "steps_of" qG6 "fewrooms.plans" 479 238)::
 (nat_lit 240,ht0)::
 (nat_lit 243,hcp "most_of" 501 160 2 240 181 504)::
 (nat_lit 244,hfo "most_of" qHQ "fewrooms.plans" 479 243)::
 (nat_lit 245,ht0)::
 (nat_lit 247,hts ["net","rooms","plan","asked","stands"] 510)::
 (nat_lit 248,ht0)::
 (nat_lit 250,hco "does" 507 162 4 3 245 181 515 516)::
 (nat_lit 251,hfo "does" qSS "fewrooms.plans" 479 250)::
 (nat_lit 252,ht0)::
 (nat_lit 255,hcp "stays_of" 520 169 2 252 181 523)::
 (nat_lit 256,hfo "stays_of" qG8 "fewrooms.tidying" 518 255)::
 (nat_lit 257,ht0)::
 (nat_lit 259,hts ["needed","last","left","stay","other"] 529)::
 (nat_lit 260,ht0)::
 (nat_lit 262,hco "stays_left" 526 177 2 3 257 181 534 535)::
 (nat_lit 263,hfo "stays_left" qE1 "fewrooms.tidying" 518 262)::
 (nat_lit 264,ht0)::
 (nat_lit 267,hcp "tidied" 537 186 3 264 181 540)::
 (nat_lit 268,hfo "tidied" qJR "fewrooms.tidying" 518 267)::
 (nat_lit 269,ht0)::
 (nat_lit 271,hts ["net","rooms","reached","due","later","stand","move","further","steps"] 548)::
 (nat_lit 272,ht0)::
 (nat_lit 274,hco "stands_reached" 545 206 2 3 269 181 557 558)::
 (nat_lit 275,hfo "stands_reached" qAD "fewrooms.stairs" 543 274)::
 (nat_lit 276,ht0)::
 (nat_lit 279,hcp "best_end" 560 220 2 276 181 563)::
 (nat_lit 280,hfo "best_end" qCO "fewrooms.stairs" 543 279)::
 (nat_lit 281,ht0)::
 (nat_lit 283,hts ["reached","stand","plan"] 569)::
 (nat_lit 284,ht0)::
 (nat_lit 286,hco "plan_to" 566 223 2 3 281 181 572 573)::
 (nat_lit 287,hfo "plan_to" qHP "fewrooms.stairs" 543 286)::
 (nat_lit 288,ht0)::
 (nat_lit 291,hcp "part_numbers" 577 231 2 288 181 580)::
 (nat_lit 292,hfo "part_numbers" qCX "fewrooms.trying" 575 291)::
 (nat_lit 293,ht0)::
 (nat_lit 296,hcp "fewest" 583 233 2 293 181 586)::
 (nat_lit 297,hfo "fewest" qJT "fewrooms.trying" 575 296)::
 (nat_lit 298,ht0)::
 (nat_lit 300,hts ["net","asked","rooms","works","reached"] 592)::
 (nat_lit 301,ht0)::
 (nat_lit 303,hco "never_paper" 589 244 3 3 298 181 597 598)::
 (nat_lit 304,hfo "never_paper" qDE "fewrooms.trying" 575 303)::
 (nat_lit 305,ht0)::
 (nat_lit 307,hts ["_law_script","_law_cells"] 605)::
 (nat_lit 308,ht0)::
 (nat_lit 310,hco "_law_begin" 602 251 1 3 305 181 607 608)::
 (nat_lit 311,hfo "_law_begin" qJV "law_fewrooms_k64_whole_squares_by_all_stands" 600 310)::
 (nat_lit 312,ht0)::
 (nat_lit 314,hts ["_law_state","_law_many","_law_turn","_law_place","_law_cell","_law_digit","_law_mixed"] 613)::
 (nat_lit 315,ht0)::
 (nat_lit 317,hco "_law_take" 610 256 2 3 312 181 620 621)::
 (nat_lit 318,hfo "_law_take" qNQ "law_fewrooms_k64_whole_squares_by_all_stands" 600 317)::
 (nat_lit 319,ht0)::
 (nat_lit 321,hts ["_law_state","_law_way","_law_n","_law_back","_law_m"] 626)::
 (nat_lit 322,ht0)::
 (nat_lit 324,hco "_law_case" 623 267 1 3 319 181 631 632)::
 (nat_lit 325,hfo "_law_case" qCP "law_fewrooms_k64_whole_squares_by_all_stands" 600 324)::
 (nat_lit 326,ht0)::
 (nat_lit 328,hts ["_law_state","_law_net","_law_rooms","_law_plan","_law_last","_law_paper","_law_less"] 637)::
 (nat_lit 329,ht0)::
 (nat_lit 331,hco "_law_right" 634 277 1 3 326 181 644 645)::
 (nat_lit 332,hfo "_law_right" qJU "law_fewrooms_k64_whole_squares_by_all_stands" 600 331)::
 (nat_lit 333,ht0)::
 (nat_lit 335,hts ["_law_script","_law_state","_law_turn","_law_n"] 650)::
 (nat_lit 336,ht0)::
 (nat_lit 338,hco "law" 647 292 1 3 333 181 654 655)::
 (nat_lit 339,hfo "law" qLX "law_fewrooms_k64_whole_squares_by_all_stands" 600 338)::
 []
noncomputable def hpA:List Addr:=[2,3,15,17,18,20,21,22,24,25,27,28,29,31,32,34,35,36,38,39,41,42,43,45,46,48,49,50,52,53,55,56,57,60,61,62,65,66,67,69,70,72,73,74,76,77,79,80,81,84,85,86,88,89,91,92,93,96,97,98,101,102,103,105,106,108,109,110,112,113,115,116,117,119,120,122,123,124,126,127,129,130,131,134,135,136,138,139,141,142,143,145,146,148,149,150,157,158,159,160,163,170,172,173,175,176,177,178,179,182,184,185,187,188,189,191,192,194,195,196,199,200,201,204,205,206,209,210,211,213,214,216,217,218,221,222,223,226,227,228,230,231,233,234,235,238,239,240,243,244,245,247,248,250,251,252,255,256,257,259,260,262,263,264,267,268,269,271,272,274,275,276,279,280,281,283,284,286,287,288,291,292,293,296,297,298,300,301,303,304,305,307,308,310,311,312,314,315,317,318,319,321,322,324,325,326,328,329,331,332,333,335,336,338,339]
noncomputable def hpQ:B13:=PySem.W.view PySem.Challenge.pw_fewrooms_k64_whole_squares_by_all_stands [1,2,3,4,5,7,8,9,11,12,14,15,16,17,18,19,20,21,22,23,24,26,27,29,30,31,32,33,35,36,37,39,40,41,42,44,45,46,48,49,50,52,53,54,56,57,58,59,60]
def hpN:Nat:=4006
theorem hpE (P:Params):hpA=(hpK P).map (·.1):=by kernel_rfl
noncomputable def hpX (s:Shared):Bool:=PySem.W.xlAt hpQ [] s&&PySem.W.recOk (PySem.W.RowW.records (A99 (B01 PySem.Challenge.rw_fewrooms_k64_whole_squares_by_all_stands))) s
theorem hpLeft:PySem.W.LeftO PySem.Challenge.pw_fewrooms_k64_whole_squares_by_all_stands hpQ [] hpX (A90 hpK hpA hpE).obs (A90 hpK hpA hpE).val hpN:=λw=>by kernel_rfl
theorem hpSaid:A84 PySem.Challenge.rw_fewrooms_k64_whole_squares_by_all_stands=true:=by kernel_rfl
end Fw
namespace L2
open PySem PySem.Spec PyProof.Rows
abbrev Key:=Sum Int Str
noncomputable def qRN:Key->Value->Bool
 |.inl k,v=>Value.isInt k v
 |.inr x,v=>A91 x v
noncomputable def keyH (w:World):Key->Int
 |.inl k=>hashInt k
 |.inr x=>hashStr w x
theorem qBD:∀{k:Key} {v:Value},qRN k v=true->(∃i t,k=E8 i/\v=W2 i t)\/(∃x t,k=K9 x/\v=A71 x t)
 |.inl i,v,h=>by
  obtain⟨t,e⟩:=l6 (k:=i) (v:=v) h;exact .inl ⟨i,t,rfl,e⟩
 |.inr x,v,h=>by
  obtain⟨t,e⟩:=Value.isStrOf_shape (x:=x) (v:=v) h;exact .inr ⟨x,t,rfl,e⟩
theorem qX8 (i:Int)(t:Tok):qRN (.inl i) (.int i t)=true:=by simp[qRN,Value.isInt]
theorem qX7 (x:Str)(t:Tok):qRN (.inr x) (.str x t)=true:=by simp[qRN,A91]
theorem qfP (a b:Int):decide ((E8 a:Key)=E8 b)=(a==b):=by
 by_cases e:a=b
 ·subst e;simp
 ·have h:¬(E8 a:Key)=E8 b:=λq=>e (P1 q);rw[decide_eq_false h];exact(beq_eq_false_iff_ne.mpr e).symm
theorem qfM (a b:Str):decide ((K9 a:Key)=K9 b)=decide (a=b):=by
 by_cases e:a=b
 ·subst e;simp
 ·have h:¬(K9 a:Key)=K9 b:=λq=>e (B02 q);rw[decide_eq_false h,decide_eq_false e]
theorem qfO (a:Int)(b:Str):decide ((E8 a:Key)=K9 b)=false:=decide_eq_false (λq=>nomatch q)
theorem qfN (a:Str)(b:Int):decide ((K9 a:Key)=E8 b)=false:=decide_eq_false (λq=>nomatch q)
noncomputable def qBQ (prog:B13)(w:World):PySem.KeyKind prog w Key where
 is:=qRN
 hash:=keyH w
 inj:=λv a b g d=>by
  rcases qBD g with⟨i,t,rfl,rfl⟩|⟨x,t,rfl,rfl⟩
  ·rcases qBD d with⟨j,u,rfl,e⟩|⟨y,u,rfl,e⟩
   ·injection e with e1 _;rw[e1]
   ·exact nomatch e
  ·rcases qBD d with⟨j,u,rfl,e⟩|⟨y,u,rfl,e⟩
   ·exact nomatch e
   ·injection e with e1 _;rw[e1]
 byValue:=λk v h=>by
  rcases qBD h with⟨i,t,rfl,rfl⟩|⟨x,t,rfl,rfl⟩<;>rfl
 pyHash:=λc h=>by
  rcases qBD c with⟨i,t,rfl,rfl⟩|⟨x,t,rfl,rfl⟩
  ·exact wpAny_pyHash_int h
  ·exact wpAny_pyHash_str h
 eqBool:=λf c h=>by
  rcases qBD f with⟨i,t,rfl,rfl⟩|⟨x,t,rfl,rfl⟩
  ·rcases qBD c with⟨j,u,rfl,rfl⟩|⟨y,u,rfl,rfl⟩
   ·rw[qfP] at h;exact wpAny_eqBool_int h
   ·rw[qfO] at h;exact A27 i t y u _ _ _ _ h
  ·rcases qBD c with⟨j,u,rfl,rfl⟩|⟨y,u,rfl,rfl⟩
   ·rw[qfN] at h;exact A28 x t j u _ _ _ _ h
   ·rw[qfM] at h;exact wpAny_eqBool_str h
 «strs»:=λk x t v h=>by
  rcases qBD h with⟨i,u,rfl,e⟩|⟨y,u,rfl,e⟩
  ·exact nomatch e
  ·injection e with e1 _
   subst e1;cases v<;>rfl
theorem qRJ (prog:B13)(w:World)(i:Int)(t:Tok):(qBQ prog w).is (.inl i) (.int i t)=true:=qX8 i t
theorem qRI (prog:B13)(w:World)(x:Str)(t:Tok):(qBQ prog w).is (.inr x) (.str x t)=true:=qX7 x t
inductive V where
 |non|bl (b:Bool)|int (i:Int)|str (x:Str)|byt (b:Array UInt8)|flt (b:UInt64)|ref (a:Addr)|ty (n:String)
 deriving DecidableEq
def RelV:V->Value->Prop
 |.non,u=>u=L4
 |.bl b,u=>u=z9 b
 |.int i,u=>∃t,u=W2 i t
 |.str x,u=>∃t,u=A71 x t
 |.byt b,u=>∃t,u=Value.bytes b t
 |.flt b,u=>∃t,u=Value.float b t
 |.ref a,u=>u=C4 a
 |.ty n,u=>u=l7 n
abbrev Vals:List V->List Value->Prop:=Paired RelV
theorem Vals.length {xs:List V}{a:List Value}(r:Vals xs a):xs.length=a.length:=C6 r
theorem Vals.get:∀{xs:List V} {us:List Value} {i:Nat} {x:V},Vals xs us->xs[i]?=some x->∃u,us[i]?=some u/\RelV x u
 |_,_,_,_,.nil,e=>by simp at e
 |_,_,0,_,.cons r _,e=>by simp at e;subst e;exact⟨_,rfl,r⟩
 |_,_,i+1,x,.cons _ t,e=>by
  obtain⟨u,h1,h2⟩:=Vals.get (i:=i) (x:=x) t (by simpa using e)
  exact⟨u,by simpa using h1,h2⟩
theorem Vals.set {x:V}{u:Value}(r:RelV x u):∀{xs:List V} {us:List Value} (i:Nat),Vals xs us->Vals (xs.set i x) (us.set i u)
 |_,_,_,.nil=>.nil
 |_,_,0,.cons _ t=>.cons r t
 |_,_,i+1,.cons q t=>.cons q (Vals.set r i t)
theorem Vals.append:∀{xs ys:List V} {us ws:List Value},Vals xs us->Vals ys ws->Vals (xs++ys) (us++ws)
 |_,_,_,_,.nil,s=>s
 |_,_,_,_,.cons r t,s=>.cons r (Vals.append t s)
theorem Vals.take:∀{xs:List V} {us:List Value} (n:Nat),Vals xs us->Vals (xs.take n) (us.take n)
 |_,_,0,_=>.nil
 |_,_,_+1,.nil=>.nil
 |_,_,n+1,.cons r t=>.cons r (Vals.take n t)
theorem Vals.drop:∀{xs:List V} {us:List Value} (n:Nat),Vals xs us->Vals (xs.drop n) (us.drop n)
 |_,_,0,r=>r
 |_,_,_+1,.nil=>.nil
 |_,_,n+1,.cons _ t=>Vals.drop n t
def RelO:Option V->Option Value->Prop
 |some v,some u=>RelV v u
 |none,none=>True
 |_,_=>False
def KV {κ:Type}:List (κ×V)->List (κ×Value)->Prop:=Paired λ(p:κ×V) (q:κ×Value)=>p.1=q.1/\RelV p.2 q.2
inductive CTb where
 |tab (q:Str)
 |cod (q:Str)
noncomputable def kV:Key->V
 |.inl i=>.int i
 |.inr x=>.str x
inductive HO where
 |lst (xs:List V)
 |tup (xs:List V)
 |dK (Af:List (Key×V))|dT (Af:List (List Key×V))
 |set (S:Int->Bool) (n:Nat)
 |ins (C dx:Addr) (fs:List (Str×V))
 |own (x:Addr)
 |xd (fs:List (Str×V))
 |met (f x:Addr)
 |rng (lo hi:Int)
 |frz (o:Obj) (u:HO)
 |tbl (t:CTb)
 |ext (φ:Heap->Prop)
abbrev Hp:=Addr->Option HO
noncomputable def Ag (H:Hp)(a:Addr)(o:HO):Hp:=λb=>if b=a then some o else H b
theorem qA1 {H:Hp}{a:Addr}{o:HO}:Ag H a o a=some o:=by unfold Ag;rw[if_pos rfl]
theorem qA9 {H:Hp}{a b:Addr}{o:HO}(h:b≠a):Ag H a o b=H b:=by unfold Ag;rw[if_neg h]
theorem qNB {H:Hp}{a:Addr}{o u:HO}:Ag (Ag H a o) a u=Ag H a u:=by
 funext b;unfold Ag;split<;>rfl
theorem qC1 {H:Hp}{a b:Addr}{o u:HO}(h:H a=some o)(h':H b=some u)(d:o≠u):a≠b:=by
 intro e;subst e;rw[h] at h';exact d (B0 h')
theorem qA6 {H:Hp}{a b:Addr}{o:HO}(h:H a=some o)(h':H b=none):a≠b:=by
 intro e;subst e;rw[h] at h';cases h'
section
variable(P:B13)(w:World)
def ObjOk (H:Hp)(h:Heap)(a:Addr):HO->Prop
 |.lst xs=>xs.length<=B12/\∃(its:List Value) (n:Nat),Vals xs its/\h.get? a=some {cls:=.type "list",data:=.seq its.toArray n}
 |.tup xs=>xs.length<=B12/\∃its:List Value,Vals xs its/\IsTup h a its.toArray
 |.dK Af=>Af.length<=B12/\(a==B32)=false/\∃vs,KV Af vs/\h.DictOf (qBQ P w) a vs
 |.dT Af=>Af.length<=B12/\(a==B32)=false/\∃xs:List (List Key×Addr×Value),
   Paired (λ(p:List Key×V) (q:List Key×Addr×Value)=>p.1=q.1/\H q.2.1=some (.tup (p.1.map kV))/\RelV p.2 q.2.2) Af xs/\
   ∃o es ep,h.get? a=some o/\o.ExactDict/\o.data=.dict es ep/\es.toList=xs.map (entryOfKey (B81 (qBQ P w)))/\(xs.map (·.1)).Nodup
 |.set S n=>h.SetOf (intKind P w) a S n
 |.ins C dx fs=>H dx=some (.own a)/\fs.length<=1000/\dx≠a/\h.get? a=some (t9 C dx)/\
   ∃mA,h.Ns1 dx mA/\(∀f,RelO (fs.lookup f) (mA f))/\PySem.Within mA (fs.map (·.1))
 |.own _=>∃o,h.get? a=some o
 |.xd fs=>∃mA,h.Ns1 a mA/\∀f,RelO (fs.lookup f) (mA f)
 |.rng lo hi=>∃t u v,h.get? a=some {cls:=.type "range",data:=.fields #[.int lo t,.int hi u,.int 1 v]}
 |.frz o u=>h.get? a=some o/\ObjOk H h a u
 |.tbl (.tab q)=>∃more:Array Value,h.get? a=some {cls:=.none,data:=.fields more}/\TriplesOk more.toList/\∀pos cv,codeAmong pos more.toList=some cv->∃c,cv=.ref c/\H c=some (.tbl (.cod q))
 |.tbl (.cod q)=>h.CodeRec (.ref a) q
 |.met f x=>h.get? a=some (Z0 (.ref f) (.ref x))
 |.ext φ=>φ h/\(∃o,h.get? a=some o)/\∀h1 h2:Heap,φ h1->(∀o,h1.get? a=some o->h2.get? a=some o)->φ h2
def HOk (H:Hp)(h:Heap):Prop:=∀a o,H a=some o->ObjOk P w H h a o
end
section
variable{P:B13}{w:World}{H H':Hp}{h h':Heap}{a:Addr}{o:HO}
theorem ObjOk.lt (x:ObjOk P w H h a o):a<h.objs.size:=by
 cases o with
 |lst xs=>obtain⟨_,_,_,_,e⟩:=x;exact B5 e
 |tup xs=>obtain⟨_,_,_,p⟩:=x;exact p.lt
 |dK Af=>obtain⟨_,_,_,_,o,_,_,e,_⟩:=x;exact B5 e
 |dT Af=>obtain⟨_,_,_,_,o,_,_,e,_⟩:=x;exact B5 e
 |set S n=>obtain⟨o,_,_,_,e,_⟩:=x;exact B5 e
 |ins C dx fs=>obtain⟨_,_,_,e,_⟩:=x;exact B5 e
 |own y=>obtain⟨_,e⟩:=x;exact B5 e
 |xd fs=>obtain⟨_,⟨_,_,_,e,_⟩,_⟩:=x;exact B5 e
 |rng lo hi=>obtain⟨_,_,_,e⟩:=x;exact B5 e
 |frz ob u=>obtain⟨e,_⟩:=x;exact B5 e
 |tbl t=>
  cases t with
  |tab q=>obtain⟨_,e,_⟩:=x;exact B5 e
  |cod q=>obtain⟨c,o,_,_,e,g,_⟩:=x;cases e;exact B5 g
 |met f y=>exact B5 (show h.get? a=some _ from x)
 |ext φ=>obtain⟨_,⟨_,e⟩,_⟩:=x;exact B5 e
theorem Paired.mapP {α β:Type}{F G:α->β->Prop}:∀{l₁:List α} {l₂:List β},Paired F l₁ l₂->(∀a b,F a b->G a b)->Paired G l₁ l₂
 |_,_,.nil,_=>.nil
 |_,_,.cons r t,f=>.cons (f _ _ r) (Paired.mapP t f)
theorem ObjOk.stay (x:ObjOk P w H h a o)(k:∀b u,(b=a\/H b=some (.own a))->h.get? b=some u->h'.get? b=some u)
  (ho:∀b,H b=some (.own a)->H' b=some (.own a)) (ht:∀b xs,H b=some (.tup xs)->H' b=some (.tup xs)) (hb:∀b t,H b=some (.tbl t)->H' b=some (.tbl t):=by exactλ_ _ q=>q):ObjOk P w H' h' a o:=by
 induction o with
 |lst xs=>obtain⟨z,s,n,r,e⟩:=x;exact⟨z,s,n,r,k _ _ (.inl rfl) e⟩
 |tup xs=>obtain⟨z,s,r,i,e,c⟩:=x;exact⟨z,s,r,i,k _ _ (.inl rfl) e,c⟩
 |dK Af=>obtain⟨z,y,vs,r,i,j,l,e,c⟩:=x;exact⟨z,y,vs,r,i,j,l,k _ _ (.inl rfl) e,c⟩
 |dT Af=>
  obtain⟨z,y,xs,r,i,j,l,e,c⟩:=x;exact⟨z,y,xs,Paired.mapP r λp q z=>⟨z.1,ht _ _ z.2.1,z.2.2⟩,i,j,l,k _ _ (.inl rfl) e,c⟩
 |set S n=>obtain⟨i,j,l,t,e,c⟩:=x;exact⟨i,j,l,t,k _ _ (.inl rfl) e,c⟩
 |ins C dx fs=>
  obtain⟨d,z,ne,e,mA,⟨od,j,l,e2,c⟩,r⟩:=x;exact⟨ho _ d,z,ne,k _ _ (.inl rfl) e,mA,⟨od,j,l,k _ _ (.inr d) e2,c⟩,r⟩
 |own y=>obtain⟨i,e⟩:=x;exact⟨i,k _ _ (.inl rfl) e⟩
 |xd fs=>obtain⟨mA,⟨od,j,l,e,c⟩,r⟩:=x;exact⟨mA,⟨od,j,l,k _ _ (.inl rfl) e,c⟩,r⟩
 |rng lo hi=>obtain⟨t,u,v,e⟩:=x;exact⟨t,u,v,k _ _ (.inl rfl) e⟩
 |frz i u ih=>obtain⟨e,q⟩:=x;exact⟨k _ _ (.inl rfl) e,ih q⟩
 |tbl t=>
  cases t with
  |tab q=>obtain⟨m,e,tr,c⟩:=x;exact⟨m,k a _ (.inl rfl) e,tr,λa0 cv z=>let⟨c',e1,e2⟩:=c a0 cv z;⟨c',e1,hb _ _ e2⟩⟩
  |cod q=>obtain⟨c,o,vs,t,e,g,r⟩:=x;cases e;exact⟨a,o,vs,t,rfl,k a _ (.inl rfl) g,r⟩
 |met f y=>
  have e:h.get? a=some (Z0 (.ref f) (.ref y)):=x;show h'.get? a=some (Z0 (.ref f) (.ref y));exact k a _ (.inl rfl) e
 |ext φ=>obtain⟨p,⟨o,e⟩,st⟩:=x;exact⟨st _ _ p λo q=>k _ _ (.inl rfl) q,⟨o,k _ _ (.inl rfl) e⟩,st⟩
theorem HOk.lt (x:HOk P w H h)(e:H a=some o):a<h.objs.size:=(x a o e).lt
theorem HOk.fresh (x:HOk P w H h)(e:h.objs.size<=a):H a=none:=by
 cases q:H a with
 |none=>rfl
 |some u=>exact absurd (E1 (x.lt q) e) (P7 _)
theorem HOk.kept (x:HOk P w H h)(k:∀b u,h.get? b=some u->h'.get? b=some u):HOk P w H h':=λa o e=>
 (x a o e).stay (λb u _ q=>k b u q) (λ_ q=>q) λ_ _ q=>q
theorem HOk.laid (x:HOk P w H h)(k:∀b u,h.get? b=some u->h'.get? b=some u)(i:h.objs.size<=a)(f:ObjOk P w (Ag H a o) h' a o):HOk P w (Ag H a o) h':=λb u e=>by
 have d:=x.fresh i;by_cases g:b=a
 ·subst g;rw[qA1] at e;cases e;exact f
 ·rw[qA9 g] at e;exact(x b u e).stay (λc v _ q=>k c v q) (λc q=>by rw[qA9 (qA6 q d)];exact q) (λc j q=>by rw[qA9 (qA6 q d)];exact q) λc t q=>by rw[qA9 (qA6 q d)];exact q
end
def Rd (H:Hp)(a:Addr)(u:HO):Prop:=H a=some u\/∃o,H a=some (.frz o u)
theorem Rd.ok {P:B13}{w:World}{H:Hp}{h:Heap}{a:Addr}{u:HO}(r:Rd H a u)(x:HOk P w H h):ObjOk P w H h a u:=by
 rcases r with r|⟨o,r⟩
 ·exact x a u r
 ·obtain⟨_,q⟩:=x a _ r;exact q
def Mut:Option HO->Prop
 |some (.lst _)=>True
 |some (.dK _)=>True
 |some (.dT _)=>True
 |some (.set _ _)=>True
 |some (.ins _ _ _)=>True
 |some (.ext _)=>True
 |_=>False
section
variable{P:B13}{w:World}{H:Hp}{h h':Heap}{x e:Addr}{o':HO}
theorem HOk.write (p:HOk P w H h)(f:Mut (H x))(m:e=x\/H e=some (.own x))(k:∀b u,b≠e->h.get? b=some u->h'.get? b=some u)(j:∃u,h'.get? e=some u)
  (l:ObjOk P w (Ag H x o') h' x o'):HOk P w (Ag H x o') h':=λb u q=>by
 have d:∀c y,H c=some (.own y)->c≠x:=λc y r z=>by subst z;rw[r] at f;exact f
 have g:∀c xs,H c=some (.tup xs)->c≠x:=λc xs r z=>by subst z;rw[r] at f;exact f
 by_cases i:b=x
 ·subst i;rw[qA1] at q;cases q;exact l
 ·rw[qA9 i] at q;by_cases a:b=e
  ·have n:H b=some (.own x):=by
    rcases m with z|z
    ·exact absurd (a.trans z) i
    ·rw[a];exact z
   rw[q] at n;cases n;obtain⟨v,o⟩:=j;exact⟨v,by rw[a];exact o⟩
  ·refine(p b u q).stay (λc v hc r=>k c v ?_ r) (λc r=>by rw[qA9 (d c b r)];exact r) (λc xs r=>by rw[qA9 (g c xs r)];exact r) λc t r=>by rw[qA9 (λz=>by subst z;rw[r] at f;exact f)];exact r
   rcases hc with rfl|hc
   ·exact a
   ·rintro rfl;rcases m with z|z
    ·exact d c b hc z
    ·rw[hc] at z;cases z;exact i rfl
end
structure Un (fs ex:List Addr)(H H':Hp)(h h':Heap):Prop where
 keep:∀b o,h.get? b=some o->H b=none->b∉fs->b∉ex->h'.get? b=some o
 slot:∀b o,h.get? b=some o->H b=none->b∈fs->b∉ex->∃sl,h'.get? b=some {o with slots:=sl}
 free:∀b o,h.get? b=some o->H b=none->b∉ex->H' b=none
 there:∀b o,h.get? b=some o->b∉ex->∃o',h'.get? b=some o'
 tups:∀b xs,H b=some (.tup xs)->H' b=some (.tup xs)
 frzs:∀b o u,H b=some (.frz o u)->H' b=some (.frz o u)
 tbls:∀b ps,H b=some (.tbl ps)->H' b=some (.tbl ps)
section
variable{fs fs' ex ex':List Addr}{H H1 H2:Hp}{h h1 h2 h':Heap}{a x e:Addr}{o:HO}
theorem Un.any (u:Un fs ex H H1 h h1){b:Addr}{a:Obj}(q:h.get? b=some a)(n:H b=none)(d:b∉ex):∃sl,h1.get? b=some {a with slots:=sl}:=by
 by_cases c:b∈fs
 ·exact u.slot b a q n c d
 ·exact⟨a.slots,u.keep b a q n c d⟩
theorem Un.kept (k:∀b u,h.get? b=some u->h'.get? b=some u):Un fs ex H H h h':=
 ⟨λb a q _ _ _=>k b a q,λb a q _ _ _=>⟨a.slots,k b a q⟩,λ_ _ _ n _=>n,λb a q _=>⟨a,k b a q⟩,λ_ _ q=>q,λ_ _ _ q=>q,λ_ _ q=>q⟩
theorem Un.refl:Un fs ex H H h h:=Un.kept λ_ _ q=>q
theorem Un.laid (k:∀b u,h.get? b=some u->h'.get? b=some u)(e:h.objs.size<=a)(c:H a=none):Un fs ex H (Ag H a o) h h' where
 keep:=λb u q _ _ _=>k b u q
 slot:=λb u q _ _ _=>⟨u.slots,k b u q⟩
 free:=λb u q n _=>by rw[qA9 (D5 (E1 (B5 q) e))];exact n
 there:=λb u q _=>⟨u,k b u q⟩
 tups:=λb d q=>by rw[qA9 (qA6 q c)];exact q
 frzs:=λb u d q=>by rw[qA9 (qA6 q c)];exact q
 tbls:=λb f q=>by rw[qA9 (qA6 q c)];exact q
theorem Un.write (c:Mut (H x))(l:e=x\/H e=some (.own x))(k:∀b u,b≠e->h.get? b=some u->h'.get? b=some u)(d:∃u,h'.get? e=some u):Un fs ex H (Ag H x o) h h':=by
 have g:∀b,H b=none->b≠x:=λb n z=>by subst z;rw[n] at c;exact c
 have i:∀b,H b=none->b≠e:=λb n z=>by
  subst z;rcases l with r|r
  ·exact g b n r
  ·rw[n] at r;cases r
 have f:∀b u,H b=some u->¬Mut (some u)->b≠x:=λb u q m z=>by subst z;rw[q] at c;exact m c
 refine⟨λb u q n _ _=>k b u (i b n) q,λb u q n _ _=>⟨u.slots,k b u (i b n) q⟩,λb u q n _=>by rw[qA9 (g b n)];exact n,λb u q _=>?_,
  λb j q=>by rw[qA9 (f b _ q λz=>z)];exact q,λb u j q=>by rw[qA9 (f b _ q λz=>z)];exact q,λb p q=>by rw[qA9 (f b _ q λz=>z)];exact q⟩
 by_cases a:b=e
 ·subst a;exact d
 ·exact⟨u,k b u a q⟩
end
noncomputable def trk (h:Heap)(H:Hp):List Addr:=(C3 h.objs.size).filter λa=>(H a).isSome
noncomputable def hidT (h:Heap)(H:Hp):Heap:=A72 h (trk h H)
theorem qXE (h:Heap)(H:Hp):(hidT h H).objs.size=h.objs.size:=PySem.W.hideAll_size _ _
theorem qa3 {h:Heap}{H:Hp}{b:Addr}{o:Obj}(e:h.get? b=some o)(n:H b=none):(hidT h H).get? b=some o:=
 A17 _ e λa=>by
  have q:(H b).isSome=true:=(B9.mp a).2;rw[n] at q;simp at q
theorem qcV {h:Heap}{H:Hp}{b:Addr}{o:Obj}(e:(hidT h H).get? b=some o):h.get? b=some o/\H b=none:=by
 have c:h.get? b=some o:=A29 (trk h H) e;refine⟨c,?_⟩;cases q:H b with
 |none=>rfl
 |some x=>
  have f:b∈trk h H:=B9.mpr ⟨E2.mpr (B5 c),by simp[q]⟩
  have z:(hidT h H).get? b=none:=A02 (trk h H) f;rw[z] at e;cases e
noncomputable def qdW (g h:Heap)(L:Addr):Aa2:=(C3 h.objs.size).filterMap λa=>if a=L\/(g.get? a).isSome=true then none else(h.get? a).map λo=>(a,o)
noncomputable def rest (g h:Heap)(L d:Addr):Aa2:=(qdW g h L).filter λp=>decide (p.1≠d)
structure Mod (K:Ab1)(mg:Ab0)(base:Heap):Prop where
 kin:K.In base
 glob:base.Ns B23 mg
 blt:∃mb,base.Ns B83 mb/\∀x:Str,x ≠ "__name__"->mb x=B19 x
 nolimit:base.NoLimit
structure Cx where
 prog:B13
 w:World
 K:Ab1
 mg:Ab0
 base:Heap
 A:Around
 N:List Str
 s₀:Shared
 H₀:Hp
 env:Env
 outer:List Env
 stack:List Env
 ex:List Addr
 fn:Str->Bool
 calm:Bool
 pn:Aa2
 xe:Aa1
noncomputable def frs (l:List Env):List Addr:=l.filterMap (·.frame)
noncomputable abbrev Cx.fs (X:Cx):List Addr:=frs X.outer
def Vis (sc:Scope)(x:Str):Prop:=sc.names.lookup x=some .local\/sc.names.lookup x=some .cell\/sc.names.lookup x=some .free
def Loc (sc:Scope)(x:Str):Prop:=sc.names.lookup x=some .local\/sc.names.lookup x=some .cell
def Look (env:Env)(h:Heap)(m:Ab0)(x:Str)(u:Value):Prop:=
 (env.kindOf x=some .local/\m x=some u)\/((env.kindOf x=some .cell\/env.kindOf x=some .free)/\∃c,env.cells.lookup x=some c/\h.IsCell c (some u))
structure Cx.Ok (X:Cx):Prop where
 mod:Mod X.K X.mg X.base
 kind:X.env.scope.kind=.function
 glob:X.env.globals=B23
 blt:X.env.builtins=B83
 above:X.s₀.heap.objs.size<=X.env.locals
 inj:∀x y c,X.env.cells.lookup x=some c->X.env.cells.lookup y=some c->x=y
 has:∀x,(X.env.kindOf x=some .cell\/X.env.kindOf x=some .free)->∃c,X.env.cells.lookup x=some c
 cab:∀x c,X.fn x=true->X.env.cells.lookup x=some c->X.s₀.heap.objs.size<=c
 hd:X.calm=true->X.A.handled=none
 frames:X.A.frames=some X.stack
 stk:X.stack=X.outer\/(X.stack=X.env::X.outer/\X.env.frame=some X.env.locals)
 exf:∀b∈X.ex,b≠X.env.locals/\∀x c,X.env.cells.lookup x=some c->c≠b
 bs:∀b o,X.base.get? b=some o->X.s₀.heap.get? b=some o/\X.H₀ b=none
 bsz:X.base.objs.size<=X.s₀.heap.objs.size
 noex:∀b o,X.base.get? b=some o->b∉X.ex
 exfs:∀b∈X.ex,b∉X.fs
 funs:X.s₀.heap.FunFrames X.base X.outer
 frf:∀b∈X.fs,X.H₀ b=none
structure Inv (X:Cx)(Ab:Aa2)(σ:List (Option V))(H:Hp)(s:Shared):Prop where
 ok:X.Ok
 os:s.os=X.s₀.os
 bare:B69 s.gens
 base:Un X.fs X.ex X.H₀ H X.s₀.heap s.heap
 loc:∃m,s.heap.Ns X.env.locals m/\∀(i:Nat) (x:Str) (v:V),X.N[i]?=some x->σ[i]?=some (some v)->Vis X.env.scope x->∃u,RelV v u/\Look X.env s.heap m x u
 cell:∀x c,X.env.cells.lookup x=some c->∃v,s.heap.IsCell c v
 free:H X.env.locals=none
 freeC:∀x c,X.env.cells.lookup x=some c->H c=none
 pin:∀p∈X.pn++Ab,s.heap.get? p.1=some p.2/\H p.1=none/\p.1≠X.env.locals/\p.1∉X.fs/\∀v,p.2.data≠.cell v
 hok:HOk X.prog X.w H s.heap
 len:σ.length=X.N.length
section
variable{X:Cx}{Ab:Aa2}{σ:List (Option V)}{H H':Hp}{s:Shared}{h':Heap}
theorem Cx.Ok.nofr (a:X.Ok){b:Addr}{o:Obj}(e:X.base.get? b=some o):b∉X.fs:=λc=>by
 have:=(a.funs.mem c).1;rw[e] at this;cases this
theorem Inv.bs (I:Inv X Ab σ H s):∀b o,X.base.get? b=some o->s.heap.get? b=some o/\H b=none:=λb o e=>
 ⟨I.base.keep b o (I.ok.bs b o e).1 (I.ok.bs b o e).2 (I.ok.nofr e) (I.ok.noex b o e),I.base.free b o (I.ok.bs b o e).1 (I.ok.bs b o e).2 (I.ok.noex b o e)⟩
theorem Inv.bk (I:Inv X Ab σ H s):∀b o,X.base.get? b=some o->s.heap.get? b=some o:=λb o e=>(I.bs b o e).1
theorem Inv.mod (I:Inv X Ab σ H s):Mod X.K X.mg X.base:=I.ok.mod
theorem Inv.kIn (I:Inv X Ab σ H s):X.K.In s.heap:=I.ok.mod.kin.keeps I.bk
theorem Inv.nolimit (I:Inv X Ab σ H s):s.heap.NoLimit:=I.ok.mod.nolimit.keeps I.bk
theorem Inv.lt (I:Inv X Ab σ H s):X.env.locals<s.heap.objs.size:=let⟨_,hn,_⟩:=I.loc;hn.lt
theorem Inv.sz (I:Inv X Ab σ H s):X.s₀.heap.objs.size<=s.heap.objs.size:=E3 I.ok.above (R4 I.lt)
theorem Inv.nofs (I:Inv X Ab σ H s){a:Addr}(h:s.heap.objs.size<=a):a∉X.fs:=λc=>by
 obtain⟨_,o,b,_⟩:=I.ok.funs.mem c;exact absurd (E1 (B5 b) (E3 I.sz h)) (P7 _)
theorem Inv.cne (I:Inv X Ab σ H s):∀x c,X.env.cells.lookup x=some c->c≠X.env.locals:=λx c e z=>by
 obtain⟨v,o,f,d⟩:=I.cell x c e;obtain⟨m,⟨g,h,i,a,b,_⟩,_⟩:=I.loc;rw[z,a] at f;cases f;rw[b] at d;cases d
theorem Inv.funs (I:Inv X Ab σ H s):s.heap.FunFrames X.base X.outer:=by
 have c:∀(l:List Env),(∀b∈frs l,b∈X.fs)->X.s₀.heap.FunFrames X.base l->s.heap.FunFrames X.base l:=by
  intro l
  induction l with
  |nil=>intro _ _;trivial
  |cons env r ih=>
   intro g h;obtain⟨m,⟨L,o,a,i,n,j⟩,k⟩:=h;have f:L∈X.fs:=g L (by unfold frs;rw[F9,a];exact E4)
   obtain⟨p,e⟩:=I.base.slot L o n (I.ok.frf L f) f λz=>I.ok.exfs L z f;exact⟨m,⟨L,_,a,i,e,j⟩,ih (λb d=>g b (by unfold frs;rw[F9,a];exact A8 _ d)) k⟩
 exact c X.outer (λ_ d=>d) I.ok.funs
theorem Inv.stack (I:Inv X Ab σ H s):s.heap.FunFrames X.base X.stack:=by
 rcases I.ok.stk with e|⟨e,hf⟩
 ·rw[e];exact I.funs
 ·rw[e];obtain⟨m,a,_⟩:=I.loc;refine .cons (by rw[I.ok.kind];decide) hf a ?_ I.funs
  exact Heap.get?_none_of_le (E3 I.ok.bsz I.ok.above)
theorem Inv.stkSub (I:Inv X Ab σ H s):∀b∈frs X.stack,b∈X.env.locals::X.fs:=λb a=>by
 rcases I.ok.stk with e|⟨e,hf⟩
 ·rw[e] at a;exact A8 _ a
 ·rw[e] at a;unfold frs at a;rw[F9,hf] at a;exact a
theorem Inv.stkFree (I:Inv X Ab σ H s):∀b∈frs X.stack,H b=none:=λb hb=>by
 rcases B8.mp (I.stkSub b hb) with e|hb
 ·rw[e];exact I.free
 ·obtain⟨_,o,a,_⟩:=I.ok.funs.mem hb;exact I.base.free b o a (I.ok.frf b hb) λz=>I.ok.exfs b z hb
theorem Inv.step {g':Array B66}{t':Nat}{d':Drawn}{ch:List Addr}(I:Inv X Ab σ H s)
  (f:∀b∈ch,(b∈X.ex\/X.s₀.heap.objs.size<=b)/\b≠X.env.locals/\(∀x c,X.env.cells.lookup x=some c->c≠b)/\∀p∈X.pn++Ab,p.1≠b)
  (keep:∀b o,b≠X.env.locals->b∉X.fs->b∉ch->s.heap.get? b=some o->H b=none->h'.get? b=some o)
  (slot:∀b o,b≠X.env.locals->b∈X.fs->b∉ch->s.heap.get? b=some o->H b=none->∃sl,h'.get? b=some {o with slots:=sl}) (free:∀b o,b∉ch->s.heap.get? b=some o->H b=none->H' b=none)
  (there:∀b o,b∉ch->s.heap.get? b=some o->∃o',h'.get? b=some o')
  (tups:∀b xs,H b=some (.tup xs)->H' b=some (.tup xs)) (frzs:∀b o u,H b=some (.frz o u)->H' b=some (.frz o u)) (tbls:∀b ps,H b=some (.tbl ps)->H' b=some (.tbl ps))
  (ns:∀m,s.heap.Ns X.env.locals m->h'.Ns X.env.locals m) (a2:HOk X.prog X.w H' h') (hg:B69 g'):
  Inv X Ab σ H' {s with heap:=h',gens:=g',drawn:=d',toks:=t'}:=by
 have a0:∀b o,X.s₀.heap.get? b=some o->b≠X.env.locals:=λb o e=>D5 (E1 (B5 e) I.ok.above);have j:∀b o,X.s₀.heap.get? b=some o->b∉X.ex->b∉ch:=λb o e a t=>by
  rcases(f b t).1 with z|z
  ·exact a z
  ·exact absurd (E1 (B5 e) z) (P7 _)
 have g:∀x c,X.env.cells.lookup x=some c->∀v,s.heap.IsCell c v->h'.IsCell c v:=λx c e v ⟨o,ho,hd⟩=>by
  have h:c∉ch:=λz=>(f c z).2.2.1 x c e rfl;by_cases hc:c∈X.fs
  ·obtain⟨sl,q⟩:=slot c o (I.cne x c e) hc h ho (I.freeC x c e);exact⟨_,q,hd⟩
  ·exact⟨o,keep c o (I.cne x c e) hc h ho (I.freeC x c e),hd⟩
 refine⟨I.ok,I.os,hg,⟨λb o e n t a=>?_,λb o e n t a=>?_,λb o e n a=>?_,λb o e a=>?_,λb xs e=>tups b xs (I.base.tups b xs e),λb o xs e=>frzs b o xs (I.base.frzs b o xs e),λb ps e=>?_⟩,?_,λx c e=>?_,?_,λx c e=>?_,λp hp=>?_,a2,I.len⟩
 ·exact keep b o (a0 b o e) t (j b o e a) (I.base.keep b o e n t a) (I.base.free b o e n a)
 ·obtain⟨sl,y⟩:=I.base.slot b o e n t a;obtain⟨a1,e2⟩:=slot b _ (a0 b o e) t (j b o e a) y (I.base.free b o e n a);exact⟨a1,e2⟩
 ·obtain⟨o',y⟩:=I.base.there b o e a;exact free b o' (j b o e a) y (I.base.free b o e n a)
 ·obtain⟨o',y⟩:=I.base.there b o e a;exact there b o' (j b o e a) y
 ·exact tbls b ps (I.base.tbls b ps e)
 ·obtain⟨m,hn,hl⟩:=I.loc;refine⟨m,ns m hn,λi x v y e2 e3=>?_⟩;obtain⟨u,r,l⟩:=hl i x v y e2 e3;refine⟨u,r,?_⟩;rcases l with l|⟨k,c,e,z⟩
  ·exact .inl l
  ·exact .inr ⟨k,c,e,g x c e _ z⟩
 ·obtain⟨v,z⟩:=I.cell x c e;exact⟨v,g x c e v z⟩
 ·obtain⟨m,⟨o,_,_,ho,_⟩,_⟩:=I.loc;exact free _ o (λz=>(f _ z).2.1 rfl) ho I.free
 ·obtain⟨v,o,ho,hd⟩:=I.cell x c e;exact free c o (λz=>(f c z).2.2.1 x c e rfl) ho (I.freeC x c e)
 ·obtain⟨e,n,ne,nf,d⟩:=I.pin p hp;have h:p.1∉ch:=λz=>(f p.1 z).2.2.2 p hp rfl;exact⟨keep p.1 p.2 ne nf h e n,free p.1 p.2 h e n,ne,nf,d⟩
theorem Inv.un {t':Nat}(I:Inv X Ab σ H s)(u:Un X.fs [] H H' s.heap h')(f:HOk X.prog X.w H' h'):Inv X Ab σ H' {s with heap:=h',toks:=t'}:=by
 obtain⟨m,⟨o,p,q,h,r⟩,_⟩:=id I.loc;obtain⟨v,k⟩:=u.any h I.free (by simp)
 exact I.step (g':=s.gens) (d':=s.drawn) (ch:=[]) (fun _ z=>nomatch z) (fun b o _ g _ e n=>u.keep b o e n g (by simp)) (fun b o _ g _ e n=>u.slot b o e n g (by simp)) (fun b o _ e n=>u.free b o e n (by simp)) (fun b o _ e=>u.there b o e (by simp)) u.tups u.frzs u.tbls (fun t i=>by
  obtain⟨l,c,d,a,j⟩:=i;rw[h] at a;cases a;exact⟨_,c,d,k,j⟩) f I.bare
theorem Inv.call {g':Array B66}{t':Nat}{d':Drawn}{ch:List Addr}(I:Inv X Ab σ H s)(u:Un (frs X.stack) ch H H' s.heap h')(i:HOk X.prog X.w H' h')(t:B69 g')
  (f:∀b∈ch,(b∈X.ex\/X.s₀.heap.objs.size<=b)/\b≠X.env.locals/\(∀x c,X.env.cells.lookup x=some c->c≠b)/\∀p∈X.pn++Ab,p.1≠b):
  Inv X Ab σ H' {s with heap:=h',gens:=g',drawn:=d',toks:=t'}:=by
 obtain ⟨m,⟨o,es,ep,k,r⟩,_⟩:=id I.loc;obtain ⟨sl,j⟩:=u.any k I.free fun z=>(f _ z).2.1 rfl;exact I.step (ch:=ch) f (fun b o j v a e n=>u.keep b o e n (fun z=>(B8.mp (I.stkSub b z)).elim j v) a) (fun b o _ _ a e n=>u.any e n a) (fun b o a e n=>u.free b o e n a) (fun b o a e=>u.there b o e a) u.tups u.frzs u.tbls (fun m' l=>by
  obtain⟨y,g,h,d,q⟩:=l;rw[k] at d;cases d;exact⟨_,g,h,j,q⟩) i t
theorem Inv.turned {t':Nat}{a:Addr}(I:Inv X Ab σ H s)(k:∀b o,b≠a->s.heap.get? b=some o->h'.get? b=some o)(j:H a=none)(g:a≠X.env.locals)
  (t:a∈X.ex\/X.s₀.heap.objs.size<=a) (y:∀x c,X.env.cells.lookup x=some c->c≠a) (h3:∀p∈X.pn++Ab,p.1≠a):Inv X Ab σ H {s with heap:=h',toks:=t'}:=by
 have f:∀b u,H b=some u->b≠a:=λb u e z=>by rw[z,j] at e;cases e
 refine I.step (g':=s.gens) (d':=s.drawn) (ch:=[a]) (λb hb=>?_) (λb o _ _ d e _=>k b o (λz=>d (by simp[z])) e) (λb o _ _ d e _=>⟨o.slots,k b o (λz=>d (by simp[z])) e⟩) (λ_ _ _ _ n=>n)
  (λb o d e=>⟨o,k b o (λz=>d (by simp[z])) e⟩) (λ_ _ e=>e) (λ_ _ _ e=>e) (λ_ _ e=>e) (λm i=>?_) (λb u e=>?_) I.bare
 ·have e:b=a:=by simpa using hb
  subst e;exact⟨t,g,y,h3⟩
 ·obtain⟨o,h,l,w,r⟩:=i;exact⟨o,h,l,k _ o (J6 g) w,r⟩
 ·refine(I.hok b u e).stay (λc v d q=>k c v ?_ q) (λ_ q=>q) λ_ _ q=>q;rcases d with z|z
  ·rw[z];exact f b u e
  ·exact f c _ z
theorem Inv.tok (I:Inv X Ab σ H s)(t:Nat):Inv X Ab σ H {s with toks:=t}:=I.un (h':=s.heap) (t':=t) Un.refl I.hok
theorem Inv.kept {t':Nat}(I:Inv X Ab σ H s)(k:∀b u,s.heap.get? b=some u->h'.get? b=some u):Inv X Ab σ H {s with heap:=h',toks:=t'}:=I.un (Un.kept k) (I.hok.kept k)
theorem Inv.laid {a:Addr}{o:HO}{t':Nat}(I:Inv X Ab σ H s)(k:∀b u,s.heap.get? b=some u->h'.get? b=some u)(d:s.heap.objs.size<=a)(c:ObjOk X.prog X.w (Ag H a o) h' a o):
  Inv X Ab σ (Ag H a o) {s with heap:=h',toks:=t'}:=I.un (Un.laid k d (I.hok.fresh d)) (I.hok.laid k d c)
theorem Inv.write {x e:Addr}{o:HO}{t':Nat}(I:Inv X Ab σ H s)(d:Mut (H x))(f:e=x\/H e=some (.own x))(k:∀b u,b≠e->s.heap.get? b=some u->h'.get? b=some u)(a:∃u,h'.get? e=some u)
  (c:ObjOk X.prog X.w (Ag H x o) h' x o):Inv X Ab σ (Ag H x o) {s with heap:=h',toks:=t'}:=I.un (Un.write d f k a) (I.hok.write d f k a c)
theorem Inv.pins_of {a:Aa2}(I:Inv X Ab σ H s)(h:∀p∈a,s.heap.get? p.1=some p.2/\H p.1=none/\p.1≠X.env.locals/\p.1∉X.fs/\∀v,p.2.data≠.cell v):Inv X a σ H s:=
 ⟨I.ok,I.os,I.bare,I.base,I.loc,I.cell,I.free,I.freeC,λp b=>(B4.mp b).elim (λz=>I.pin p (R9 _ z)) (h p),I.hok,I.len⟩
theorem qT7 {N:List Str}(c:N.Nodup){i j:Nat}{x:Str}(a:N[i]?=some x)(b:N[j]?=some x):i=j:=by
 obtain⟨f,d⟩:=A3.mp a;obtain⟨g,e⟩:=A3.mp b;exact(List.getElem_inj c).mp (d.trans e.symm)
theorem qP2 {M:Model}{A:Around}{E:Aa1}{i:Nat}{x:Str}{v:V}{u:Value}{Q:Unit->Shared->Prop}(I:Inv X Ab σ H s)(hN:X.N.Nodup)(hi:X.N[i]?=some x)(t:Loc X.env.scope x)(r:RelV v u)
  (h:∀s',Inv X Ab (σ.set i (some v)) H s'->(∃a,Heap.SameBut a s.heap s'.heap/\(a=X.env.locals\/X.env.cells.lookup x=some a))->Q () s') (hf:X.fn x=true\/X.env.scope.names.lookup x=some .local:=by first|exact .inl rfl|exact .inr rfl|assumption):wpAny M A (storeName X.env x u) Q E s:=by
 obtain⟨m,hn,hl⟩:=id I.loc;have a6:(X.env.scope.kind == .class||(X.env.scope.kind == .module&&X.env.locals != X.env.globals))=false:=by rw[I.ok.kind];rfl
 have a3:i<σ.length:=by rw[I.len];exact(A3.mp hi).1
 have cne:=I.cne;have l:∀{a:Addr} {h':Heap},(∃o,s.heap.get? a=some o/\H a=none)->Heap.SameBut a s.heap h'->HOk X.prog X.w H h':=λ{a h'} ha f b ob e=>by
  obtain⟨_,_,a0⟩:=ha;refine(I.hok b ob e).stay (λc w' hc q=>(f.2 c ?_).trans q) (λ_ q=>q) λ_ _ q=>q;rintro rfl;rcases hc with rfl|hc
  ·rw[a0] at e;cases e
  ·rw[a0] at hc;cases hc
 rcases t with hk|hk
 ·refine wpAny_storeName_local hk hn (λh' a9 f=>?_) a6;obtain⟨oL,_,_,a8,_⟩:=id hn;refine h _ ⟨I.ok,I.os,I.bare,⟨λb o e n hb t=>?_,λb o e n hb t=>?_,I.base.free,λb o e t=>?_,I.base.tups,I.base.frzs,I.base.tbls⟩,⟨_,a9,λj y v' g e2 e3=>?_⟩,λy c e=>?_,I.free,I.freeC,λp hp=>?_,l ⟨oL,a8,I.free⟩ f,by simpa using I.len⟩ ⟨_,f,.inl rfl⟩
  ·exact(f.2 b (D5 (E1 (B5 e) I.ok.above))).trans (I.base.keep b o e n hb t)
  ·obtain⟨sl,g⟩:=I.base.slot b o e n hb t;exact⟨sl,(f.2 b (D5 (E1 (B5 e) I.ok.above))).trans g⟩
  ·obtain⟨o',g⟩:=I.base.there b o e t;exact⟨o',(f.2 b (D5 (E1 (B5 e) I.ok.above))).trans g⟩
  ·by_cases hj:j=i
   ·subst hj;rw[hi] at g;cases g;rw[Q4 a3] at e2;cases e2;exact⟨u,r,.inl ⟨hk,by simp⟩⟩
   ·rw[V9 (J6 hj)] at e2;obtain⟨u',r',q⟩:=hl j y v' g e2 e3;refine⟨u',r',?_⟩;rcases q with⟨k,e⟩|⟨k,c,e,z⟩
    ·refine .inl ⟨k,?_⟩;have:y≠x:=λe=>hj (qT7 hN g (e▸hi));simp[this,e]
    ·exact .inr ⟨k,c,e,z.sameBut f (cne y c e)⟩
  ·obtain⟨w',z⟩:=I.cell y c e;exact⟨w',z.sameBut f (cne y c e)⟩
  ·obtain⟨e,n,ne,nf,d⟩:=I.pin p hp;exact⟨(f.2 p.1 ne).trans e,n,ne,nf,d⟩
 ·have a1:X.fn x=true:=by
   rcases hf with z|z
   ·exact z
   ·rw[z] at hk;cases hk
  obtain⟨c,hc⟩:=I.ok.has x (.inl hk);obtain⟨w',z⟩:=I.cell x c hc;refine wpAny_storeName_cell I.ok.kind hk hc z (λh' a7 f=>?_);obtain⟨oc,a4,a2⟩:=id z;refine h {s with heap:=h'} ⟨I.ok,I.os,I.bare,⟨λb o e n hb t=>?_,λb o e n hb t=>?_,I.base.free,λb o e t=>?_,I.base.tups,I.base.frzs,I.base.tbls⟩,⟨m,hn.sameBut f (J6 (cne x c hc)),λj y v' g e2 e3=>?_⟩,λy c' e=>?_,I.free,I.freeC,λp hp=>?_,l ⟨oc,a4,I.freeC x c hc⟩ f,by simpa using I.len⟩ ⟨c,f,.inr hc⟩
  ·exact(f.2 b (D5 (E1 (B5 e) (I.ok.cab x c a1 hc)))).trans (I.base.keep b o e n hb t)
  ·obtain⟨sl,g⟩:=I.base.slot b o e n hb t;exact⟨sl,(f.2 b (D5 (E1 (B5 e) (I.ok.cab x c a1 hc)))).trans g⟩
  ·obtain⟨o',g⟩:=I.base.there b o e t;exact⟨o',(f.2 b (D5 (E1 (B5 e) (I.ok.cab x c a1 hc)))).trans g⟩
  ·by_cases hj:j=i
   ·subst hj;rw[hi] at g;cases g;rw[Q4 a3] at e2;cases e2;exact⟨u,r,.inr ⟨.inl hk,c,hc,a7⟩⟩
   ·rw[V9 (J6 hj)] at e2;obtain⟨u',r',q⟩:=hl j y v' g e2 e3;refine⟨u',r',?_⟩;rcases q with q|⟨k,c',e,z'⟩
    ·exact .inl q
    ·refine .inr ⟨k,c',e,z'.sameBut f ?_⟩;rintro rfl;exact hj (qT7 hN g (I.ok.inj _ _ _ e hc▸hi))
  ·by_cases a5:c'=c
   ·subst a5;exact⟨_,a7⟩
   ·obtain⟨w2,z2⟩:=I.cell y c' e;exact⟨w2,z2.sameBut f a5⟩
  ·obtain⟨e,n,ne,nf,d⟩:=I.pin p hp;refine⟨(f.2 p.1 ?_).trans e,n,ne,nf,d⟩;intro q;rw[q,a4] at e;have q':oc=p.2:=B0 e;exact d w' (by rw[<- q'];exact a2)
theorem qDZ {M:Model}{A:Around}{E:Aa1}{i:Nat}{x:Str}{v:V}{u:Value}{Q:Unit->Shared->Prop}(I:Inv X Ab σ H s)(b:X.N.Nodup)(hi:X.N[i]?=some x)(a:Loc X.env.scope x)(r:RelV v u)
  (h:∀s',Inv X Ab (σ.set i (some v)) H s'->Q () s') (c:X.fn x=true\/X.env.scope.names.lookup x=some .local:=by first|exact .inl rfl|exact .inr rfl|assumption):wpAny M A (storeName X.env x u) Q E s:=
 qP2 I b hi a r (λs' d _=>h s' d) c
theorem Inv.call' {s':Shared}{ch:List Addr}(I:Inv X Ab σ H s)(g:s'.os=s.os)(u:Un (frs X.stack) ch H H' s.heap s'.heap)(a:HOk X.prog X.w H' s'.heap)(h:B69 s'.gens)
  (d:∀b∈ch,(b∈X.ex\/X.s₀.heap.objs.size<=b)/\b≠X.env.locals/\(∀x c,X.env.cells.lookup x=some c->c≠b)/\∀p∈X.pn++Ab,p.1≠b):Inv X Ab σ H' s':=by
 obtain⟨i,g',d',t',f⟩:=s';have e:f=s.os:=g;subst e;exact I.call (g':=g') (t':=t') (d':=d') u a h d
end
abbrev XK:=Value->Option Addr->Hp->Prop
abbrev St:=List (Option V)
abbrev VK:=V->Hp->Prop
abbrev TE:=St->Hp->VK->Prop
abbrev TT:=St->Hp->(Bool->Hp->Prop)->Prop
abbrev TA:=St->Hp->(List V->Hp->Prop)->Prop
structure Ends where
 nx:St->Hp->Prop
 rt:VK
 bk:St->Hp->Prop:=λ_ _=>False
 ct:St->Hp->Prop:=λ_ _=>False
abbrev TS:=Ends->St->Hp->Prop
def EP (X:Cx)(Ab:Aa2)(σ:St)(Q:VK)(u:Value)(s':Shared):Prop:=∃v H',Inv X Ab σ H' s'/\RelV v u/\Q v H'
def TP (X:Cx)(Ab:Aa2)(σ:St)(Q:Bool->Hp->Prop)(b:Bool)(s':Shared):Prop:=∃H',Inv X Ab σ H' s'/\Q b H'
def AP (X:Cx)(Ab:Aa2)(σ:St)(Q:List V->Hp->Prop)(us:List Value)(s':Shared):Prop:=∃vs H',Inv X Ab σ H' s'/\Vals vs us/\Q vs H'
def SP (X:Cx)(Ab:Aa2)(D:Ends)(f:Flow)(s':Shared):Prop:=
 match f with
 |.next=>∃σ' H',Inv X Ab σ' H' s'/\D.nx σ' H'
 |.brk=>∃σ' H',Inv X Ab σ' H' s'/\D.bk σ' H'
 |.cont=>∃σ' H',Inv X Ab σ' H' s'/\D.ct σ' H'
 |.ret u=>∃v σ' H',Inv X Ab σ' H' s'/\RelV v u/\D.rt v H'
def PE (X:Cx)(e:Expr)(t:TE):Prop:=
 ∀(Ab:Aa2) (s:Shared) (σ:St) (H:Hp) (Q:VK),Inv X Ab σ H s->t σ H Q->wpAny (model X.prog X.w) X.A (eval e X.env) (EP X Ab σ Q) X.xe s
def PT (X:Cx)(e:Expr)(t:TT):Prop:=
 ∀(Ab:Aa2) (s:Shared) (σ:St) (H:Hp) (Q:Bool->Hp->Prop),Inv X Ab σ H s->t σ H Q->wpAny (model X.prog X.w) X.A (isTrue e X.env (eval e X.env)) (TP X Ab σ Q) X.xe s
def PW (X:Cx)(e:Expr)(t:TT):Prop:=
 ∀(whole:Sem Value) (Ab:Aa2) (s:Shared) (σ:St) (H:Hp) (Q:Bool->Hp->Prop),Inv X Ab σ H s->t σ H Q->wpAny (model X.prog X.w) X.A (isTrue e X.env whole) (TP X Ab σ Q) X.xe s
theorem PW.pt {X:Cx}{e:Expr}{t:TT}(h:PW X e t):PT X e t:=h _
def PA (X:Cx)(es:List Expr)(t:TA):Prop:=
 ∀(pos:Pos) (Ab:Aa2) (s:Shared) (σ:St) (H:Hp) (Q:List V->Hp->Prop),Inv X Ab σ H s->t σ H Q->wpAny (model X.prog X.w) X.A (spliced (backTo pos (B17 es X.env))) (AP X Ab σ Q) X.xe s
def PS (X:Cx)(st:Stmt)(t:TS):Prop:=
 ∀(Ab:Aa2) (s:Shared) (σ:St) (H:Hp) (D:Ends),Inv X Ab σ H s->t D σ H->wpAny (model X.prog X.w) X.A (exec st X.env) (SP X Ab D) X.xe s
def PSs (X:Cx)(st:List Stmt)(t:TS):Prop:=
 ∀(Ab:Aa2) (s:Shared) (σ:St) (H:Hp) (D:Ends),Inv X Ab σ H s->t D σ H->wpAny (model X.prog X.w) X.A (execs st X.env) (SP X Ab D) X.xe s
theorem thn {α:Type}{t:Sem α}{Q Q':α->Shared->Prop}{M:Model}{A:Around}{E:Aa1}{s:Shared}(h:wpAny M A t Q E s)(b:∀a s,Q a s->Q' a s):wpAny M A t Q' E s:=B18 h b λ_ _ x=>x
section
variable{X:Cx}
theorem bin {a b:Expr}{c d:TE}(e:PE X a c)(i:PE X b d){Ab:Aa2}{s:Shared}{σ:St}{H:Hp}{R:V->V->Hp->Prop}(I:Inv X Ab σ H s)(h:c σ H λx H1=>d σ H1 λy H2=>R x y H2)
  {α:Type} {Q:α->Shared->Prop} {f:Value->Value->Sem α}
  (g:∀v u s2 x y H2,Inv X Ab σ H2 s2->RelV x v->RelV y u->R x y H2->wpAny (model X.prog X.w) X.A (f v u) Q X.xe s2):
  wpAny (model X.prog X.w) X.A (eval a X.env) (λv s₁=>wpAny (model X.prog X.w) X.A (eval b X.env) (λu s₂=>wpAny (model X.prog X.w) X.A (f v u) Q X.xe s₂) X.xe s₁) X.xe s:=by
 refine thn (e Ab s σ H _ I h) λv s1 ⟨x,H1,I1,r1,q1⟩=>?_;refine thn (i Ab s1 σ H1 _ I1 q1) λu s2 ⟨y,H2,I2,r2,q2⟩=>?_;exact g v u s2 x y H2 I2 r1 r2 q2
def tVar (i:Nat):TE:=λσ H Q=>∃v,σ[i]?=some (some v)/\Q v H
def tC (v:V):TE:=λ_ H Q=>Q v H
theorem qf4 {i:Nat} {x:Str} {pos:Pos} (n:X.N[i]?=some x) (o:Vis X.env.scope x) (d:(x==("__debug__" : Str))=false:=by decide) (hcd:(x==("__classdict__" : Str))=false:=by decide):PE X (.Name x pos) (tVar i):=by
 intro p s σ H Q I h;obtain⟨v,e,h⟩:=h;obtain⟨m,j,g⟩:=I.loc;obtain⟨u,r,l⟩:=g i x v n e o;have b:EP X p σ Q u s:=⟨v,H,I,r,h⟩;rcases l with⟨hk,k⟩|⟨hk,c,f,a⟩
 ·exact wpAny_Name (wpAny_loadName_local I.ok.kind hk j k b) d
 ·rcases hk with hk|hk
  ·exact wpAny_Name (wpAny_loadName_cell I.ok.kind hk f a b) d
  ·exact wpAny_Name (wpAny_loadName_free I.ok.kind hk f a b hcd) d
theorem qA8 {i j pos}:PE X (.Constant (.int i) j pos) (tC (.int i)):=λ_ _ _ H _ I h=>wpAny_Constant_int ⟨.int i,H,I.tok _,⟨_,rfl⟩,h⟩
theorem qEJ {b j pos}:PE X (.Constant (.bool b) j pos) (tC (.bl b)):=λ_ _ _ H _ I h=>Constant_bool ⟨.bl b,H,I,rfl,h⟩
theorem qJ5 {j pos}:PE X (.Constant .none j pos) (tC .non):=λ_ _ _ H _ I h=>Constant_none ⟨.non,H,I,rfl,h⟩
theorem qC0 {x j pos}:PE X (.Constant (.str x) j pos) (tC (.str x)):=λ_ _ _ H _ I h=>Calls.Constant_str ⟨.str x,H,I.tok _,⟨_,rfl⟩,h⟩
def Gl (X:Cx)(x:Str):Prop:=X.env.kindOf x=some .globalImplicit
theorem qO1 {E:Aa1}{Ab:Aa2}{s:Shared}{σ:St}{H:Hp}{x:Str}{u:Value}{pos:Pos}{Q:Aa1}(I:Inv X Ab σ H s)(a:Gl X x)(b:X.mg x=some u)(h:Q u s)
  (c:(x==("__debug__" : Str))=false:=by decide):wpAny (model X.prog X.w) X.A (eval (.Name x pos) X.env) Q E s:=
 Calls.Name_function_global I.ok.kind a (Calls.loadGlobal_global (by rw[I.ok.glob];exact I.mod.glob.keeps I.bk) b h) c
theorem qI1 {E:Aa1}{Ab:Aa2}{s:Shared}{σ:St}{H:Hp}{x:Str}{u:Value}{pos:Pos}{Q:Aa1}(I:Inv X Ab σ H s)(f:Gl X x)(b:X.mg x=none)(e:B19 x=some u)(h:Q u s)
  (a:x ≠ "__name__":=by decide) (c:(x==("__debug__" : Str))=false:=by decide):wpAny (model X.prog X.w) X.A (eval (.Name x pos) X.env) Q E s:=by
 obtain⟨i,d,g⟩:=I.mod.blt;exact Calls.Name_function_global I.ok.kind f (Calls.loadGlobal_builtin (by rw[I.ok.glob];exact I.mod.glob.keeps I.bk) b (by rw[I.ok.blt];exact d.keeps I.bk) ((g x a).trans e) h) c
theorem qKP {x:Str} {v:V} {u:Value} {pos:Pos} (e:Gl X x) (b:X.mg x=none) (d:B19 x=some u) (r:RelV v u) (a:x ≠ "__name__":=by decide) (c:(x==("__debug__" : Str))=false:=by decide):PE X (.Name x pos) (tC v):=
 λ_ _ _ H _ I h=>qI1 I e b d ⟨v,H,I,r,h⟩ a c
variable{a b:Expr}{ta tb:TE}{pos:Pos}
def PC (X:Cx)(op:CmpOp)(a b:Expr)(t:TE):Prop:=
 ∀(Ab:Aa2) (s:Shared) (σ:St) (H:Hp) (Q:VK),Inv X Ab σ H s->t σ H Q->
  wpAny (model X.prog X.w) X.A (eval a X.env) (λv s₁=>wpAny (model X.prog X.w) X.A (eval b X.env) (λu s₂=>wpAny (model X.prog X.w) X.A (B30 op v u) (EP X Ab σ Q) X.xe s₂) X.xe s₁) X.xe s
theorem qZM (b:Expr){op:CmpOp}(h:op≠.In)(a:op≠.NotIn):B53 op b=false:=by
 have c:(op==CmpOp.In)=false:=by cases op<;>first|rfl|exact absurd rfl h
 have d:(op==CmpOp.NotIn)=false:=by cases op<;>first|rfl|exact absurd rfl a
 cases b<;>simp[B53,c,d]
def tIsN (ta:TE):TE:=λσ H Q=>ta σ H λx H1=>Q (.bl (decide (x=.non))) H1
def qgH (ta:TE):TE:=λσ H Q=>ta σ H λx H1=>Q (.bl (!decide (x=.non))) H1
theorem RelV.none_iff {x:V}{v:Value}(r:RelV x v):(v==L4)=decide (x=.non):=by
 cases x with
 |non=>cases r;rfl
 |bl _=>cases r;rfl
 |int _=>obtain⟨t,rfl⟩:=r;rfl
 |str _=>obtain⟨t,rfl⟩:=r;rfl
 |byt _=>obtain⟨t,rfl⟩:=r;rfl
 |flt _=>obtain⟨t,rfl⟩:=r;rfl
 |ref _=>cases r;rfl
 |ty _=>cases r;rfl
theorem qWD {j pos'}(c:PE X a ta):PC X .Is a (.Constant .none j pos') (tIsN ta):=by
 intro b s σ H Q I h;refine thn (c b s σ H _ I h) λv s1 ⟨x,H1,I1,r1,q1⟩=>?_;exact Constant_none (is_none_gen ⟨.bl _,H1,I1,by rw[r1.none_iff];rfl,q1⟩)
theorem qRE {j pos'}(c:PE X a ta):PC X .IsNot a (.Constant .none j pos') (qgH ta):=by
 intro b s σ H Q I h;refine thn (c b s σ H _ I h) λv s1 ⟨x,H1,I1,r1,q1⟩=>?_;exact Constant_none (isnot_none_gen ⟨.bl _,H1,I1,by rw[r1.none_iff];rfl,q1⟩)
def tB (t:TE):TT:=λσ H Q=>t σ H λx H1=>∃c,x=.bl c/\Q c H1
theorem qE8 {op:CmpOp}{t:TE}(h:PC X op a b t)(e:B53 op b=false:=by first|exact qZM _ (by decide) (by decide)|rfl):PT X (.Compare a [op] [b] pos) (tB t):=by
 intro i s σ H Q I f;refine wpAny_isTrue_Compare1 (thn (h i s σ H _ I f) λv j e=>thn e λu k g=>thn g λc s3 ⟨x,H1,I1,r1,q1⟩=>?_) e;obtain⟨d,rfl,q⟩:=q1;cases r1;exact B28 ⟨H1,I1,q⟩
theorem qEI {e:Expr}{t:TE}(h:PE X e t)(c:∀whole,isTrue e X.env whole=(do let v <- whole;standAt e.pos;B60 [v] (truthy v)):=by intro _;rfl):PT X e (tB t):=by
 intro a s σ H Q I b;refine isTrue_plain (thn (h a s σ H _ I b) λv s1 ⟨x,H1,I1,r1,q1⟩=>?_) (c _);obtain⟨d,rfl,q⟩:=q1;cases r1;exact B28 ⟨H1,I1,q⟩
variable{tA tB':TT}{rest:List Expr}
def tAnd (t u:TT):TT:=λσ H Q=>t σ H λc H1=>if c=true then u σ H1 Q else Q false H1
def tOr (t u:TT):TT:=λσ H Q=>t σ H λc H1=>if c=true then Q true H1 else u σ H1 Q
def tNot (t:TT):TT:=λσ H Q=>t σ H λc H1=>Q (!c) H1
theorem qcG (d:PT X a tA):PW X (.BoolOp .And [a] pos) tA:=by
 intro f b s σ H Q I h;refine isTrue_and (thn (d b s σ H Q I h) λc g e=>?_);cases c with
 |true=>exact isTrue_and_nil e
 |false=>exact e
theorem qJ4 (d:PT X a tA):PW X (.BoolOp .Or [a] pos) tA:=by
 intro f b s σ H Q I h;refine isTrue_or (thn (d b s σ H Q I h) λc g e=>?_);cases c with
 |false=>exact isTrue_or_nil e
 |true=>exact e
theorem qeU (g:PT X a tA)(e:PW X (.BoolOp .And (b::rest) pos) tB'):PW X (.BoolOp .And (a::b::rest) pos) (tAnd tA tB'):=by
 intro f d s σ H Q I h;refine isTrue_and (thn (g d s σ H _ I h) λc s1 ⟨H1,I1,q1⟩=>?_);cases c with
 |true=>exact e f d s1 σ H1 Q I1 q1
 |false=>exact⟨H1,I1,q1⟩
theorem qLY (g:PT X a tA)(e:PW X (.BoolOp .Or (b::rest) pos) tB'):PW X (.BoolOp .Or (a::b::rest) pos) (tOr tA tB'):=by
 intro f d s σ H Q I h;refine isTrue_or (thn (g d s σ H _ I h) λc s1 ⟨H1,I1,q1⟩=>?_);cases c with
 |true=>exact⟨H1,I1,q1⟩
 |false=>exact e f d s1 σ H1 Q I1 q1
theorem qFM (d:PT X a tA):PT X (.UnaryOp .Not a pos) (tNot tA):=by
 intro b s σ H Q I h;exact isTrue_not (d b s σ H (λc e=>Q (!c) e) I h)
def qgN (ta tb:TE):TE:=λσ H Q=>ta σ H λx H1=>∃c,x=.bl c/\if c=true then tb σ H1 Q else Q (.bl false) H1
def qgG (ta:TE):TE:=λσ H Q=>ta σ H λx H1=>∃c,x=.bl c/\Q (.bl (!c)) H1
theorem qMP {op}{t:TE}(h:PE X a t):PE X (.BoolOp op [a] pos) t:=λb s σ H Q I c=>BoolOp_one (h b s σ H Q I c)
theorem qMQ (f:PE X a ta)(e:PE X (.BoolOp .And (b::rest) pos) tb):PE X (.BoolOp .And (a::b::rest) pos) (qgN ta tb):=by
 intro d s σ H Q I h;refine BoolOp_and (thn (f d s σ H _ I h) λv s1 ⟨x,H1,I1,r1,q1⟩=>?_);obtain⟨c,rfl,q1⟩:=q1;cases r1;refine B28 ?_;cases c with
 |true=>exact e d s1 σ H1 Q I1 q1
 |false=>exact⟨.bl false,H1,I1,rfl,q1⟩
theorem qb0 (d:PE X a ta):PE X (.UnaryOp .Not a pos) (qgG ta):=by
 intro b s σ H Q I h;refine UnaryOp_ (thn (d b s σ H _ I h) λv s1 ⟨x,H1,I1,r1,q1⟩=>?_);obtain⟨c,rfl,q1⟩:=q1;cases r1;exact not_of (B28 ⟨.bl (!c),H1,I1,rfl,q1⟩)
def tIf (t:TT)(ta tb:TE):TE:=λσ H Q=>t σ H λc H1=>if c=true then ta σ H1 Q else tb σ H1 Q
theorem qHU {c:Expr}(g:PT X c tA)(i:PE X a ta)(f:PE X b tb):PE X (.IfExp c a b pos) (tIf tA ta tb):=by
 intro e s σ H Q I h;refine wpAny_IfExp (thn (g e s σ H _ I h) λd s1 ⟨H1,I1,q1⟩=>?_);cases d with
 |true=>exact i e s1 σ H1 Q I1 q1
 |false=>exact f e s1 σ H1 Q I1 q1
end
def SqL (K:Ab1)(H:Hp)(a:Addr)(xs:List V):Prop:=
 Rd H a (.lst xs)\/
  ∃(o:Obj) (its:Array Value) (n:Nat),K.lookup a=some o/\o.cls=.type "list"/\o.dict=none/\o.data=.seq its n/\its.size<=B12/\Vals xs its.toList
def SqT (K:Ab1)(H:Hp)(a:Addr)(xs:List V):Prop:=
 Rd H a (.tup xs)\/
  ∃(o:Obj) (its:Array Value) (n:Nat),K.lookup a=some o/\o.cls=.type "tuple"/\o.data=.seq its n/\its.size<=B12/\Vals xs its.toList
noncomputable def absV:Value->Option V
 |.none=>some .non
 |.bool b=>some (.bl b)
 |.int i _=>some (.int i)
 |.str x _=>some (.str x)
 |.bytes b _=>some (.byt b)
 |.float b _=>some (.flt b)
 |.ref a=>some (.ref a)
 |.type n=>some (.ty n)
 |_=>none
theorem RelV.abs {x:V}{u:Value}(r:RelV x u):absV u=some x:=by
 cases x with
 |non=>cases r;rfl
 |bl _=>cases r;rfl
 |int _=>obtain⟨t,rfl⟩:=r;rfl
 |str _=>obtain⟨t,rfl⟩:=r;rfl
 |byt _=>obtain⟨t,rfl⟩:=r;rfl
 |flt _=>obtain⟨t,rfl⟩:=r;rfl
 |ref _=>cases r;rfl
 |ty _=>cases r;rfl
theorem RelV.inj {x y:V}{u:Value}(r:RelV x u)(q:RelV y u):x=y:=B0 (r.abs.symm.trans q.abs)
theorem Vals.inj:∀{xs ys:List V} {us:List Value},Vals xs us->Vals ys us->xs=ys
 |_,_,_,.nil,.nil=>rfl
 |_,_,_,.cons r t,.cons r' t'=>by rw[r.inj r',Vals.inj t t']
section
variable{X:Cx}{Ab:Aa2}{σ:St}{H:Hp}{s:Shared}{a:Addr}{xs ys:List V}
theorem Ab2 {K:Ab1}(h:H a=some (.lst xs)):SqL K H a xs:=.inl (.inl h)
theorem Ac0 {K:Ab1}(h:H a=some (.tup xs)):SqT K H a xs:=.inl (.inl h)
theorem Inv.list (I:Inv X Ab σ H s)(h:SqL X.K H a xs):∃its:List Value,Vals xs its/\PlainL s.heap a its.toArray/\xs.length<=B12:=by
 rcases h with h|⟨o,its,n,hk,hc,hd,hs,hz,r⟩
 ·obtain⟨z,its,n,r,e⟩:=h.ok I.hok;exact⟨its,r,⟨_,n,e,rfl,rfl,rfl⟩,z⟩
 ·refine⟨its.toList,r,⟨o,n,I.kIn a o hk,hc,hd,by simpa using hs⟩,?_⟩
  have e:=r.length;simp only[E6] at e
  lia
theorem Inv.tuple (I:Inv X Ab σ H s)(h:SqT X.K H a xs):∃its:List Value,Vals xs its/\IsTup s.heap a its.toArray/\xs.length<=B12:=by
 rcases h with h|⟨o,its,n,hk,hc,hs,hz,r⟩
 ·obtain⟨z,its,r,p⟩:=h.ok I.hok;exact⟨its,r,p,z⟩
 ·refine⟨its.toList,r,⟨o,I.kIn a o hk,hc,n,by simpa using hs⟩,?_⟩
  have e:=r.length;simp only[E6] at e
  lia
theorem Inv.list_inj (I:Inv X Ab σ H s)(h:SqL X.K H a xs)(h':SqL X.K H a ys):xs=ys:=by
 obtain⟨c,r,⟨o,n,e,_,_,d⟩,_⟩:=I.list h;obtain⟨b,i,⟨j,k,g,_,_,f⟩,_⟩:=I.list h';rw[e] at g;cases g;rw[d] at f
 injection f with d1 _
 have:c=b:=by simpa using congrArg A54 d1
 subst this;exact r.inj i
theorem Inv.tuple_inj (I:Inv X Ab σ H s)(h:SqT X.K H a xs)(h':SqT X.K H a ys):xs=ys:=by
 obtain⟨c,r,⟨o,e,_,n,d⟩,_⟩:=I.tuple h;obtain⟨b,i,⟨j,g,_,k,f⟩,_⟩:=I.tuple h';rw[e] at g;cases g;rw[d] at f
 injection f with d1 _
 have:c=b:=by simpa using congrArg A54 d1
 subst this;exact r.inj i
end
noncomputable abbrev Cx.wish (X:Cx)(E:Aa1):Cx:={X with xe:=E}
noncomputable abbrev Cx.nox (X:Cx):Cx:=X.wish λ_ _=>False
theorem Cx.Ok.wish {X:Cx}(a:X.Ok)(E:Aa1):(X.wish E).Ok:=
 ⟨a.mod,a.kind,a.glob,a.blt,a.above,a.inj,a.has,a.cab,a.hd,a.frames,a.stk,a.exf,a.bs,a.bsz,a.noex,a.exfs,a.funs,a.frf⟩
theorem Cx.Ok.unwish {X:Cx}{E:Aa1}(a:(X.wish E).Ok):X.Ok:=
 ⟨a.mod,a.kind,a.glob,a.blt,a.above,a.inj,a.has,a.cab,a.hd,a.frames,a.stk,a.exf,a.bs,a.bsz,a.noex,a.exfs,a.funs,a.frf⟩
section
variable{X:Cx}{Ab:Aa2}{σ:St}{H:Hp}{s:Shared}{E:Aa1}
theorem Inv.wish (I:Inv X Ab σ H s)(E:Aa1):Inv (X.wish E) Ab σ H s:=⟨I.ok.wish E,I.os,I.bare,I.base,I.loc,I.cell,I.free,I.freeC,I.pin,I.hok,I.len⟩
theorem Inv.unwish (I:Inv (X.wish E) Ab σ H s):Inv X Ab σ H s:=⟨I.ok.unwish,I.os,I.bare,I.base,I.loc,I.cell,I.free,I.freeC,I.pin,I.hok,I.len⟩
theorem SP.unwish {D:Ends}{f:Flow}{s':Shared}(h:SP (X.wish E) Ab D f s'):SP X Ab D f s':=by
 cases f with
 |next=>obtain⟨σ',a,I,q⟩:=h;exact⟨σ',a,I.unwish,q⟩
 |brk=>obtain⟨σ',a,I,q⟩:=h;exact⟨σ',a,I.unwish,q⟩
 |cont=>obtain⟨σ',a,I,q⟩:=h;exact⟨σ',a,I.unwish,q⟩
 |ret u=>obtain⟨v,σ',a,I,r,q⟩:=h;exact⟨v,σ',a,I.unwish,r,q⟩
theorem PSs.nox {st:List Stmt}{t:TS}(h:PSs X.nox st t):PSs X st t:=λa s σ H D I b=>
 B18 (h a s σ H D (I.wish _) b) (λ_ _ q=>q.unwish) λ_ _ z=>L9 z
end
section
variable{X:Cx}{st:Stmt}{rest:List Stmt}{t u:TS}{e:Expr}{te:TE}{pos:Pos}
def qgI:TS:=λD σ H=>D.nx σ H
def tSeq (t u:TS):TS:=λD σ H=>t {D with nx:=u D} σ H
theorem qAN:PSs X [] qgI:=λ_ _ σ H _ I h=>B55 ⟨σ,H,I,h⟩
theorem qA3 (c:PS X st t)(e:PSs X rest u):PSs X (st::rest) (tSeq t u):=by
 intro a s σ H D I h;refine wpAny_execs_cons (thn (c a s σ H {D with nx:=u D} I h) λf g q=>?_);cases f with
 |next=>
  obtain⟨σ',d,b,q⟩:=q;exact e a g σ' d D b q
 |ret v=>exact q
 |brk=>exact q
 |cont=>exact q
theorem qA5 (b:PS X st t):PSs X [st] t:=by
 intro a s σ H D I h;refine wpAny_execs_cons (thn (b a s σ H D I h) λf c q=>?_);cases f with
 |next=>exact B55 q
 |ret v=>exact q
 |brk=>exact q
 |cont=>exact q
theorem Inv.quiet {Ab:Aa2}{σ:St}{H:Hp}{s:Shared}(I:Inv X Ab σ H s):interactive X.env=false:=by simp[interactive,I.ok.kind]
def qgK (te:TE):TS:=λD σ H=>te σ H λ_ H1=>D.nx σ H1
theorem qEE (c:PE X e te)(a:swapsWith e none pos.line X.env=pure false:=by rfl):PS X (.Expr e pos) (qgK te):=by
 intro b s σ H D I h;exact wpAny_Expr_any (thn (c b s σ H _ I h) λv s1 ⟨x,H1,I1,r1,q1⟩=>⟨σ,H1,I1,q1⟩) I.quiet a
def tRet (te:TE):TS:=λD σ H=>te σ H D.rt
theorem qAC (b:PE X e te):PS X (.Return (some e) pos) (tRet te):=by
 intro a s σ H D I h;exact wpAny_Return_some (thn (b a s σ H _ I h) λv s1 ⟨x,H1,I1,r1,q1⟩=>⟨x,σ,H1,I1,r1,q1⟩)
def tIfS (c:TT)(t u:TS):TS:=λD σ H=>c σ H λb H1=>if b=true then t D σ H1 else u D σ H1
theorem qC8 {c:Expr}{a b:List Stmt}{f:TT}(i:PT X c f)(g:PSs X a t)(j:PSs X b u):PS X (.If c a b pos) (tIfS f t u):=by
 intro e s σ H D I h;refine wpAny_If (thn (i e s σ H _ I h) λd s1 ⟨H1,I1,q1⟩=>?_);cases d with
 |true=>exact g e s1 σ H1 D I1 q1
 |false=>exact j e s1 σ H1 D I1 q1
end
abbrev TG:=V->St->Hp->(St->Hp->Prop)->Prop
abbrev TGs:=List V->St->Hp->(St->Hp->Prop)->Prop
def PG (X:Cx)(target:Expr)(t:TG):Prop:=
 ∀(Ab:Aa2) (s:Shared) (σ:St) (H:Hp) (v:V) (u:Value) (Q:St->Hp->Prop),Inv X Ab σ H s->RelV v u->t v σ H Q->
  wpAny (model X.prog X.w) X.A (assign target X.env u) (λ_ s'=>∃σ' H',Inv X Ab σ' H' s'/\Q σ' H') X.xe s
def PGs (X:Cx)(ts:List Expr)(t:TGs):Prop:=
 ∀(Ab:Aa2) (s:Shared) (σ:St) (H:Hp) (vs:List V) (us:List Value) (Q:St->Hp->Prop),Inv X Ab σ H s->Vals vs us->t vs σ H Q->
  wpAny (model X.prog X.w) X.A (assignInOrder ((B62 ts X.env).map (·.2)) us) (λ_ s'=>∃σ' H',Inv X Ab σ' H' s'/\Q σ' H') X.xe s
abbrev TSet:=V->V->V->Hp->(Hp->Prop)->Prop
def PSet (X:Cx)(t:TSet):Prop:=
 ∀(Ab:Aa2) (s:Shared) (σ:St) (H:Hp) (o i v:V) (ov iv u:Value) (Q:Hp->Prop),Inv X Ab σ H s->RelV o ov->RelV i iv->RelV v u->t o i v H Q->
  wpAny (model X.prog X.w) X.A (setItem ov iv u) (λ_ s'=>∃H',Inv X Ab σ H' s'/\Q H') X.xe s
abbrev TIp:=V->V->Hp->VK->Prop
def PIp (X:Cx)(op:Operator)(t:TIp):Prop:=
 ∀(Ab:Aa2) (s:Shared) (σ:St) (H:Hp) (x y:V) (v u:Value) (Q:VK),Inv X Ab σ H s->RelV x v->RelV y u->t x y H Q->
  wpAny (model X.prog X.w) X.A (inplaceOp op v u) (EP X Ab σ Q) X.xe s
section
variable{X:Cx}{pos:Pos}
def qXK (i:Nat):TG:=λv σ H Q=>Q (σ.set i (some v)) H
theorem qAJ {i:Nat}{x:Str}(d:X.N.Nodup)(hi:X.N[i]?=some x)(a:Loc X.env.scope x)(b:X.fn x=true\/X.env.scope.names.lookup x=some .local:=by first|exact .inl rfl|exact .inr rfl|assumption):PG X (.Name x pos) (qXK i):=by
 intro f s σ H v u Q I r h;exact wpAny_assign_Name (qDZ I d hi a r (λe c=>⟨_,H,c,h⟩) b)
def gNil:TGs:=λvs σ H Q=>vs=[]/\Q σ H
def qhH (t:TG)(u:TGs):TGs:=λvs σ H Q=>∃v r,vs=v::r/\t v σ H λσ' H'=>u r σ' H' Q
theorem qH8:PGs X [] gNil:=by
 intro a s σ H b c Q I r h;obtain⟨e,h⟩:=h;subst e;cases r;exact assignInOrder_nil ⟨σ,H,I,h⟩
theorem qBP {e:Expr}{a:List Expr}{t:TG}{u:TGs}(d:PG X e t)(g:PGs X a u)
  (c:(B62 (e::a) X.env).map (·.2)=assign e X.env::(B62 a X.env).map (·.2):=by rfl):PGs X (e::a) (qhH t u):=by
 intro b s σ H i j Q I r h;obtain⟨v,k,f,h⟩:=h;subst f;cases r with
 |cons r rr=>
  rw[c];refine assignInOrder_cons (thn (d b s σ H _ _ _ I r h) λ_ s1 ⟨σ1,H1,I1,q1⟩=>?_);exact g b s1 σ1 H1 _ _ Q I1 rr q1
def gTup (K:Ab1)(n:Nat)(t:TGs):TG:=λv σ H Q=>∃a xs,v=.ref a/\SqT K H a xs/\xs.length=n/\t xs σ H Q
theorem qKO {c:List Expr}{k:Nat}{t:TGs}{n:Nat}(y:X.calm=true)(h:PGs X c t)
  (w:(B62 c X.env).length=n:=by rfl) (f:(B62 c X.env).findIdx? (·.1)=none:=by rfl):PG X (.Tuple c k pos) (gTup X.K n t):=by
 intro i s σ H v u Q I r d;obtain⟨a,p,z,hq,l,d⟩:=d;subst z;cases r;obtain⟨x,g,j,hz⟩:=I.tuple hq;refine assign_Tuple_tuple (I.ok.hd y) j (by simp[w,<- l,g.length]) f λm q=>?_
 have I1:Inv X i σ H {s with heap:=m}:=I.kept (t':=s.toks) λb o e=>q b o (D5 (B5 e)) e;exact h i _ σ H p _ Q I1 (by simpa using g) d
def gSub (to ti:TE)(t:TSet):TG:=λv σ H Q=>to σ H λo H1=>ti σ H1 λi H2=>t o i v H2 λH3=>Q σ H3
theorem qf3 {o i:Expr}{b c:TE}{t:TSet}(f:PE X o b)(hi:PE X i c)(d:PSet X t)
  (e:∀ v,assign (.Subscript o i pos) X.env v=(do
   let ov <- B60 [v] (eval o X.env)
   let iv <- B60 [v,ov] (eval i X.env)
   standAt pos
   B60 [v,ov,iv] (setItem ov iv v)
   release [v,ov,iv] []):=by intro _;rfl):PG X (.Subscript o i pos) (gSub b c t):=by
 intro a s σ H v u Q I r h;rw[e];refine B10 (B25 (thn (f a s σ H _ I h) λov s1 ⟨x,H1,I1,r1,q1⟩=>?_));refine B10 (B25 (thn (hi a s1 σ H1 _ I1 q1) λiv s2 ⟨y,H2,I2,r2,q2⟩=>?_));refine B10 (B40 (B10 (B25 (thn (d a s2 σ H2 x y v ov iv u _ I2 r1 r2 r q2) λ_ s3 ⟨H3,I3,q3⟩=>?_))));exact wpAny_release ⟨σ,H3,I3,q3⟩
def tAsg (te:TE)(g:TG):TS:=λD σ H=>te σ H λx H1=>g x σ H1 D.nx
theorem qW0 {a e:Expr}{b:TE}{g:TG}(k:PE X e b)(j:PG X a g)(d:swapsWithSole [a] e pos.line X.env=pure false:=by rfl)(f:swappedStores [a] e X.env=pure none:=by rfl)
  (i:(B62 [a] X.env).map (·.2)=[assign a X.env]:=by rfl):PS X (.Assign [a] e pos) (tAsg b g):=by
 intro c s σ H D I h;refine wpAny_Assign_stores (thn (k c s σ H _ I h) λv s1 ⟨x,H1,I1,r1,q1⟩=>?_) d f;rw[i];exact thn (j c s1 σ H1 x v _ I1 r1 q1) λ_ l q=>q
theorem qAF {i:Nat}{x:Str}{e:Expr}{b:TE}{a:Pos}(g:X.N.Nodup)(hi:X.N[i]?=some x)(d:Loc X.env.scope x)(j:PE X e b)(c:swapsWith e (some (.Name x a)) pos.line X.env=pure false:=by rfl)(f:X.fn x=true\/X.env.scope.names.lookup x=some .local:=by first|exact .inl rfl|exact .inr rfl|assumption):
  PS X (.Assign [.Name x a] e pos) (tAsg b (qXK i)):=by
 intro k s σ H D I h;refine wpAny_Assign_Name (thn (j k s σ H _ I h) λv s1 ⟨y,H1,I1,r1,q1⟩=>?_) c;exact qDZ I1 g hi d r1 (λm l=>⟨_,H1,l,q1⟩) f
def tPar (i j:Nat)(ta:TA):TS:=λD σ H=>ta σ H λvs H1=>∃v w,vs=[v,w]/\D.nx ((σ.set i (some v)).set j (some w)) H1
theorem qeV {i j:Nat}{x y:Str}{a b:Expr}{u:TA}{l g m:Pos}{kt k2 pt2}(hc:X.calm=true)(r:X.N.Nodup)(hi:X.N[i]?=some x)(hj:X.N[j]?=some y)(k:i≠j)
  (hx:X.env.scope.names.lookup x=some .local) (hy:X.env.scope.names.lookup y=some .local) (ha:PA X [a,b] u)
  (hw:swappedStores [.Tuple [.Name x l,.Name y g] kt m] (.Tuple [a,b] k2 pt2) X.env=pure (some [x,y]))
  (hs:swapsWithSole [.Tuple [.Name x l,.Name y g] kt m] (.Tuple [a,b] k2 pt2) pos.line X.env=pure false:=by rfl):
  PS X (.Assign [.Tuple [.Name x l,.Name y g] kt m] (.Tuple [a,b] k2 pt2) pos) (tPar i j u):=by
 intro z s σ H D I h;rw[exec_Assign_arm];refine B10 (B40 ?_);rw[hs];refine B10 (B11 ?_);rw[if_neg (by decide)]
 refine B10 (Tuple_ (thn (ha _ z s σ H _ I h) λus s1 ⟨vs,H1,I1,r1,q1⟩=>?_));obtain⟨v,w,e1,q1⟩:=q1;subst e1;obtain⟨c,d,rfl,rv,f⟩:∃c d,us=[c,d]/\RelV v c/\RelV w d:=by
  cases r1 with
  |cons p q=>
   cases q with
   |cons p' q'=>
    cases q';exact⟨_,_,rfl,p,p'⟩
 refine B21 ?_ (by show 2<=B12;decide)
 have I2:Inv X z σ H1 {s1 with heap:=s1.heap.push {cls:=.type "tuple",data:=.seq [c,d].toArray}}:=I1.kept (t':=s1.toks) λb o e=>A5 _ e;rw[hw];refine B10 (B11 ?_);show wpAny (model X.prog X.w) X.A (do rule "assign.swapped-stores";let items <- unpackItems (.ref s1.heap.objs.size) 2 none;assignInOrder [λv=>bindName X.env y v,λv=>bindName X.env x v] items.reverse;pure Flow.next) _ _ _
 refine B10 (B51 (B10 (unpackItems_tuple (items:=#[c,d]) (I.ok.hd hc) (IsTup.new s1.heap _) λh' n=>?_)));have I3:=I2.kept (h':=h') (t':=s1.toks) λb o e=>n b o (D5 (B5 e)) e;show wpAny _ _ (assignInOrder [λv=>bindName X.env y v,λv=>bindName X.env x v] [d,c] >>= λ_=>pure Flow.next) _ _ _;refine B10 (assignInOrder_cons (wpAny_bindName (qDZ I3 r hj (.inl hy) f (λs2 I4=>?_) (.inr hy))));refine assignInOrder_cons (wpAny_bindName (qDZ I4 r hi (.inl hx) rv (λs3 t=>assignInOrder_nil (B11 ?_)) (.inr hx)));rw[List.set_comm _ _ (J6 k)] at t;exact⟨_,H1,t,q1⟩
def tAug (i:Nat)(te:TE)(ti:TIp):TS:=λD σ H=>∃x,σ[i]?=some (some x)/\te σ H λy H1=>ti x y H1 λz H2=>D.nx (σ.set i (some z)) H2
theorem qaX {i:Nat}{x:Str}{e:Expr}{n:TE}{op:Operator}{j:TIp}{b:Pos}(hN:X.N.Nodup)(hi:X.N[i]?=some x)(f:Loc X.env.scope x)(he:PE X e n)(ho:PIp X op j)(p:X.fn x=true\/X.env.scope.names.lookup x=some .local:=by first|exact .inl rfl|exact .inr rfl|assumption):
  PS X (.AugAssign (.Name x b) op e pos) (tAug i n j):=by
 intro d s σ H D I h;obtain⟨v,e1,h⟩:=h;obtain⟨m,hn,hl⟩:=I.loc;have g:Vis X.env.scope x:=by rcases f with k|k;exact .inl k;exact .inr (.inl k)
 obtain⟨u,r,l⟩:=hl i x v hi e1 g;refine wpAny_AugAssign_Name ?_;have o:wpAny (model X.prog X.w) X.A (eval e X.env) (λw s₂=>wpAny (model X.prog X.w) X.A (inplaceOp op u w) (λr s₃=>wpAny (model X.prog X.w) X.A (storeName X.env x r) (λ_=>SP X d D .next) X.xe s₃) X.xe s₂) X.xe s:=by
  refine thn (he d s σ H _ I h) λw s1 ⟨y,H1,I1,r1,q1⟩=>?_;refine thn (ho d s1 σ H1 v y u w _ I1 r r1 q1) λz s2 ⟨zv,H2,I2,r2,q2⟩=>?_;exact qDZ I2 hN hi f r2 (λs3 I3=>⟨_,H2,I3,q2⟩) p
 rcases l with⟨hk,q⟩|⟨hk,c,t,a⟩
 ·exact wpAny_loadName_local I.ok.kind hk hn q o
 ·rcases hk with hk|hk
  ·exact wpAny_loadName_cell I.ok.kind hk t a o
  ·rcases f with k|k
   ·have:X.env.scope.names.lookup x=some .free:=hk;rw[k] at this;cases this
   ·have:X.env.scope.names.lookup x=some .free:=hk;rw[k] at this;cases this
def ipI (f:Int->Int->Int):TIp:=λx y H Q=>∃i j,x=.int i/\y=.int j/\Q (.int (f i j)) H
theorem qb9:PIp X .Add (ipI λi j=>i+j):=by
 intro f s σ H x y v u Q I c a h;obtain⟨i,j,b,d,q⟩:=h;subst b;subst d;obtain⟨t,rfl⟩:=c;obtain⟨e,rfl⟩:=a;exact iadd_int ⟨.int _,H,I.tok _,⟨_,rfl⟩,q⟩
def qeB (c:TT)(tb:TS):TS:=λD σ H=>∃W:Nat->St->Hp->Prop,(∃m,W m σ H)/\∀m σ H,W m σ H->
 c σ H λb H1=>if b=true then∃N:St->Hp->Prop,(∀σ' H',N σ' H'->∃m',m'<m/\W m' σ' H')/\tb {D with nx:=N,ct:=N,bk:=D.nx} σ H1 else D.nx σ H1
theorem qNU {c:Expr}{body:List Stmt}{o:TT}{p:TS}(r:PassesOwn (model X.prog X.w) X.A X.env X.xe)(t:PT X c o)(y:PSs X body p):PS X (.While c body [] pos) (qeB o p):=by
 intro l s σ H D I h;obtain⟨W,⟨x,u⟩,d⟩:=h;refine wpAny_While (codeAny_whileLoop (λn z=>∃σ' H',Inv X l σ' H' z/\W n σ' H') ?_ x ⟨σ,H,I,u⟩);rintro n s1 ⟨σ1,H1,I1,w1⟩;refine B48 r (thn (t l s1 σ1 H1 _ I1 (d n σ1 H1 w1)) λb s2 ⟨H2,I2,q2⟩=>?_);cases b with
 |true=>
  obtain⟨N,q,q2⟩:=q2;rw[if_pos rfl];refine B48 r (thn (y l s2 σ1 H2 _ I2 q2) λf s3 e=>?_);cases f with
  |next=>
   obtain⟨σ3,a,m,j⟩:=e;obtain⟨k,g,i⟩:=q σ3 a j;exact⟨k,g,σ3,a,m,i⟩
  |cont=>
   obtain⟨σ3,a,m,j⟩:=e;obtain⟨k,g,i⟩:=q σ3 a j;exact⟨k,g,σ3,a,m,i⟩
  |brk=>exact e
  |ret v=>exact e
 |false=>
  rw[if_neg B1];exact B55 ⟨σ1,H2,I2,q2⟩
end
structure It where
 go:Nat->Hp->Prop
 yld:Nat->Hp->V->Hp->Prop
 stop:Nat->Hp->Prop
def FpOk (X:Cx)(Ab:Aa2)(H:Hp)(b:Addr):Prop:=
 H b=none/\b≠X.env.locals/\b∉X.fs/\(b∈X.ex\/X.s₀.heap.objs.size<=b)/\(∀x c,X.env.cells.lookup x=some c->c≠b)/\∀p∈X.pn++Ab,p.1≠b
theorem Inv.fpOk {X:Cx}{Ab:Aa2}{σ:St}{H H':Hp}{s:Shared}{b:Addr}(I:Inv X Ab σ H s)(a:s.heap.objs.size<=b)(d:H' b=none):FpOk X Ab H' b:=by
 refine⟨d,U8 (E1 I.lt a),I.nofs a,.inr (E3 I.sz a),λx c e z=>?_,λp f z=>?_⟩
 ·obtain⟨v,q⟩:=I.cell x c e;exact absurd (E1 q.lt (by rw[z];exact a)) (P7 _)
 ·exact absurd (E1 (B5 (I.pin p f).1) (by rw[z];exact a)) (P7 _)
structure Turn (P:B13)(w:World)(K:Ab1)(tg:Expr)(J:It)(fp:List Addr)(it:Addr)(tn:Nat->Heap->Prop):Prop where
 mem:it∈fp
 obj:∀i h,tn i h->∀b∈fp,∃o,h.get? b=some o/\∀v,o.data≠.cell v
 keep:∀i h h',tn i h->(∀b∈fp,∀o,h.get? b=some o->h'.get? b=some o)->tn i h'
 item:∀(X:Cx),X.prog=P->X.w=w->X.K=K->X.calm=true->∀(i:Nat) (Ab:Aa2) (s:Shared) (σ:St) (H:Hp) (E:Aa1),Inv X Ab σ H s->(∀b∈fp,FpOk X Ab H b)->tn i s.heap->J.go i H->
  wpAny (model P w) X.A (pyNext (.ref it)) (fun r s1=>∃ u,r=some u/\
   wpAny (model P w) X.A (B84 tg (.ref it) u) (λ_ s2=>∃x H',Inv X Ab σ H' s2/\RelV x u/\J.yld i H x H'/\tn (i+1) s2.heap/\∀b∈fp,H' b=none) E s1) E s
 done:∀(X:Cx),X.prog=P->X.w=w->X.K=K->X.calm=true->∀(i:Nat) (Ab:Aa2) (s:Shared) (σ:St) (H:Hp) (E:Aa1),Inv X Ab σ H s->(∀b∈fp,FpOk X Ab H b)->tn i s.heap->J.stop i H->
  wpAny (model P w) X.A (pyNext (.ref it)) (λr s1=>r=none/\Inv X Ab σ H s1) E s
 self:∀(A:Around) (i:Nat) (s:Shared) (Q:Aa1) (E:Aa1),tn i s.heap->Q (.ref it) s->wpAny (model P w) A (pyIter (.ref it)) Q E s
abbrev TI:=St->Hp->(It->Hp->Prop)->Prop
def PIE (X:Cx)(Ab:Aa2)(σ:St)(tg:Expr)(R:It->Hp->Prop)(itv:Value)(s2:Shared):Prop:=
 ∃(it:Addr) (fp:List Addr) (tn:Nat->Heap->Prop) (J:It) (H':Hp),itv=.ref it/\Inv X Ab σ H' s2/\Turn X.prog X.w X.K tg J fp it tn/\tn 0 s2.heap/\(∀b∈fp,FpOk X Ab H' b)/\R J H'
def PI (X:Cx)(tg iter:Expr)(wi:TI):Prop:=
 ∀(Ab:Aa2) (s:Shared) (σ:St) (H:Hp) (R:It->Hp->Prop),Inv X Ab σ H s->wi σ H R->
  wpAny (model X.prog X.w) X.A (eval iter X.env) (λv s1=>wpAny (model X.prog X.w) X.A (pyIter v) (PIE X Ab σ tg R) X.xe s1) X.xe s
theorem qRT {M:Model}{A:Around}{E:Aa1}{s:Shared}{c:Expr}{b:Addr}{u:Value}{o:Obj}{n:String}{vs:Array Value}{Q:Unit->Shared->Prop}(g:s.heap.get? b=some o)(f:o.cls=.type n)(e:o.data=.fields vs)
  (d:["enumerate","zip","dict_itemiterator","dict_reverseitemiterator","odict_iterator","itertools.zip_longest","itertools.pairwise"].contains n=false) (a:Q () s):wpAny M A (B84 c (.ref b) u) Q E s:=by
 unfold B84;cases c<;>first
  |exact B11 a
  | (cases u <;> first
    |exact B11 a
    | (refine B10 (wpAny_load g ?_)
       rw[f,e];show wpAny M A (if(["enumerate","zip","dict_itemiterator","dict_reverseitemiterator","odict_iterator","itertools.zip_longest","itertools.pairwise"].contains n&&vs[0]? == some (rawInt _))=true then _ else _) Q E s
       rw[if_neg (by intro h;rw[d,j9] at h;cases h)]
       exact B11 a))
def Itl (K:Ab1)(a:Addr):It:=
 ⟨λi H=>∃xs x,SqL K H a xs/\xs[i]?=some x,λi H x H'=>H'=H/\∀xs,SqL K H a xs->xs[i]?=some x,λi H=>∃xs,SqL K H a xs/\xs.length<=i⟩
def Itt (K:Ab1)(a:Addr):It:=
 ⟨λi H=>∃xs x,SqT K H a xs/\xs[i]?=some x,λi H x H'=>H'=H/\∀xs,SqT K H a xs->xs[i]?=some x,λi H=>∃xs,SqT K H a xs/\xs.length<=i⟩
def Itr (lo:Int)(n:Nat):It:=⟨λi _=>i<n,λi H x H'=>H'=H/\x=.int (lo+i),λi _=>n<=i⟩
theorem qP1 {P:B13}{w:World}{K:Ab1}{tg:Expr}(a g:Addr):Turn P w K tg (Itl K a) [g] g (λi h=>h.IsListIter g a i) where
 mem:=by simp
 obj:=λi h f b j=>by
  have e:b=g:=by simpa using j
  subst e;obtain⟨o,e,c,d⟩:=f;exact⟨o,e,λv z=>by rw[d] at z;cases z⟩
 keep:=λi h n f k=>f.at λo e=>k g (by simp) o e
 item:=by
  intro X r hw hK hc i Ab s σ H E I m f hg;subst r hw hK;obtain⟨xs,x,q,hx⟩:=hg;obtain⟨a0,rv,p,hz⟩:=I.list q;obtain⟨u,hu,ru⟩:=rv.get hx;obtain⟨f0,t,f2,y,f4,f5⟩:=m g (by simp)
  refine B74 f p.isList (x:=u) (by simpa using hu) λn l sb=>?_
  have I1:Inv X Ab σ H {s with heap:=n}:=I.turned (t':=s.toks) (λb o j e=>(sb.2 b j).trans e) f0 t y f4 f5;obtain⟨o,e,c,d⟩:=id l;exact⟨u,rfl,qRT (s:={s with heap:=n}) e c d (by decide) ⟨x,H,I1,ru,⟨rfl,λys hy=>by rw[I.list_inj hy q];exact hx⟩,l,λb j=>(m b j).1⟩⟩
 done:=by
  intro X r hw hK hc i Ab s σ H E I m f hg;subst r hw hK;obtain⟨xs,q,hx⟩:=hg;obtain⟨a0,rv,p,hz⟩:=I.list q;obtain⟨f0,t,f2,y,f4,f5⟩:=m g (by simp)
  have hl:=rv.length;exact B82 (I.ok.hd hc) f p.isList (by simp;lia) λn eb=>⟨rfl,I.turned (t':=s.toks) (λb o j e=>eb b o j e) f0 t y f4 f5⟩
 self:=λ_ _ _ _ _ f h=>wpAny_pyIter_listiter f h
theorem qMG {P:B13}{w:World}{K:Ab1}{tg:Expr}(a g:Addr):Turn P w K tg (Itt K a) [g] g (λi h=>h.IsTupleIter g a i) where
 mem:=by simp
 obj:=λi h f b l=>by
  have e:b=g:=by simpa using l
  subst e;obtain⟨o,e,c,d⟩:=f;exact⟨o,e,λv z=>by rw[d] at z;cases z⟩
 keep:=λi h q f k=>f.at λo e=>k g (by simp) o e
 item:=by
  intro X t hw hK hc i Ab s σ H E I n f hg;subst t hw hK;obtain⟨xs,x,r,hx⟩:=hg;obtain⟨j,rv,p,hz⟩:=I.tuple r;obtain⟨u,hu,ru⟩:=rv.get hx;obtain⟨f0,y,f2,f3,f4,f5⟩:=n g (by simp)
  refine wpAny_pyNext_tuple_item f (show s.heap.IsTuple a j.toArray from p) (x:=u) (by simpa using hu) λq m sb=>?_
  have I1:Inv X Ab σ H {s with heap:=q}:=I.turned (t':=s.toks) (λb o l e=>(sb.2 b l).trans e) f0 y f3 f4 f5;obtain⟨o,e,c,d⟩:=id m;exact⟨u,rfl,qRT (s:={s with heap:=q}) e c d (by decide) ⟨x,H,I1,ru,⟨rfl,λys hy=>by rw[I.tuple_inj hy r];exact hx⟩,m,λb l=>(n b l).1⟩⟩
 done:=by
  intro X t hw hK hc i Ab s σ H E I n f hg;subst t hw hK;obtain⟨xs,r,hx⟩:=hg;obtain⟨j,rv,p,hz⟩:=I.tuple r;obtain⟨f0,y,f2,f3,f4,f5⟩:=n g (by simp)
  have hl:=rv.length;exact wpAny_pyNext_tuple_end (I.ok.hd hc) f (show s.heap.IsTuple a j.toArray from p) (by simp;lia) λq eb=>⟨rfl,I.turned (t':=s.toks) (λb o l e=>eb b o l e) f0 y f3 f4 f5⟩
 self:=λ_ _ _ _ _ f h=>wpAny_pyIter_tupleiter f h
theorem qU1 {P:B13}{w:World}{K:Ab1}{tg:Expr}(c:Addr)(lo:Int)(n:Nat):Turn P w K tg (Itr lo n) [c] c (λi h=>IsRangeIter h c (lo+(i:Nat)*1) ((n:Int)-(i:Nat)) 1) where
 mem:=by simp
 obj:=λi h a b d=>by
  have e:b=c:=by simpa using d
  subst e;exact⟨_,a,λv z=>by
   have z':A18 _=A73 v:=z;cases z'⟩
 keep:=λi h j a k=>k c (by simp) _ a
 item:=by
  intro X l x y p i Ab s σ H E I g a hg;subst l x y;obtain⟨r,m,f2,q,f4,u⟩:=g c (by simp)
  have W:=Walks.range (prog:=X.prog) (w:=X.w) (I.ok.hd p) c lo 1 n;refine W.item i s _ _ hg a λv j tk hv f kk=>?_;obtain⟨t,rfl⟩:=hv;have I1:Inv X Ab σ H {s with heap:=j,toks:=tk}:=I.turned (λb o d e=>kk b o (by simpa using d) e) r m q f4 u
  refine⟨_,rfl,qRT (s:={s with heap:=j,toks:=tk}) (n:="range_iterator") f rfl rfl (by decide) ⟨.int (lo+i),H,I1,⟨t,?_⟩,⟨rfl,rfl⟩,f,λb d=>(g b d).1⟩⟩
  rw[Int.mul_one]
 done:=by
  intro X l x y p i Ab s σ H E I g a hg;subst l x y;obtain⟨r,m,f2,q,f4,u⟩:=g c (by simp)
  exact wpAny_pyNext_range_end (I.ok.hd p) a (by have:n<=i:=hg;lia) λj eb=>⟨rfl,I.turned (t':=s.toks) (λb o d e=>eb b o d e) r m q f4 u⟩
 self:=λ_ _ _ _ _ a h=>wpAny_pyIter_rangeiter a h
section
variable{X:Cx}{tg:Expr}
def qhF (K:Ab1)(tl:TE):TI:=λσ H R=>tl σ H λx H1=>∃a,x=.ref a/\(∃xs,SqL K H1 a xs)/\R (Itl K a) H1
def iTup (K:Ab1)(tl:TE):TI:=λσ H R=>tl σ H λx H1=>∃a,x=.ref a/\(∃xs,SqT K H1 a xs)/\R (Itt K a) H1
theorem qBO {l:Expr}{c:TE}(d:PE X l c):PI X tg l (qhF X.K c):=by
 intro i s σ H R I h;refine thn (d i s σ H _ I h) λv s1 ⟨x,H1,I1,r1,q1⟩=>?_;obtain⟨a,e,⟨k,f⟩,q⟩:=q1;subst e;cases r1;obtain⟨g,m,p,n⟩:=I1.list f;refine B37 p.isList ?_;refine⟨s1.heap.objs.size,[s1.heap.objs.size],_,_,H1,rfl,I1.kept (t':=s1.toks) λb o e=>A5 _ e,qP1 a _,⟨_,B3 _ rfl,rfl,rfl⟩,λb j=>?_,q⟩;have e:b=s1.heap.objs.size:=by simpa using j
 subst e;exact I1.fpOk (A7 _) (I1.hok.fresh (A7 _))
theorem qE9 {l:Expr}{d:TE}(f:PE X l d):PI X tg l (iTup X.K d):=by
 intro i s σ H R I h;refine thn (f i s σ H _ I h) λv s1 ⟨x,H1,I1,r1,q1⟩=>?_;obtain⟨a,e,⟨k,g⟩,q⟩:=q1;subst e;cases r1;obtain⟨c,m,p,n⟩:=I1.tuple g;refine wpAny_pyIter_tuple (show s1.heap.IsTuple a c.toArray from p) ?_;refine⟨s1.heap.objs.size,[s1.heap.objs.size],_,_,H1,rfl,I1.kept (t':=s1.toks) λb o e=>A5 _ e,qMG a _,⟨_,B3 _ rfl,rfl,rfl⟩,λb j=>?_,q⟩;have e:b=s1.heap.objs.size:=by simpa using j
 subst e;exact I1.fpOk (A7 _) (I1.hok.fresh (A7 _))
theorem range_it {Ab:Aa2}{σ:St}{H:Hp}{s:Shared}{R:It->Hp->Prop}{E:Aa1}{lo hi:Int}{t u v:Tok}{tk:Nat}(I:Inv X Ab σ H s)(d : -(2^62)<=lo)(g:lo<2^62)(h : -(2^62)<=hi)(c:hi<2^62)
  (q:R (Itr lo (hi-lo).toNat) H):wpAny (model X.prog X.w) X.A (pyIter (.ref s.heap.objs.size)) (PIE X Ab σ tg R) E {s with heap:=s.heap.push {cls:=.type "range",data:=.fields #[.int lo t,.int hi u,.int 1 v]},toks:=tk}:=by
 refine wpAny_pyIter_range (B03 ..) (small_one d g h c) ?_;have a:Inv X Ab σ H {s with heap:=s.heap.push {cls:=.type "range",data:=.fields #[.int lo t,.int hi u,.int 1 v]},toks:=tk}:=I.kept λb o e=>A5 _ e;refine⟨(s.heap.push {cls:=.type "range",data:=.fields #[.int lo t,.int hi u,.int 1 v]}).objs.size,[(s.heap.push {cls:=.type "range",data:=.fields #[.int lo t,.int hi u,.int 1 v]}).objs.size],_,_,H,rfl,
  a.kept (t':=tk) λb o e=>A5 _ e,qU1 _ lo (hi-lo).toNat,?_,λb i=>?_,q⟩
 ·have f:lo+((0:Nat):Int)*1=lo:=by simp
  have j:(((hi-lo).toNat:Nat):Int)-((0:Nat):Int)=P8 lo hi 1:=by rw[rangeSize_one];split<;>lia
  show IsRangeIter _ _ (lo+((0:Nat):Int)*1) ((((hi-lo).toNat:Nat):Int)-((0:Nat):Int)) 1;rw[f,j];exact B3 _ rfl
 ·have e:b=(s.heap.push {cls:=.type "range",data:=.fields #[.int lo t,.int hi u,.int 1 v]}).objs.size:=by simpa using i
  subst e;exact a.fpOk (A7 _) (a.hok.fresh (A7 _))
def qhE (ta:TA):TI:=λσ H R=>ta σ H λvs H1=>∃j:Int,vs=[.int j]/\-(2^62)<=j/\j<2^62/\R (Itr 0 j.toNat) H1
theorem qD1 {a:Expr} {b:TA} {p pos:Pos} (g:Gl X "range") (f:X.mg "range" = none) (d:PA X [a] b) (c:B17 [a] X.env=[(false,eval a X.env)]:=by rfl):PI X tg (.Call (.Name "range" p) [a] [] pos) (qhE b):=by
 intro k s σ H R I h;refine Call_ (qI1 I g f boot_range (K3 (thn (d pos k s σ H _ I h) λus s1 ⟨vs,H1,I1,r1,q1⟩=>?_) c rfl));obtain⟨j,e,q1,i,q⟩:=q1;subst e;cases r1 with
 |cons r rr=>
  cases rr;obtain⟨t,rfl⟩:=r;exact call_range_1 (range_it I1 (by lia) (by lia) q1 i (by simpa using q))
def tFor (wi:TI)(g:TG)(tb:TS):TS:=λD σ H=>wi σ H λJ H1=>∃W:Nat->Nat->St->Hp->Prop,(∃m,W 0 m σ H1)/\∀i m σ H,W i m σ H->
 (J.stop i H/\D.nx σ H)\/(J.go i H/\∃N:St->Hp->Prop,(∀σ' H',N σ' H'->∃m',m'<m/\W (i+1) m' σ' H')/\∀x H',J.yld i H x H'->g x σ H' λσ2 H2=>tb {D with nx:=N,ct:=N,bk:=D.nx} σ2 H2)
noncomputable def qPI (fp:List Addr)(h:Heap):Aa2:=fp.filterMap λb=>(h.get? b).map λo=>(b,o)
theorem qGG {a:List Addr}{h:Heap}{b:Addr}{o:Obj}(c:b∈a)(e:h.get? b=some o):(b,o)∈qPI a h:=X8.mpr ⟨b,c,by rw[e];rfl⟩
theorem qWO {a:List Addr}{h:Heap}{p:Addr×Obj}(f:p∈qPI a h):p.1∈a/\h.get? p.1=some p.2:=by
 obtain⟨b,c,e⟩:=X8.mp f;cases q:h.get? b with
 |none=>rw[q] at e;cases e
 |some o=>
  rw[q] at e;have d:(b,o)=p:=B0 e;subst d;exact⟨c,q⟩
theorem Inv.pinned {Ab:Aa2}{σ:St}{H:Hp}{s:Shared}{a:List Addr}(I:Inv X Ab σ H s)(h:∀b∈a,FpOk X Ab H b)(k:∀b∈a,∃o,s.heap.get? b=some o/\∀v,o.data≠.cell v):Inv X (Ab++qPI a s.heap) σ H s:=
 I.pins_of λp j=>(B4.mp j).elim (λz=>I.pin p (G5 _ z)) λz=>by
  obtain⟨f,e⟩:=qWO z;obtain⟨i,g,l,_⟩:=h p.1 f;obtain⟨o,c,d⟩:=k p.1 f;rw[e] at c;cases c;exact⟨e,i,g,l,d⟩
theorem Inv.unpinned {Ab a:Aa2}{σ:St}{H:Hp}{s:Shared}(I:Inv X (Ab++a) σ H s):Inv X Ab σ H s:=I.pins_of λp b=>I.pin p (G5 _ (R9 _ b))
theorem qB9 {c:Expr}{body:List Stmt}{wi:TI}{g:TG}{tb:TS}{pos:Pos}(hp:PassesOwn (model X.prog X.w) X.A X.env X.xe)(hc:X.calm=true)(hi:PI X tg c wi)(hg:PG X tg g)(j:PSs X body tb)
  (hs:∀x,B72 c X.env x=pure x:=by intro _;rfl):PS X (.For tg c body [] pos) (tFor wi g tb):=by
 intro q s σ H D I h;refine wpAny_For (thn (hi q s σ H _ I h) λv s1 h1=>thn h1 λa3 s2 h2=>?_) hs;obtain⟨it,fp,tn,J,H2,e,I2,T,a1,f2,W,⟨m0,w0⟩,z⟩:=h2;subst e
 -- what stays true of the iterator's objects through the loop
 have k:∀{H':Hp},(∀b∈fp,H' b=none)->∀b∈fp,FpOk X q H' b:=λhn b j=>⟨hn b j,(f2 b j).2⟩;refine codeAny_forLoop_any (λn s'=>∃i σ' H',Inv X q σ' H' s'/\tn i s'.heap/\(∀b∈fp,H' b=none)/\W i n σ' H') ?_ m0 ⟨0,σ,H2,I2,a1,λb j=>(f2 b j).1,w0⟩;rintro n s3 ⟨i,σ3,H3,I3,st3,fr3,w3⟩;rcases z i n σ3 H3 w3 with⟨a0,qn⟩|⟨go,N,hN,t⟩
 ·refine B48 hp (thn (T.done X rfl rfl rfl hc i q s3 σ3 H3 X.xe I3 (k fr3) st3 a0) λr s4 ⟨hr,I4⟩=>?_);subst hr;exact B55 ⟨σ3,H3,I4,qn⟩
 ·refine B48 hp (thn (T.item X rfl rfl rfl hc i q s3 σ3 H3 X.xe I3 (k fr3) st3 go) λr s4 ⟨u,hr,h4⟩=>?_);subst hr;refine B48 hp (thn h4 λ_ s5 ⟨x,H5,I5,r5,y5,st5,fr5⟩=>?_);have a2:=I5.pinned (k fr5) (T.obj _ _ st5);refine B48 hp (thn (hg _ s5 σ3 H5 x u _ a2 r5 (t x H5 y5)) λ_ s6 ⟨σ6,H6,I6,q6⟩=>?_);refine B48 hp (thn (j _ s6 σ6 H6 _ I6 q6) λf s7 p=>?_);have a:∀{σ7:St} {H7:Hp},Inv X (q++qPI fp s5.heap) σ7 H7 s7->N σ7 H7->∃m,m<n/\∃i σ' H',Inv X q σ' H' s7/\tn i s7.heap/\(∀b∈fp,H' b=none)/\W i m σ' H':=λ{σ7 H7} l y=>by
   obtain⟨m',hm,w7⟩:=hN σ7 H7 y;refine⟨m',hm,i+1,σ7,H7,l.unpinned,T.keep _ _ _ st5 λb j o e=>(l.pin (b,o) (G5 _ (G5 _ (qGG j e)))).1,λb j=>?_,w7⟩;obtain⟨o,e,d⟩:=T.obj _ _ st5 b j;exact(l.pin (b,o) (G5 _ (G5 _ (qGG j e)))).2.1
  cases f with
  |next=>obtain⟨σ7,H7,l,y⟩:=p;exact a l y
  |cont=>obtain⟨σ7,H7,l,y⟩:=p;exact a l y
  |brk=>obtain⟨σ7,H7,l,p⟩:=p;exact⟨σ7,H7,l.unpinned,p⟩
  |ret v=>obtain⟨x7,σ7,H7,l,r7,p⟩:=p;exact⟨x7,σ7,H7,l.unpinned,r7,p⟩
end
abbrev ForG (I:It)(g:TG)(tb:TS)(D:Ends)(σ:St)(H:Hp):Prop:=∃W:Nat->Nat->St->Hp->Prop,(∃m,W 0 m σ H)/\∀i m σ H,W i m σ H->(I.stop i H/\D.nx σ H)\/(I.go i H/\∃N:St->Hp->Prop,(∀σ' H',N σ' H'->∃m',m'<m/\W (i+1) m' σ' H')/\∀x H',I.yld i H x H'->g x σ H' λσ2 H2=>tb {D with nx:=N,ct:=N,bk:=D.nx} σ2 H2)
theorem qC4 {K:Ab1}{a:Addr}{xs:List V}{g:TG}{c:TS}{D:Ends}{σ:St}{H:Hp}(Pv:Nat->St->Hp->Prop)(l:Pv 0 σ H)(d:∀i σ H,i<=xs.length->Pv i σ H->SqL K H a xs)
  (f:∀i x σ H,xs[i]?=some x->Pv i σ H->g x σ H λσ2 H2=>c {D with nx:=Pv (i+1),ct:=Pv (i+1),bk:=D.nx} σ2 H2) (h:∀σ H,Pv xs.length σ H->D.nx σ H):
  ForG (Itl K a) g c D σ H:=by
 refine⟨λi m σ H=>m=xs.length-i/\i<=xs.length/\Pv i σ H,⟨xs.length,by simp,E7 _,l⟩,?_⟩
 rintro i m σ H ⟨rfl,hi,p⟩;have q:=d i σ H hi p;by_cases b:i<xs.length
 ·refine .inr ⟨⟨xs,xs[i],q,by simp[b]⟩,Pv (i+1),λσ' j k=>⟨xs.length-(i+1),by lia,rfl,b,k⟩,λx j y=>?_⟩
  obtain⟨e,y⟩:=y;subst e;exact f i x σ _ (y xs q) p
 ·have e:i=xs.length:=by lia
  subst e;exact .inl ⟨⟨xs,q,A7 _⟩,h σ H p⟩
theorem qHE {K:Ab1}{a:Addr}{xs:List V}{g:TG}{c:TS}{D:Ends}{σ:St}{H:Hp}(Pv:Nat->St->Hp->Prop)(l:Pv 0 σ H)(d:∀i σ H,i<=xs.length->Pv i σ H->SqT K H a xs)
  (f:∀i x σ H,xs[i]?=some x->Pv i σ H->g x σ H λσ2 H2=>c {D with nx:=Pv (i+1),ct:=Pv (i+1),bk:=D.nx} σ2 H2) (h:∀σ H,Pv xs.length σ H->D.nx σ H):
  ForG (Itt K a) g c D σ H:=by
 refine⟨λi m σ H=>m=xs.length-i/\i<=xs.length/\Pv i σ H,⟨xs.length,by simp,E7 _,l⟩,?_⟩
 rintro i m σ H ⟨rfl,hi,p⟩;have q:=d i σ H hi p;by_cases b:i<xs.length
 ·refine .inr ⟨⟨xs,xs[i],q,by simp[b]⟩,Pv (i+1),λσ' j k=>⟨xs.length-(i+1),by lia,rfl,b,k⟩,λx j y=>?_⟩
  obtain⟨e,y⟩:=y;subst e;exact f i x σ _ (y xs q) p
 ·have e:i=xs.length:=by lia
  subst e;exact .inl ⟨⟨xs,q,A7 _⟩,h σ H p⟩
theorem qQ6 {lo:Int}{n:Nat}{g:TG}{b:TS}{D:Ends}{σ:St}{H:Hp}(Pv:Nat->St->Hp->Prop)(j:Pv 0 σ H)
  (c:∀i σ H,i<n->Pv i σ H->g (.int (lo+i)) σ H λσ2 H2=>b {D with nx:=Pv (i+1),ct:=Pv (i+1),bk:=D.nx} σ2 H2) (d:∀σ H,Pv n σ H->D.nx σ H):
  ForG (Itr lo n) g b D σ H:=by
 refine⟨λi m σ H=>m=n-i/\i<=n/\Pv i σ H,⟨n,by simp,E7 _,j⟩,?_⟩
 rintro i m σ H ⟨rfl,hi,p⟩;by_cases a:i<n
 ·refine .inr ⟨a,Pv (i+1),λσ' f h=>⟨n-(i+1),by lia,rfl,a,h⟩,λx f y=>?_⟩
  obtain⟨e,y⟩:=y;subst e y;exact c i σ _ a p
 ·have e:i=n:=by lia
  subst e;exact .inl ⟨A7 _,d σ H p⟩
abbrev R2:=V->V->Hp->VK->Prop
def OpR (X:Cx)(f:Value->Value->Sem Value)(r:R2):Prop:=
 ∀(Ab:Aa2) (s:Shared) (σ:St) (H:Hp) (x y:V) (v u:Value) (Q:VK),Inv X Ab σ H s->RelV x v->RelV y u->r x y H Q->
  wpAny (model X.prog X.w) X.A (f v u) (EP X Ab σ Q) X.xe s
def UnR (X:Cx)(f:Value->Sem Value)(r:V->Hp->VK->Prop):Prop:=
 ∀(Ab:Aa2) (s:Shared) (σ:St) (H:Hp) (x:V) (v:Value) (Q:VK),Inv X Ab σ H s->RelV x v->r x H Q->
  wpAny (model X.prog X.w) X.A (f v) (EP X Ab σ Q) X.xe s
def qDX (X:Cx)(f:Value)(r:List V->Hp->VK->Prop):Prop:=
 ∀(Ab:Aa2) (s:Shared) (σ:St) (H:Hp) (xs:List V) (us:List Value) (Q:VK),Inv X Ab σ H s->Vals xs us->r xs H Q->
  wpAny (model X.prog X.w) X.A (call f us) (EP X Ab σ Q) X.xe s
def TruR (X:Cx)(r:V->Hp->(Bool->Hp->Prop)->Prop):Prop:=
 ∀(Ab:Aa2) (s:Shared) (σ:St) (H:Hp) (x:V) (v:Value) (Q:Bool->Hp->Prop),Inv X Ab σ H s->RelV x v->r x H Q->
  wpAny (model X.prog X.w) X.A (truthy v) (TP X Ab σ Q) X.xe s
def tOp (r:R2)(ta tb:TE):TE:=λσ H Q=>ta σ H λx H1=>tb σ H1 λy H2=>r x y H2 Q
def tUn (r:V->Hp->VK->Prop)(ta:TE):TE:=λσ H Q=>ta σ H λx H1=>r x H1 Q
def rI (C:Int->Int->Prop)(g:Int->Int->V):R2:=λx y H Q=>∃i j,x=.int i/\y=.int j/\C i j/\Q (g i j) H
def rI0 (g:Int->Int->V):R2:=λx y H Q=>∃i j,x=.int i/\y=.int j/\Q (g i j) H
def rU (g:Int->V):V->Hp->VK->Prop:=λx H Q=>∃i,x=.int i/\Q (g i) H
section
variable{X:Cx}{a b c:Expr}{ta tb tc:TE}{pos:Pos}
theorem binT (d:PE X a ta)(c:PE X b tb){Ab:Aa2}{s:Shared}{σ:St}{H:Hp}{R:V->V->Hp->Prop}(I:Inv X Ab σ H s)
  (h:ta σ H λx H1=>tb σ H1 λy H2=>R x y H2) {Q:Aa1} {f:Value->Value->Sem Value}
  (e:∀v u s2 x y H2,Inv X Ab σ H2 s2->RelV x v->RelV y u->R x y H2->wpAny (model X.prog X.w) X.A (f v u) Q X.xe s2):
  wpAny (model X.prog X.w) X.A (eval a X.env) (λv s₁=>wpAny (model X.prog X.w) X.A (eval b X.env) (λu s₂=>wpAny (model X.prog X.w) X.A (f v u) Q X.xe s₂) X.xe s₁) X.xe s:=by
 refine thn (d Ab s σ H _ I h) λv s1 ⟨x,H1,I1,r1,q1⟩=>?_;refine thn (c Ab s1 σ H1 _ I1 q1) λu s2 ⟨y,H2,I2,r2,q2⟩=>?_;exact e v u s2 x y H2 I2 r1 r2 q2
theorem qAU {op:Operator}{r:R2}(f:OpR X (B42 op) r)(d:PE X a ta)(k:PE X b tb):PE X (.BinOp a op b pos) (tOp r ta tb):=by
 intro j s σ H Q I h;exact wpAny_BinOp (binT d k I h λv u l x y g c e i q=>f j l σ g x y v u Q c e i q)
theorem qZF {op:UnaryOp}{r:V->Hp->VK->Prop}(c:UnR X (unaryOp op) r)(d:PE X a ta):PE X (.UnaryOp op a pos) (tUn r ta):=by
 intro b s σ H Q I h;exact UnaryOp_ (thn (d b s σ H _ I h) λv s1 ⟨x,H1,I1,r1,q1⟩=>c b s1 σ H1 x v Q I1 r1 q1)
theorem opI {f:Value->Value->Sem Value}{C:Int->Int->Prop}{g:Int->Int->Int}
  (a:∀(i j:Int) (t u:Tok) (s:Shared) (Q:Aa1) (E:Aa1),C i j->Q (.int (g i j) s.toks) {s with toks:=s.toks+1}->wpAny (model X.prog X.w) X.A (f (.int i t) (.int j u)) Q E s):
  OpR X f (rI C λi j=>.int (g i j)):=by
 intro k s σ H x y v u Q I c e h;obtain⟨i,j,rfl,rfl,d,q⟩:=h;obtain⟨t,rfl⟩:=c;obtain⟨b,rfl⟩:=e;exact a i j t b s _ _ d ⟨.int (g i j),H,I.tok _,⟨_,rfl⟩,q⟩
theorem opI0 {f:Value->Value->Sem Value}{g:Int->Int->Int}
  (a:∀(i j:Int) (t u:Tok) (s:Shared) (Q:Aa1) (E:Aa1),Q (.int (g i j) s.toks) {s with toks:=s.toks+1}->wpAny (model X.prog X.w) X.A (f (.int i t) (.int j u)) Q E s):
  OpR X f (rI0 λi j=>.int (g i j)):=by
 intro e s σ H x y v u Q I c d h;obtain⟨i,j,rfl,rfl,q⟩:=h;obtain⟨t,rfl⟩:=c;obtain⟨b,rfl⟩:=d;exact a i j t b s _ _ ⟨.int (g i j),H,I.tok _,⟨_,rfl⟩,q⟩
theorem opB0 {f:Value->Value->Sem Value}{g:Int->Int->Bool}
  (a:∀(i j:Int) (t u:Tok) (s:Shared) (Q:Aa1) (E:Aa1),Q (.bool (g i j)) s->wpAny (model X.prog X.w) X.A (f (.int i t) (.int j u)) Q E s):
  OpR X f (rI0 λi j=>.bl (g i j)):=by
 intro e s σ H x y v u Q I c d h;obtain⟨i,j,rfl,rfl,q⟩:=h;obtain⟨t,rfl⟩:=c;obtain⟨b,rfl⟩:=d;exact a i j t b s _ _ ⟨.bl (g i j),H,I,rfl,q⟩
def CDiv (i j:Int):Prop:=0<j/\j<1073741824
def CPow (i j:Int):Prop:=0<=j/\j<=1000000/\i.natAbs<2^64
def CMul (i j:Int):Prop:=(-(2^64)<i/\i<2^64)\/(-(2^64)<j/\j<2^64)
theorem CMul.ok {i j:Int}(h:CMul i j):IntMulOk i j:=by
 rcases h with⟨b,a⟩|⟨b,a⟩
 ·exact .of_left (intBits_le_64 b a)
 ·exact .of_right (intBits_le_64 b a)
theorem qCA:OpR X (B42 .Add) (rI0 λi j=>.int (i+j)):=opI0 λ_ _ _ _ _ _ _ q=>add_int q
theorem qFD:OpR X (B42 .Sub) (rI0 λi j=>.int (i-j)):=opI0 λ_ _ _ _ _ _ _ q=>sub_int q
theorem qEK:OpR X (B42 .Mult) (rI CMul λi j=>.int (i*j)):=opI λ_ _ _ _ _ _ _ a q=>mul_int q a.ok
theorem qWJ:OpR X (B42 .FloorDiv) (rI CDiv λi j=>.int (i/j)):=opI λi j _ _ _ _ _ a q=>by
 have c:(0:Int)<j:=a.1;have b:j<1073741824:=a.2;exact floordiv_int (by lia) (by rw[e8 i (by lia)];exact q) (.inl (Y4 (by lia)))
theorem qKS:OpR X (B42 .Mod) (rI (λ_ j=>0<j) λi j=>.int (i%j)):=opI λi j _ _ _ _ _ a q=>by
 have b:(0:Int)<j:=a;exact mod_int' (by lia) (by rw[f6 i (by lia)];exact q)
theorem qfA:OpR X (B42 .Pow) (rI CPow λi j=>.int (i^j.toNat)):=opI λ_ _ _ _ _ _ _ a q=>pow_int_small a.1 a.2.1 a.2.2 q
theorem unI {f:Value->Sem Value}{g:Int->Int}
  (a:∀(i:Int) (t:Tok) (s:Shared) (Q:Aa1) (E:Aa1),Q (.int (g i) s.toks) {s with toks:=s.toks+1}->wpAny (model X.prog X.w) X.A (f (.int i t)) Q E s):
  UnR X f (rU λi=>.int (g i)):=by
 intro c s σ H x v Q I b h;obtain⟨i,rfl,q⟩:=h;obtain⟨t,rfl⟩:=b;exact a i t s _ _ ⟨.int (g i),H,I.tok _,⟨_,rfl⟩,q⟩
theorem qSD:UnR X (unaryOp .USub) (rU λi=>.int (-i)):=unI λ_ _ _ _ _ q=>neg_int q
end
noncomputable def scal:V->V->Bool
 |.non,.non=>true|.non,.int _=>true|.int _,.non=>true|.non,.bl _=>true|.bl _,.non=>true|.non,.str _=>true|.str _,.non=>true
 |.int _,.int _=>true|.bl _,.bl _=>true|.str _,.str _=>true|.byt _,.byt _=>true
 |.int _,.str _=>true|.str _,.int _=>true|.bl _,.str _=>true|.str _,.bl _=>true
 |_,_=>false
def rEq:R2:=λx y H Q=>scal x y=true/\Q (.bl (decide (x=y))) H
def rNe:R2:=λx y H Q=>scal x y=true/\Q (.bl (!decide (x=y))) H
theorem qY0 {i j:Int}:decide (V.int i=V.int j)=(i==j):=by
 rw[G6];simp
theorem qbE {i j:Bool}:decide (V.bl i=V.bl j)=(i==j):=by
 rw[G6];simp
theorem qXZ {i j:Str}:decide (V.str i=V.str j)=(i==j):=by
 rw[G6];simp
theorem qY1 {i j:Array UInt8}:decide (V.byt i=V.byt j)=(i.toList==j.toList):=by
 rw[G6];cases i;cases j;simp
section
variable{X:Cx}{a b c:Expr}{ta tb tc:TE}{pos:Pos}
theorem qB7 {Ab:Aa2}{σ:St}{H:Hp}{s:Shared}{Q:VK}{k a:Bool}(I:Inv X Ab σ H s)(q:Q (.bl k) H)(e:k=a):EP X Ab σ Q (.bool a) s:=by
 subst e;exact⟨.bl k,H,I,rfl,q⟩
theorem qIN:OpR X (B30 .Eq) rEq:=by
 intro e s σ H x y v u Q I d a h;obtain⟨c,q⟩:=h;cases x with
 |non=>
  cases d;cases y with
  |non=>cases a;exact PySem.EqNone.eq_none_none (qB7 I q (by simp))
  |bl j=>cases a;exact PySem.EqNone.eq_none_bool (qB7 I q (by simp))
  |int j=>obtain⟨b,rfl⟩:=a;exact PySem.EqNone.eq_none_int (qB7 I q (by simp))
  |str j=>obtain⟨b,rfl⟩:=a;exact PySem.EqNone.eq_none_str (qB7 I q (by simp))
  |_=>exact absurd (show false=true from c) B1
 |bl i=>
  cases d;cases y with
  |non=>cases a;exact PySem.EqNone.eq_bool_none (qB7 I q (by simp))
  |bl j=>cases a;exact eq_bool (qB7 I q qbE)
  |str j=>obtain⟨b,rfl⟩:=a;exact PySem.EqMixed.eq_bool_str (qB7 I q (by simp))
  |_=>exact absurd (show false=true from c) B1
 |int i=>
  obtain⟨t,rfl⟩:=d;cases y with
  |non=>cases a;exact PySem.EqNone.eq_int_none (qB7 I q (by simp))
  |int j=>obtain⟨b,rfl⟩:=a;exact eq_int (qB7 I q qY0)
  |str j=>obtain⟨b,rfl⟩:=a;exact PySem.EqMixed.eq_int_str (qB7 I q (by simp))
  |_=>exact absurd (show false=true from c) B1
 |str i=>
  obtain⟨t,rfl⟩:=d;cases y with
  |non=>cases a;exact PySem.EqNone.eq_str_none (qB7 I q (by simp))
  |bl j=>cases a;exact PySem.EqMixed.eq_str_bool (qB7 I q (by simp))
  |int j=>obtain⟨b,rfl⟩:=a;exact PySem.EqMixed.eq_str_int (qB7 I q (by simp))
  |str j=>obtain⟨b,rfl⟩:=a;exact eq_str (qB7 I q qXZ)
  |_=>exact absurd (show false=true from c) B1
 |byt i=>
  obtain⟨t,rfl⟩:=d;cases y with
  |byt j=>obtain⟨b,rfl⟩:=a;exact PySem.W.eq_bytes (qB7 I q qY1)
  |_=>exact absurd (show false=true from c) B1
 |_=>cases y<;>exact absurd (show false=true from c) B1
theorem qWH:OpR X (B30 .NotEq) rNe:=by
 intro e s σ H x y v u Q I d a h;obtain⟨c,q⟩:=h;cases x with
 |non=>
  cases d;cases y with
  |non=>cases a;exact PySem.EqNone.ne_none_none (qB7 I q (by simp))
  |bl j=>cases a;exact PySem.EqNone.ne_none_bool (qB7 I q (by simp))
  |int j=>obtain⟨b,rfl⟩:=a;exact PySem.EqNone.ne_none_int (qB7 I q (by simp))
  |str j=>obtain⟨b,rfl⟩:=a;exact PySem.EqNone.ne_none_str (qB7 I q (by simp))
  |_=>exact absurd (show false=true from c) B1
 |bl i=>
  cases d;cases y with
  |non=>cases a;exact PySem.EqNone.ne_bool_none (qB7 I q (by simp))
  |bl j=>cases a;exact ne_bool (qB7 I q (congrArg not qbE))
  |str j=>obtain⟨b,rfl⟩:=a;exact PySem.EqMixed.ne_bool_str (qB7 I q (by simp))
  |_=>exact absurd (show false=true from c) B1
 |int i=>
  obtain⟨t,rfl⟩:=d;cases y with
  |non=>cases a;exact PySem.EqNone.ne_int_none (qB7 I q (by simp))
  |int j=>obtain⟨b,rfl⟩:=a;exact ne_int (qB7 I q (congrArg not qY0))
  |str j=>obtain⟨b,rfl⟩:=a;exact PySem.EqMixed.ne_int_str (qB7 I q (by simp))
  |_=>exact absurd (show false=true from c) B1
 |str i=>
  obtain⟨t,rfl⟩:=d;cases y with
  |non=>cases a;exact PySem.EqNone.ne_str_none (qB7 I q (by simp))
  |bl j=>cases a;exact PySem.EqMixed.ne_str_bool (qB7 I q (by simp))
  |int j=>obtain⟨b,rfl⟩:=a;exact PySem.EqMixed.ne_str_int (qB7 I q (by simp))
  |str j=>obtain⟨b,rfl⟩:=a;exact ne_str (qB7 I q (congrArg not qXZ))
  |_=>exact absurd (show false=true from c) B1
 |byt i=>
  obtain⟨t,rfl⟩:=d;cases y with
  |byt j=>obtain⟨b,rfl⟩:=a;exact PySem.W.ne_bytes (qB7 I q (congrArg not qY1))
  |_=>exact absurd (show false=true from c) B1
 |_=>cases y<;>exact absurd (show false=true from c) B1
theorem qcR:OpR X (B30 .Lt) (rI0 λi j=>.bl (decide (i<j))):=opB0 λ_ _ _ _ _ _ _ q=>lt_int q
theorem qcS:OpR X (B30 .LtE) (rI0 λi j=>.bl (decide (i<=j))):=opB0 λ_ _ _ _ _ _ _ q=>le_int q
theorem qWI:OpR X (B30 .Gt) (rI0 λi j=>.bl (decide (j<i))):=opB0 λ_ _ _ _ _ _ _ q=>gt_int q
theorem qfB:OpR X (B30 .GtE) (rI0 λi j=>.bl (decide (j<=i))):=opB0 λ_ _ _ _ _ _ _ q=>ge_int q
theorem qB4 (b:Expr){op:CmpOp}(h:op≠.In:=by decide)(a:op≠.NotIn:=by decide):B53 op b=false:=by
 have c:(op==CmpOp.In)=false:=by cases op<;>first|rfl|exact absurd rfl h
 have d:(op==CmpOp.NotIn)=false:=by cases op<;>first|rfl|exact absurd rfl a
 cases b<;>simp[B53,c,d]
theorem qH9 {op:CmpOp}{r:R2}(g:OpR X (B30 op) r)(d:PE X a ta)(l:PE X b tb)(e:B53 op b=false):PE X (.Compare a [op] [b] pos) (tOp r ta tb):=by
 intro k s σ H Q I h;exact wpAny_Compare1 (binT d l I h λv u m x y i c f j q=>g k m σ i x y v u Q c f j q) e
def qgE (t:TE):TT:=λσ H Q=>t σ H λx H'=>∃k,x=.bl k/\Q k H'
theorem qAS {op:CmpOp}{r:R2}(i:OpR X (B30 op) r)(f:PE X a ta)(j:PE X b tb)(g:B53 op b=false):PT X (.Compare a [op] [b] pos) (qgE (tOp r ta tb)):=by
 intro d s σ H Q I h;refine wpAny_isTrue_Compare1 (thn (f d s σ H _ I h) fun v s1 ⟨x,H1,I1,r1,q1⟩=>thn (j d s1 σ H1 _ I1 q1) fun u s2 ⟨y,H2,I2,r2,q2⟩=>
  thn (i d s2 σ H2 x y v u _ I2 r1 r2 q2) λc s3 ⟨z,H3,I3,r3,k,e,q3⟩=>?_) g
 subst e;cases r3;exact B28 ⟨H3,I3,q3⟩
def qeF (r r':R2)(ta tb tc:TE):TE:=λσ H Q=>ta σ H λx H1=>tb σ H1 λy H2=>r x y H2 λz H3=>∃k,z=.bl k/\
 (if k=true then tc σ H3 λw' H4=>r' y w' H4 Q else Q (.bl false) H3)
theorem qZK {op f:CmpOp}{r j:R2}(o:OpR X (B30 op) r)(i:OpR X (B30 f) j)(l:PE X a ta)(p:PE X b tb)(n:PE X c tc)
  (m:lastMarks [op,f] [b,c]=false:=by with_unfolding_all rfl):PE X (.Compare a [op,f] [b,c] pos) (qeF r j ta tb tc):=by
 intro g s σ H Q I h;refine Compare_chain (thn (l g s σ H _ I h) fun v s1 ⟨x,H1,I1,r1,q1⟩=>chain_link (thn (p g s1 σ H1 _ I1 q1) fun u s2 ⟨y,H2,I2,r2,q2⟩=>
  thn (o g s2 σ H2 x y v u _ I2 r1 r2 q2) λd s3 ⟨z,H3,I3,r3,k,e,q3⟩=>?_)) m
 subst e;cases r3;refine B28 ?_;cases k with
 |false=>exact ite_ff ⟨.bl false,H3,I3,rfl,q3⟩
 |true=>exact ite_tt (chain_last (thn (n g s3 σ H3 _ I3 q3) λw' s4 ⟨z',H4,I4,r4,q4⟩=>i g s4 σ H4 y z' u w' Q I4 r2 r4 q4))
def TruV (K:Ab1)(x:V)(H:Hp)(k:Bool):Prop:=
 match x with
 |.non=>k=false
 |.bl b=>k=b
 |.int i=>k=(i != 0)
 |.str y=>y.length<=B12/\k=((y.length:Int) != 0)
 |.byt y=>y.size<=B12/\k=((y.size:Int) != 0)
 |.ref p=>(∃xs,SqL K H p xs/\k=!xs.isEmpty)\/(∃xs,SqT K H p xs/\k=!xs.isEmpty)\/∃Af,H p=some (.dK Af)/\k=!Af.isEmpty
 |_=>False
theorem qUU {κ:Type}{Af:List (κ×V)}{vs:List (κ×Value)}(r:KV Af vs):(!vs.isEmpty)=!Af.isEmpty:=by
 cases r<;>rfl
theorem qMY {xs:List V}{a:List Value}(r:Vals xs a):(!a.toArray.isEmpty)=!xs.isEmpty:=by
 cases r<;>simp
theorem qPT:(B12:Nat)<2^63:=by rw[B24];decide
theorem qe9:TruR X (λx H Q=>∃k,TruV X.K x H k/\Q k H):=by
 intro Ab s σ H x v Q I d h;obtain⟨k,e,q⟩:=h;have z:=qPT;have hs:B12=16777216:=B24;cases x with
 |non=>
  cases d;have a:k=false:=e;subst a;exact truthy_none ⟨H,I,q⟩
 |bl b=>
  cases d;have a:k=b:=e;subst a;exact B28 ⟨H,I,q⟩
 |int i=>
  obtain⟨t,rfl⟩:=d;have a:k=(i != 0):=e;subst a;exact PySem.P.truthy_int ⟨H,I,q⟩
 |str y=>
  obtain⟨t,rfl⟩:=d;obtain⟨u,a⟩:y.length<=B12/\k=((y.length:Int) != 0):=e;subst a;exact PySem.P.truthy_str (by lia) ⟨H,I.tok _,q⟩
 |byt y=>
  obtain⟨t,rfl⟩:=d;obtain⟨u,a⟩:y.size<=B12/\k=((y.size:Int) != 0):=e;subst a;exact PySem.W.truthy_bytes (by lia) ⟨H,I.tok _,q⟩
 |ref p=>
  cases d;have a:(∃xs,SqL X.K H p xs/\k=!xs.isEmpty)\/(∃xs,SqT X.K H p xs/\k=!xs.isEmpty)\/∃Af,H p=some (.dK Af)/\k=!Af.isEmpty:=e;rcases a with⟨xs,f,a⟩|⟨xs,f,a⟩|⟨Af,f,a⟩
  ·subst a;obtain⟨j,r,l,n⟩:=I.list f;have c:=r.length;exact wpAny_truthy_list l.isList (by simp only[C1];lia) ⟨H,I.tok _,by rw[qMY r];exact q⟩
  ·subst a;obtain⟨j,r,l,n⟩:=I.tuple f;have c:=r.length;exact truthy_tuple l (by simp only[C1];lia) ⟨H,I.tok _,by rw[qMY r];exact q⟩
  ·subst a;obtain⟨n,o,g,r,m⟩:Af.length<=B12/\(p==B32)=false/\∃g,KV Af g/\s.heap.DictOf (qBQ X.prog X.w) p g:=I.hok p _ f;have c:Af.length=g.length:=C6 r;exact wpAny_truthy_dict o m (by lia) ⟨H,I.tok _,by rw[qUU r];exact q⟩
 |_=>exact(show False from e).elim
theorem qZ9 (c:PE X a ta)(d:∀whole,isTrue a X.env whole=(do let v <- whole;standAt a.pos;B60 [v] (truthy v))):
  PT X a (λσ H Q=>ta σ H λx H'=>∃k,TruV X.K x H' k/\Q k H'):=by
 intro b s σ H Q I h;exact isTrue_plain (thn (c b s σ H _ I h) λv s1 ⟨x,H1,I1,r1,q1⟩=>qe9 b s1 σ H1 x v Q I1 r1 q1) (d _)
theorem qFF {x:V}{a:List Value}(r:Vals [x] a):∃u,a=[u]/\RelV x u:=by
 cases r with
 |cons r1 r2=>cases r2;exact⟨_,rfl,r1⟩
theorem qQY {x y:V}{a:List Value}(r:Vals [x,y] a):∃u w',a=[u,w']/\RelV x u/\RelV y w':=by
 cases r with
 |cons r1 r2=>
  cases r2 with
  |cons r3 r4=>cases r4;exact⟨_,_,rfl,r1,r3⟩
theorem qYE (b:X.calm=true):qDX X (.builtin "max") (λxs H Q=>∃i j,xs=[.int i,.int j]/\Q (.int (if j>i then j else i)) H):=by
 intro l s σ H xs f Q I r h;obtain⟨i,j,rfl,q⟩:=h;obtain⟨u,e,rfl,⟨t,rfl⟩,⟨d,rfl⟩⟩:=qQY r;refine max_two_ints (I.ok.hd b) λc g k=>⟨_,H,I.kept k,?_,q⟩;by_cases a:j>i
 ·rw[if_pos a,if_pos a];exact⟨_,rfl⟩
 ·rw[if_neg a,if_neg a];exact⟨_,rfl⟩
theorem qQG (b:X.calm=true):qDX X (.builtin "min") (λxs H Q=>∃i j,xs=[.int i,.int j]/\Q (.int (if j<i then j else i)) H):=by
 intro l s σ H xs f Q I r h;obtain⟨i,j,rfl,q⟩:=h;obtain⟨u,e,rfl,⟨t,rfl⟩,⟨d,rfl⟩⟩:=qQY r;refine min_two_ints (I.ok.hd b) λc g k=>⟨_,H,I.kept k,?_,q⟩;by_cases a:j<i
 ·rw[if_pos a,if_pos a];exact⟨_,rfl⟩
 ·rw[if_neg a,if_neg a];exact⟨_,rfl⟩
theorem qS8:qDX X (.builtin "divmod") (λxs H Q=>∃i j,xs=[.int i,.int j]/\CDiv i j/\∀p,H p=none->Q (.ref p) (Ag H p (.tup [.int (i/j),.int (i%j)]))):=by
 intro l s σ H xs k Q I r h;obtain⟨i,j,rfl,⟨f,g⟩,q⟩:=h;obtain⟨u,d,rfl,⟨t,rfl⟩,⟨c,rfl⟩⟩:=qQY r;refine divmod_int (by lia) ?_ (.inl (Y4 (by lia)))
 rw[e8 i (by lia),f6 i (by lia)]
 have a:H s.heap.objs.size=none:=I.hok.fresh (A7 _);refine⟨.ref s.heap.objs.size,_,?_,rfl,q _ a⟩;refine I.laid (λb o e=>A5 _ e) (A7 _) ⟨by simp only[C5,K4];rw[B24];decide,[.int (i/j) s.toks,.int (i%j) (s.toks+1)],.cons ⟨_,rfl⟩ (.cons ⟨_,rfl⟩ .nil),?_⟩
 exact⟨_,B3 s.heap rfl,rfl,0,rfl⟩
end
structure ObjM (h:Heap)(x dx C:Addr)(mA:Ab0):Prop where
 obj:h.get? x=some (t9 C dx)
 ns:h.Ns1 dx mA
 ne:dx≠x
theorem qWX {h:Heap}{c:Addr}{mA:Ab0}(n:h.Ns1 c mA):∃od,h.get? c=some od/\∀name,A13 name od=some (mA name):=by
 obtain⟨o,d,m,j,g,i,_,f⟩:=n;refine⟨o,j,λname=>?_⟩;have e:=f name;unfold nsFind findBy at e;rw[<- A30] at e;unfold A13;rw[g];dsimp only
 split
 ·rename_i y q
  rw[q] at e;exact congrArg some e
 ·rename_i q
  rw[q] at e;have a:d.toList.any (·.refKey)=false:=by
   rw[List.any_eq_false];intro y l;obtain⟨z,t,b⟩:=i y (Array.mem_toList_iff.mp l);simp[DictEntry.refKey,b]
  have k:¬d.toList.any (·.refKey)=true:=by rw[a];exact B1
  rw[if_neg k];exact congrArg some e
theorem ObjM.look {h:Heap}{x a C:Addr}{mA:Ab0}(I:ObjM h x a C mA):∃od,PySem.W.InstAt h x (t9 C a) C (some od)/\∀name,A13 name od=some (mA name):=
 let⟨od,ho,hl⟩:=qWX I.ns
 ⟨od,⟨I.obj,rfl,rfl,ho⟩,hl⟩
noncomputable def putF (f:Str)(v:V):List (Str×V)->List (Str×V)
 |[]=>[(f,v)]
 |(g,x)::r=>if g=f then(g,v)::r else(g,x)::putF f v r
theorem qKX (f g:Str)(v:V):∀fs:List (Str×V),(putF f v fs).lookup g=if g=f then some v else fs.lookup g
 |[]=>by
  show Z1 g [(f,v)]=_;by_cases h:g=f
  ·have hb:(g==f)=true:=beq_iff_eq.mpr h;simp only[Z1,hb,if_pos h]
  ·have hb:(g==f)=false:=beq_eq_false_iff_ne.mpr h;simp only[Z1,hb,if_neg h]
 |(k,x)::r=>by
  have ih:=qKX f g v r;rw[show putF f v ((k,x)::r)=(if k=f then(k,v)::r else(k,x)::putF f v r) from rfl]
  by_cases hk:k=f
  ·rw[if_pos hk];by_cases h:g=k
   ·have hb:(g==k)=true:=beq_iff_eq.mpr h;simp only[Z1,hb,if_pos (h.trans hk)]
   ·have hb:(g==k)=false:=beq_eq_false_iff_ne.mpr h;simp only[Z1,hb,if_neg (λe:g=f=>h (e.trans hk.symm))]
  ·rw[if_neg hk];by_cases h:g=k
   ·have hb:(g==k)=true:=beq_iff_eq.mpr h;simp only[Z1,hb,if_neg (λe:g=f=>hk (h.symm.trans e))]
   ·have hb:(g==k)=false:=beq_eq_false_iff_ne.mpr h;simp only[Z1,hb];exact ih
theorem qL2 (f:Str)(v:V):∀fs:List (Str×V),f∈(putF f v fs).map (·.1)/\∀g,g∈fs.map (·.1)->g∈(putF f v fs).map (·.1)
 |[]=>⟨by simp[putF],λg h=>by simp at h⟩
 |(k,x)::r=>by
  obtain⟨i1,i2⟩:=qL2 f v r;rw[show putF f v ((k,x)::r)=(if k=f then(k,v)::r else(k,x)::putF f v r) from rfl]
  by_cases hk:k=f
  ·rw[if_pos hk];subst hk;exact⟨by simp,λg h=>by simpa using h⟩
  ·rw[if_neg hk];refine⟨?_,λg h=>?_⟩
   ·rw[C7];exact A8 _ i1
   ·rw[C7] at h ⊢;rcases B8.mp h with e|e
    ·exact B8.mpr (.inl e)
    ·exact A8 _ (i2 g e)
theorem RelO.some_of {v:V}{o:Option Value}(r:RelO (some v) o):∃u,o=some u/\RelV v u:=by
 cases o with
 |none=>exact(show False from r).elim
 |some u=>exact⟨u,rfl,r⟩
section
variable{P:B13}{w:World}{H H':Hp}{h h':Heap}{a C dx:Addr}{fs fs':List (Str×V)}
theorem qdA (b:HOk P w H h)(e:H a=some (.ins C dx fs)):∃mA,ObjM h a dx C mA/\(∀f,RelO (fs.lookup f) (mA f))/\PySem.Within mA (fs.map (·.1))/\fs.length<=1000/\H dx=some (.own a):=by
 obtain⟨d,z,g,c,mA,n,r,q⟩:=(show ObjOk P w H h a (.ins C dx fs) from b a _ e);exact⟨mA,⟨c,n,g⟩,r,q,z,d⟩
end
structure Cls (K:Ab1)(C:Addr):Prop where
 pg:A62 K C P2=true
 hd:A44 K C=true
 po:PySem.W.plainOver K C=true
 sa:G1 K (.ref C) "__setattr__" = some (some (.builtin "object.__setattr__"))
theorem Cls.get {K:Ab1}{C:Addr}(c:Cls K C)(f:Str):A62 K C f=true:=c.pg
def qTW (K:Ab1)(C:Addr)(f:Str):Prop:=G1 K (.ref C) f=some none
structure Con (K:Ab1)(C:Addr)(f:Str)(v:V)(u:Value):Prop where
 at_:G1 K (.ref C) f=some (some u)
 rel:RelV v u
 get:l8 K u "__get__" = some none
 cp:PySem.W.copiedNames.contains f=false
structure Meth (K:Ab1)(C:Addr)(m:Str)(f:Addr):Prop where
 at_:G1 K (.ref C) m=some (some (.ref f))
 fn:f9 K (.ref f)=true
 kp:G8 K (.ref f)=true
section
variable{X:Cx}{Ab:Aa2}{σ:St}{H:Hp}{s:Shared}{A:Around}{E:Aa1}{Q:Aa1}{c:Value}{b:Bool}
inductive TyOf (K:Ab1)(H:Hp):V->Value->Prop where
 |non:TyOf K H .non (.type "NoneType")
 |bl (x:Bool):TyOf K H (.bl x) (.type "bool")
 |int (i:Int):TyOf K H (.int i) (.type "int")
 |str (x:Str):TyOf K H (.str x) (.type "str")
 |flt (x:UInt64):TyOf K H (.flt x) (.type "float")
 |lst {a:Addr} {xs:List V} (e:H a=some (.lst xs)):TyOf K H (.ref a) (.type "list")
 |frz {a:Addr} {o:Obj} {xs:List V} (e:H a=some (.frz o (.lst xs))):TyOf K H (.ref a) (.type "list")
 |tup {a:Addr} {xs:List V} (e:H a=some (.tup xs)):TyOf K H (.ref a) (.type "tuple")
 |dK {a:Addr} {Af:List (Key×V)} (e:H a=some (.dK Af)):TyOf K H (.ref a) (.type "dict")
 |dT {a:Addr} {Af:List (List Key×V)} (e:H a=some (.dT Af)):TyOf K H (.ref a) (.type "dict")
 |ins {a C dx:Addr} {fs:List (Str×V)} (e:H a=some (.ins C dx fs)) (cl:Cls K C) (ha:G1 K (.ref C) "__class__" = some (some (.builtin "object.__class__")))
   (hn:l8 K (.builtin "object.__class__") "__get__" = some (some (.builtin "getset_descriptor.__get__"))) (htk:A74 K (.builtin "object.__class__")=some true)
   (hm:A31 K C (.type "object")=some true):TyOf K H (.ref a) (.ref C)
theorem qXA {x:V}{u t:Value}(I:Inv X Ab σ H s)(d:RelV x u)(l:TyOf X.K H x t)(e:W3 X.K t c=some b)(h:∀tk,Q (.bool b) {s with toks:=tk}):
  wpAny (model X.prog X.w) A (call (.builtin "isinstance") [u,c]) Q E s:=by
 cases l with
 |non=>cases(show u=L4 from d);exact K5 PySem.W.kitx_none I.kIn S5 e (λz=>nomatch z) h
 |bl y=>cases(show u=z9 y from d);exact K5 PySem.W.kitx_bool I.kIn S5 e (λz=>nomatch z) h
 |int i=>obtain⟨t,q⟩:=(show∃t,u=W2 i t from d);cases q;exact K5 PySem.W.kitx_int I.kIn S5 e (λz=>nomatch z) h
 |str y=>obtain⟨t,q⟩:=(show∃t,u=A71 y t from d);cases q;exact K5 PySem.W.kitx_str I.kIn S5 e (λz=>nomatch z) h
 |flt y=>obtain⟨t,q⟩:=(show∃t,u=Value.float y t from d);cases q;exact K5 PySem.W.kitx_float I.kIn S5 e (λz=>nomatch z) h
 |@lst a xs ea=>
  cases(show u=C4 a from d);obtain⟨_,_,n,_,f⟩:=(show ObjOk X.prog X.w H s.heap a (.lst xs) from I.hok a _ ea);exact K5 A45 I.kIn ⟨_,f,rfl⟩ e (λz=>nomatch z) h
 |@frz a ob xs ea=>
  cases(show u=C4 a from d);obtain⟨_,_,_,n,_,f⟩:=(show ObjOk X.prog X.w H s.heap a (.frz ob (.lst xs)) from I.hok a _ ea);exact K5 A45 I.kIn ⟨_,f,rfl⟩ e (λz=>nomatch z) h
 |@tup a xs ea=>
  cases(show u=C4 a from d);obtain⟨_,_,_,p⟩:=(show ObjOk X.prog X.w H s.heap a (.tup xs) from I.hok a _ ea);obtain⟨o,f,g,_⟩:=p;exact K5 A32 I.kIn ⟨o,f,g⟩ e (λz=>nomatch z) h
 |@dK a Af ea=>
  cases(show u=C4 a from d);obtain⟨_,_,r,_,p⟩:=(show ObjOk X.prog X.w H s.heap a (.dK Af) from I.hok a _ ea);obtain⟨o,j,k,f,g,_⟩:=p;exact K5 A46 I.kIn ⟨o,f,g.1⟩ e (λz=>nomatch z) h
 |@dT a Af ea=>
  cases(show u=C4 a from d);obtain⟨_,_,xs,_,o,j,k,f,g,_⟩:=(show ObjOk X.prog X.w H s.heap a (.dT Af) from I.hok a _ ea);exact K5 A46 I.kIn ⟨o,f,g.1⟩ e (λz=>nomatch z) h
 |@ins a C dx fs ea cl ha hn htk hm=>
  cases(show u=C4 a from d);obtain⟨m,O,_⟩:=qdA I.hok ea;obtain⟨v,J,_⟩:=O.look;exact K5 (PySem.W.kitx_own (cl.get _) cl.hd ha hn htk hm) I.kIn J e (λz=>nomatch z) h
end
structure Room (k:Nat)(A:Around):Prop where
 hd:A.handled=none
 dp:A.depth+3*k+5<recursionLimit
 un:A.units+16*k+200<cLine
 gd:A.guards=some []
theorem Room.mono {j k:Nat}{A:Around}(r:Room k A)(h:j<=k):Room j A:=⟨r.hd,by have:=r.dp;lia,by have:=r.un;lia,r.gd⟩
theorem Room.deeper {k:Nat}{A:Around}(r:Room (k+1) A)(env:Env):Room k (A.deeper env):=
 ⟨r.hd,by have:=r.dp;show A.depth+1+3*k+5<_;lia,by have:=r.un;show A.units+3+16*k+200<_;lia,r.gd⟩
theorem Room.in1 {k:Nat}{A:Around}(r:Room (k+1) A):Room k A.in1:=
 ⟨r.hd,by have:=r.dp;show A.depth+3*k+5<_;lia,by have:=r.un;show A.units+1+16*k+200<_;lia,r.gd⟩
theorem qUN {A:Around} {C:Addr} {a:List Value} {b:List (Str×Value)}:(A.under (.builtin "type.__call__" ⟨.ref C::a,b⟩)).depth=A.depth+1:=by
 first|rfl|simp[u7,Code.weight,Code.isCreation,Code.isGuard,Code.isCaller,Code.frames,A55,guardIds]
theorem qUM {A:Around} {C:Addr} {a:List Value} {b:List (Str×Value)}:(A.under (.builtin "type.__call__" ⟨.ref C::a,b⟩)).units=A.units+1:=by
 first|rfl|simp[u7,Code.cUnits,Code.frames,A55]
theorem Room.make {k:Nat} {A:Around} (r:Room (k+1) A) (C:Addr) (a:List Value) (b:List (Str×Value)):Room k (A.under (.builtin "type.__call__" ⟨.ref C::a,b⟩)):=
 ⟨r.hd,by have:=r.dp;rw[qUN];lia,by have:=r.un;rw[qUM];lia,by first|exact r.gd|simp[u7,Code.guards,Code.isGuard,pushGuards,guardIds,r.gd]⟩
theorem Room.depth {k:Nat}{A:Around}(r:Room k A):A.depth<recursionLimit:=by have:=r.dp;lia
theorem Room.units {k:Nat}{A:Around}(r:Room k A):A.units+64<cLine:=by have:=r.un;lia
theorem Room.units0 {k:Nat}{A:Around}(r:Room k A):A.units<cLine:=by have:=r.un;lia
def tNil:TA:=λ_ H Q=>Q [] H
def qLU (ta:TE)(tr:TA):TA:=λσ H Q=>ta σ H λx H1=>tr σ H1 λxs H2=>Q (x::xs) H2
section
variable{X:Cx}{e:Expr}{es:List Expr}{te:TE}{t:TA}{pos:Pos}
theorem qA2:PA X [] tNil:=λ_ _ _ _ H Q I h=>Calls.spliced_nil ⟨[],H,I,.nil,h⟩
theorem qA0 (d:PE X e te)(f:PA X es t)(c:B17 (e::es) X.env=(false,eval e X.env)::B17 es X.env:=by rfl):PA X (e::es) (qLU te t):=by
 intro a b s σ H Q I h;rw[c];show wpAny _ _ (spliced ((false,eval e X.env)::backTo a (B17 es X.env))) _ _ s;refine Calls.spliced_cons (thn (d b s σ H _ I h) λu s1 ⟨x,H1,I1,r1,q1⟩=>?_);exact thn (f a b s1 σ H1 _ I1 q1) λus s2 ⟨xs,H2,I2,r2,q2⟩=>⟨x::xs,H2,I2,.cons r1 r2,q2⟩
def tTup (t:TA):TE:=λσ H Q=>t σ H λxs H1=>xs.length<=B12/\∀p,H1 p=none->Q (.ref p) (Ag H1 p (.tup xs))
def tLst (t:TA):TE:=λσ H Q=>t σ H λxs H1=>xs.length<=B12/\∀p,H1 p=none->Q (.ref p) (Ag H1 p (.lst xs))
theorem qAT {x1}(h:PA X es t):PE X (.Tuple es x1 pos) (tTup t):=by
 intro c s σ H Q I a;refine wpAny_Tuple_spliced (thn (h pos c s σ H _ I a) λus s1 ⟨xs,H1,I1,r,z,q⟩=>⟨by rw[<- r.length];exact z,?_⟩)
 have d:H1 s1.heap.objs.size=none:=I1.hok.fresh (A7 _);refine⟨.ref s1.heap.objs.size,Ag H1 s1.heap.objs.size (.tup xs),I1.laid (t':=s1.toks) (λb u e=>A5 _ e) (A7 _) ?_,rfl,q _ d⟩;exact⟨z,us,r,⟨_,B3 _ rfl,rfl,_,rfl⟩⟩
theorem qFN (h:PA X es t):PE X (.List es pos) (tLst t):=by
 intro c s σ H Q I a;refine wpAny_List_spliced (thn (h pos c s σ H _ I a) λus s1 ⟨xs,H1,I1,r,z,q⟩=>⟨by rw[<- r.length];exact z,?_⟩)
 have d:H1 s1.heap.objs.size=none:=I1.hok.fresh (A7 _);refine⟨.ref s1.heap.objs.size,Ag H1 s1.heap.objs.size (.lst xs),I1.laid (t':=s1.toks) (λb u e=>A5 _ e) (A7 _) ?_,rfl,q _ d⟩;exact⟨z,us,0,r,B3 _ rfl⟩
end
abbrev Sp:=List V->Hp->VK->XK->Prop
abbrev CXT:=List Env->Hp->Shared->XK->Aa1
structure Env0 (P:B13)(w:World)(K:Ab1)(mg:Ab0)(base:Heap)(A:Around)(outer:List Env)(s:Shared)(H:Hp):Prop where
 frames:A.frames=some outer
 mod:Mod K mg base
 bs:∀b o,base.get? b=some o->s.heap.get? b=some o/\H b=none
 bsz:base.objs.size<=s.heap.objs.size
 funs:s.heap.FunFrames base outer
 frf:∀b∈frs outer,H b=none
 hok:HOk P w H s.heap
 bare:B69 s.gens
def CE (outer:List Env)(P:B13)(w:World)(H:Hp)(s:Shared)(Q:VK)(u:Value)(s':Shared):Prop:=
 ∃v H',s'.os=s.os/\B69 s'.gens/\Un (frs outer) [] H H' s.heap s'.heap/\HOk P w H' s'.heap/\RelV v u/\Q v H'
def CR (CX:CXT)(outer:List Env)(P:B13)(w:World)(H:Hp)(s:Shared)(Q:VK)(E:XK)(r:Result)(s':Shared):Prop:=
 match r with
 |.ok (.ret u)=>CE outer P w H s Q u s'
 |.ok _=>False
 |.error e=>CX outer H s E e s'
structure FnOk (P:B13)(w:World)(K:Ab1)(mg:Ab0)(base:Heap)(CX:CXT)(k:Nat)(f:Addr)(fd:B22)(ps:List Str)(sp:Sp):Prop where
 len:∀vs H Q E,sp vs H Q E->vs.length=ps.length
 run:∀(A:Around) (outer:List Env) (s:Shared) (H:Hp) (args:Args) (us:List Value) (vs:List V) (Q:VK) (E:XK),Room k A->Env0 P w K mg base A outer s H->BindsTo s fd args (ps.zip us)->Vals vs us->sp vs H Q E->
  B43 (model P w) A (.call (.ref f) args) (CR CX outer P w H s Q E) s
theorem Env0.make {P:B13}{w:World}{K:Ab1}{mg:Ab0}{base:Heap}{A:Around}{a:List Env}{s:Shared}{H:Hp}(e:Env0 P w K mg base A a s H)(C:Addr)(b:List Value)(c:List (Str×Value)):
  Env0 P w K mg base (A.under (.builtin "type.__call__" ⟨.ref C::b,c⟩)) a s H:=⟨by first|exact e.frames|(simpa[u7,Code.envs,A55,pushEnvs] using e.frames),e.mod,e.bs,e.bsz,e.funs,e.frf,e.hok,e.bare⟩
section
variable{X:Cx}{Ab:Aa2}{σ:St}{H:Hp}{s s':Shared}
theorem Inv.env0 (I:Inv X Ab σ H s):Env0 X.prog X.w X.K X.mg X.base X.A X.stack s H:=
 ⟨I.ok.frames,I.ok.mod,I.bs,E3 I.ok.bsz I.sz,I.stack,I.stkFree,I.hok,I.bare⟩
theorem Inv.after {Q:VK}{u:Value}(I:Inv X Ab σ H s)(h:CE X.stack X.prog X.w H s Q u s'):EP X Ab σ Q u s':=by
 obtain⟨v,i,os,a,j,e,r,q⟩:=h;obtain⟨f,g,d,t,c⟩:=s';obtain rfl:c=s.os:=os;exact⟨v,i,I.call (h':=f) (g':=g) (d':=d) (t':=t) (ch:=[]) j e a (λb z=>absurd z (by simp)),r,q⟩
end
def qeG (sp:Sp)(dvs:List V)(E:XK)(t:TA):TE:=λσ H Q=>t σ H λvs H1=>sp (vs++dvs) H1 Q E
def Binds (K:Ab1)(fd:B22)(ps:List Str)(ds:List Value):Prop:=
 ∀(s:Shared) (us:List Value),K.In s.heap->(us++ds).length=ps.length->BindsTo s fd ⟨us,[]⟩ (ps.zip (us++ds))
theorem Binds.all {K:Ab1}{b:B22}{ps:List Str}(h:∀us:List Value,us.length=ps.length->B67 b ⟨us,[]⟩=pure (ps.zip us)):Binds K b ps []:=λs us _ a=>by
 rw[K6] at a ⊢;exact .of_eq (h us a)
def qN6 (CX:CXT)(X:Cx)(E:XK):Prop:=∀(Ab:Aa2) (σ:St) (H:Hp) (s:Shared) (e:Value) (s':Shared),Inv X Ab σ H s->CX X.stack H s E e s'->X.xe e s'
section
variable{X:Cx}{CX:CXT}{k:Nat}{f C:Addr}{fd:B22}{ps:List Str}{sp:Sp}{dvs:List V}{ds:List Value}{E:XK}{x m:Str}{p pos apos:Pos}{e o:Expr}{es:List Expr}{ta:TE}{t:TA}
theorem qeP {Ab:Aa2}{σ:St}{H:Hp}{s:Shared}{Q:VK}{a:List Value}{vs:List V}(F:FnOk X.prog X.w X.K X.mg X.base CX k f fd ps sp)(i:Room k X.A)(m:Binds X.K fd ps ds)(j:Vals dvs ds)(g:qN6 CX X E)
  (I:Inv X Ab σ H s) (r:Vals vs a) (h:sp (vs++dvs) H Q E):wpAny (model X.prog X.w) X.A (call (.ref f) a) (EP X Ab σ Q) X.xe s:=by
 have c:Vals (vs++dvs) (a++ds):=r.append j;have d:(a++ds).length=ps.length:=by rw[<- c.length];exact F.len _ _ _ _ h
 refine B70 (B46 (F.run X.A X.stack s H ⟨a,[]⟩ (a++ds) (vs++dvs) Q E i I.env0 (m s a I.kIn d) c h) λr l b=>?_);cases r with
 |error e=>exact g Ab σ H s e l I b
 |ok fl=>
  cases fl with
  |ret u=>exact I.after b
  |next=>exact L9 b
  |brk=>exact L9 b
  |cont=>exact L9 b
theorem qRD (F:FnOk X.prog X.w X.K X.mg X.base CX k f fd ps sp)(i:Room k X.A)(m:Gl X x)(g:X.mg x=some (.ref f))(l:G8 X.K (.ref f)=true)(u:Binds X.K fd ps ds)(j:Vals dvs ds)(c:qN6 CX X E)
  (d:PA X (e::es) t) (a:(x==("__debug__" : Str))=false:=by decide) (n:B17 (e::es) X.env=(false,eval e X.env)::B17 es X.env:=by rfl) (b:(backTo pos (B17 es X.env)).any (·.1)=false:=by rfl):
  PE X (.Call (.Name x p) (e::es) [] pos) (qeG sp dvs E t):=by
 intro o s σ H Q I h;refine B47 (qO1 I m g ?_ a);refine i8 (h₀:=X.base) I.ok.mod.kin l (thn (d pos o s σ H _ I h) λus s1 ⟨vs,H1,I1,r,q⟩=>⟨I1.kIn,?_⟩) n b;exact qeP F i u j c I1 r q
structure Mk (K:Ab1)(C f:Addr):Prop where
 makes:PySem.W.makesIn K C=true
 init:G1 K (.ref C) "__init__" = some (some (.ref f))
 fn:f9 K (.ref f)=true
 kp:G8 K (.ref C)=true
end
def PK (X:Cx)(kws:List B71)(t:TA):Prop:=
 ∀(pos:Pos) (Ab:Aa2) (s:Shared) (σ:St) (H:Hp) (Q:List V->Hp->Prop),Inv X Ab σ H s->t σ H Q->wpAny (model X.prog X.w) X.A (evalAll ((backToKw pos (B75 kws X.env)).map (·.2))) (AP X Ab σ Q) X.xe s
section
variable{X:Cx}{CX:CXT}{k:Nat}{f C:Addr}{fd:B22}{ps ks:List Str}{sp:Sp}{E:XK}{x m:Str}{p pos apos kpos:Pos}{e o:Expr}{es:List Expr}{kws:List B71}{te ta:TE}{t tk:TA}{nm:Option Str}
theorem qeZ:PK X [] tNil:=λ_ _ _ _ H Q I h=>wpAny_evalAll_nil ⟨[],H,I,.nil,h⟩
theorem qW4 (c:PE X e te)(d:PK X kws t):PK X (⟨nm,e,kpos⟩::kws) (qLU te t):=by
 intro a b s σ H Q I h;show wpAny _ _ (evalAll ((do let v <- eval e X.env;standAt a;pure v)::(backToKw a (B75 kws X.env)).map (·.2))) _ _ s
 refine wpAny_evalAll_cons (B10 (thn (c b s σ H _ I h) λu s1 ⟨x,H1,I1,r1,q1⟩=>B10 (B40 (B11 ?_))));exact thn (d a b s1 σ H1 _ I1 q1) λus s2 ⟨xs,H2,I2,r2,q2⟩=>⟨x::xs,H2,I2,.cons r1 r2,q2⟩
structure KBinds (K:Ab1)(fd:B22)(ps ks:List Str)(g:List Value->List Value->List Value)(gV:List V->List V->List V):Prop where
 to:∀(s:Shared) (us ws:List Value),K.In s.heap->(g us ws).length=ps.length->BindsTo s fd ⟨us,ks.zip ws⟩ (ps.zip (g us ws))
 rel:∀{vs:List V} {us:List Value} {zs:List V} {ws:List Value},Vals vs us->Vals zs ws->Vals (gV vs zs) (g us ws)
variable{g:List Value->List Value->List Value}{gV:List V->List V->List V}
end
structure FnScope (N P:List Str)(sc:Scope):Prop where
 kind:sc.kind=.function
 co:sc.isCoroutine=false
 gen:sc.isGenerator=false
 nd:N.Nodup
 pre:N.take P.length=P
 par:∀x∈P,sc.names.lookup x=some .local\/sc.names.lookup x=some .cell
 nofree:∀y∈sc.names,y.2≠.free
theorem qQK {kindOf:Str->Option B63}{x:Str}:∀{binds:List (Str×Value)} {m:Ab0},(∀v,(x,v)∉binds)->bindL kindOf binds m x=m x
 |[],_,_=>rfl
 |(n,v)::r,m,h=>by
  unfold bindL;rw[qQK λw hw=>h w (A8 _ hw)]
  split
  ·have:x≠n:=by rintro rfl;exact h v E4
   simp[this]
  ·rfl
theorem qQM {kindOf:Str->Option B63}{x:Str}:∀{binds:List (Str×Value)} {m:Ab0},(∀v,(x,v)∉binds)->bindC kindOf binds m x=m x
 |[],_,_=>rfl
 |(n,v)::r,m,h=>by
  unfold bindC;rw[qQM λw hw=>h w (A8 _ hw)]
  split
  ·rfl
  ·have:x≠n:=by rintro rfl;exact h v E4
   simp[this]
theorem qQL {kindOf:Str->Option B63}{x:Str}{v:Value}:∀{P:List Str} {vs:List Value} {i:Nat} {m:Ab0},P.Nodup->P[i]?=some x->vs[i]?=some v->kindOf x=some .local->
  bindL kindOf (P.zip vs) m x=some v
 |[],_,_,_,_,h,_,_=>by simp at h
 |_::_,[],_,_,_,_,h,_=>by simp at h
 |p::P,w::vs,0,m,nd,h1,h2,hk=>by
  simp at h1 h2;subst h1;subst h2;show bindL kindOf ((p,w)::P.zip vs) m p=_;unfold bindL;rw[qQK λv hv=>(L6.mp nd).1 (u8 hv).1,if_pos hk];simp
 |p::P,w::vs,i+1,m,nd,h1,h2,hk=>by
  show bindL kindOf ((p,w)::P.zip vs) m x=_;unfold bindL;exact qQL (i:=i) (L6.mp nd).2 (by simpa using h1) (by simpa using h2) hk
theorem qQN {kindOf:Str->Option B63}{x:Str}{v:Value}:∀{P:List Str} {vs:List Value} {i:Nat} {m:Ab0},P.Nodup->P[i]?=some x->vs[i]?=some v->kindOf x≠some .local->
  bindC kindOf (P.zip vs) m x=some v
 |[],_,_,_,_,h,_,_=>by simp at h
 |_::_,[],_,_,_,_,h,_=>by simp at h
 |p::P,w::vs,0,m,nd,h1,h2,hk=>by
  simp at h1 h2;subst h1;subst h2;show bindC kindOf ((p,w)::P.zip vs) m p=_;unfold bindC;rw[qQM λv hv=>(L6.mp nd).1 (u8 hv).1,if_neg hk];simp
 |p::P,w::vs,i+1,m,nd,h1,h2,hk=>by
  show bindC kindOf ((p,w)::P.zip vs) m x=_;unfold bindC;exact qQN (i:=i) (L6.mp nd).2 (by simpa using h1) (by simpa using h2) hk
noncomputable def start (N:List Str)(vs:List V):St:=vs.map some++E5 (N.length-vs.length) none
noncomputable def cxOf (CX:CXT)(P:B13)(w:World)(K:Ab1)(mg:Ab0)(base:Heap)(N:List Str)(qual:Str)(scope:Scope)(f:Addr)(cd:Value)(A:Around)(outer:List Env)(s:Shared)(H:Hp)(E:XK):Cx where
 prog:=P
 w:=w
 K:=K
 mg:=mg
 base:=base
 A:=A.deeper (envOfC qual scope s.heap.objs.size f cd)
 N:=N
 s₀:=s
 H₀:=H
 env:=envOfC qual scope s.heap.objs.size f cd
 outer:=outer
 stack:=envOfC qual scope s.heap.objs.size f cd::outer
 ex:=[]
 calm:=true
 fn:=λ_=>true
 pn:=[]
 xe:=λe s'=>wpAny (model P w) (A.deeper (envOfC qual scope s.heap.objs.size f cd)) (leaving (envOfC qual scope s.heap.objs.size f cd) e) (λ_ s''=>CX outer H s E e s'') (λe' s''=>CX outer H s E e' s'') s'
theorem qTP {a:Scope}{n:Nat}{x:Str}(h:a.names.lookup x=some .cell):∃c,(cellsFrom n a.names []).lookup x=some c:=by
 have q:=t7 a.names n [] (.inl h);exact X7.mp q
theorem qXB {CX:CXT}{P:B13}{w:World}{K:Ab1}{mg:Ab0}{base:Heap}{N ps:List Str}{j:Str}{d:Scope}{f:Addr}{cd:Value}{A:Around}{g:List Env}{s s1:Shared}{H:Hp}{E:XK}{us:List Value}{vs:List V}
  (S:FnScope N ps d) (hd:A.handled=none) (m:Env0 P w K mg base A g s H) (hl:vs.length=ps.length) (r:Vals vs us)
  (x:InCallC s s.heap.objs.size (bindL (envOfC j d s.heap.objs.size f cd).kindOf (ps.zip us) λ_=>none) (cellsFrom (s.heap.objs.size+1) d.names []) (bindC (envOfC j d s.heap.objs.size f cd).kindOf (ps.zip us) λ_=>none) s1):
  Inv (cxOf CX P w K mg base N j d f cd A g s H E) [] (start N vs) H s1:=by
 have a0:ps.length<=N.length:=by have:=congrArg R7 S.pre;rw[D8] at this;lia
 obtain⟨h1,tk,rfl,hk⟩:=x.done;have o:∀b:Addr,b∉(cxOf CX P w K mg base N j d f cd A g s H E).ex:=λb z=>absurd (show b∈([]:List Addr) from z) (by simp)
 refine⟨⟨m.mod,S.kind,rfl,rfl,A7 _,λy z c h1 l=>?_,λy hy=>?_,λy c _ h=>?_,λ_=>hd,A03 m.frames,.inr ⟨rfl,rfl⟩,λb z=>absurd z (o b),m.bs,m.bsz,λb _ _=>o b,λb z=>absurd z (o b),m.funs,m.frf⟩,
  rfl,m.bare,Un.kept hk,⟨_,x.toInCall.ns,λi y v h1 l h3=>?_⟩,λy c h=>⟨_,x.cell y c h⟩,m.hok.fresh (A7 _),λy c h=>?_,λp hp=>absurd (show p∈([]:Aa2) from hp) (by simp),m.hok.kept hk,?_⟩
 ·exact name_of_addr x.apart (G9 h1) (G9 l)
 ·have hy:d.names.lookup y=some .cell\/d.names.lookup y=some .free:=hy;rcases hy with hy|hy
  ·exact qTP hy
  ·exact absurd rfl (S.nofree _ (G9 hy))
 ·exact R4 (x.above y c (G9 h))
 ·have hi:i<vs.length:=by
   unfold start at l;by_cases hi:i<vs.length
   ·exact hi
   ·rw[G4 (by simpa using hi)] at l
    rw[List.getElem?_replicate] at l
    split at l<;>cases l
  have ha:vs[i]?=some v:=by
   unfold start at l;rw[R8 (by simpa using hi),B6] at l
   cases e:vs[i]? with
   |none=>rw[e] at l;cases l
   |some a=>rw[e] at l;cases l;rfl
  obtain⟨u,hu,rv⟩:=r.get ha;have hp:ps[i]?=some y:=by
   rw[<- S.pre,P0 (by lia)];exact h1
  have t:ps.Nodup:=by rw[<- S.pre];exact S.nd.sublist (Z2 _ _)
  refine⟨u,rv,?_⟩;rcases S.par y (A9 hp) with k|k
  ·exact .inl ⟨k,qQL t hp hu k⟩
  ·obtain⟨c,e⟩:=qTP (n:=s.heap.objs.size+1) k;refine .inr ⟨.inl k,c,e,?_⟩;have q:=x.cell y c e;rw[qQN t hp hu (by show d.names.lookup y≠_;rw[k];decide)] at q
   exact q
 ·exact m.hok.fresh (R4 (x.above y c (G9 h)))
 ·unfold start;show _=N.length;rw[B7,A0,u9]
  lia
theorem qdI {CX:CXT}{P:B13}{w:World}{K:Ab1}{mg:Ab0}{base:Heap}{k:Nat}{f:Addr}{name c:Str}{g:B39}{body:List Stmt}{a:Scope}{dV kV m pm d ct oc:Value}{an od:Option Addr}
  {a2:Array (Option Value)} {N ps:List Str} {sp:Sp} (lk:K.lookup f=some ⟨oc,od,.func (O7 name c g body a dV kV m pm an d ct),a2⟩) (hcd:W4 K d c=true) (S:FnScope N ps a)
  (p:∀vs H Q E,sp vs H Q E->vs.length=ps.length)
  (h:∀ (A:Around) (outer:List Env) (s:Shared) (H:Hp) (vs:List V) (Q:VK) (E:XK),Room k (A.deeper (envOfC c a s.heap.objs.size f d))->sp vs H Q E->
   ∃t,PSs (cxOf CX P w K mg base N c a f d A outer s H E) body t/\t {nx:=λ_ H'=>Q .non H',rt:=Q} (start N vs) H):
  FnOk P w K mg base CX (k+1) f (O7 name c g body a dV kV m pm an d ct) ps sp:=by
 refine⟨p,λA outer s H a3 us vs Q E hr z hb r a0=>?_⟩;have hl:=p _ _ _ _ a0;have KX:K.In s.heap:=z.mod.kin.keeps λb o e=>(z.bs b o e).1;have a1:s.heap.NoLimit:=z.mod.nolimit.keeps λb o e=>(z.bs b o e).1;have i:∀y∈ps.zip us,a.names.lookup y.1=some .local\/(a.names.lookup y.1=some .cell/\((cellsFrom (s.heap.objs.size+1) a.names []).lookup y.1).isSome=true):=λ⟨n,v⟩ hy=>by
  rcases S.par n (u8 hy).1 with q|q
  ·exact .inl q
  ·exact .inr ⟨q,t7 _ _ _ (.inl q)⟩
 refine codeAny_call_function hr.depth (KX _ _ lk) rfl S.co S.gen rfl (PySem.W.codeRec_of KX hcd) (hb _ _ _ _ ?_);refine wpAny_newFunctionEnv_cells S.kind i λa4 he s1 x=>?_;subst he;refine⟨a1.keeps x.toInCall.keep,codeAny_func ?_⟩;obtain⟨t,ht,hq⟩:=h A outer s H vs Q E (hr.deeper _) a0;have I:Inv (cxOf CX P w K mg base N c a f d A outer s H E) [] (start N vs) H s1:=qXB S hr.hd z hl r x;refine B18 (ht [] s1 (start N vs) H _ I hq) (λfl s' j=>?_) λe s' j=>j;have l:∀{σ':St} {H':Hp} {v:V} {u:Value},Inv (cxOf CX P w K mg base N c a f d A outer s H E) [] σ' H' s'->RelV v u->Q v H'->CE outer P w H s Q u s':=
  λ{σ' H' v u} J rv q=>⟨v,H',J.os,J.bare,J.base,J.hok,rv,q⟩
 cases fl with
 |ret u=>
  obtain⟨v,σ',H',J,rv,q⟩:=j;exact l J rv q
 |next=>
  obtain⟨σ',H',J,q⟩:=j;exact l (v:=V.non) (u:=L4) J rfl q
 |brk=>
  obtain⟨_,_,_,q⟩:=j;exact L9 q
 |cont=>
  obtain⟨_,_,_,q⟩:=j;exact L9 q
section
variable{X:Cx}{x:Str}{p pos:Pos}{e:Expr}{es:List Expr}{t:TA}{id T:String}{r:List V->Hp->VK->Prop}
def tCB (r:List V->Hp->VK->Prop)(t:TA):TE:=λσ H Q=>t σ H λvs H1=>r vs H1 Q
theorem qAG (i:qDX X (.builtin id) r) (k:Gl X x) (g:X.mg x=none) (j:B19 x=some (.builtin id)) (f:PA X (e::es) t) (d:x ≠ "__name__":=by decide) (a:(x==("__debug__" : Str))=false:=by decide)
  (l:B17 (e::es) X.env=(false,eval e X.env)::B17 es X.env:=by rfl) (b:(backTo pos (B17 es X.env)).any (·.1)=false:=by rfl):PE X (.Call (.Name x p) (e::es) [] pos) (tCB r t):=by
 intro c s σ H Q I h;refine B47 (qI1 I k g j ?_ d a);exact PyProof.Rows.callWith_builtin1 (thn (f pos c s σ H _ I h) λus s1 ⟨vs,H1,I1,r1,q1⟩=>i c s1 σ H1 vs us Q I1 r1 q1) l b
theorem qB0 (i:qDX X (.type T) r) (k:Gl X x) (g:X.mg x=none) (j:B19 x=some (.type T)) (f:PA X (e::es) t) (d:x ≠ "__name__":=by decide) (a:(x==("__debug__" : Str))=false:=by decide)
  (l:B17 (e::es) X.env=(false,eval e X.env)::B17 es X.env:=by rfl) (b:(backTo pos (B17 es X.env)).any (·.1)=false:=by rfl):PE X (.Call (.Name x p) (e::es) [] pos) (tCB r t):=by
 intro c s σ H Q I h;refine B47 (qI1 I k g j ?_ d a);exact K3 (thn (f pos c s σ H _ I h) λus s1 ⟨vs,H1,I1,r1,q1⟩=>i c s1 σ H1 vs us Q I1 r1 q1) l b
end
end L2
namespace HT
open PySem PyProof.Rows
noncomputable def lexLt:List Int->List Int->Bool
 |[],[]=>false
 |[],_::_=>true
 |_::_,[]=>false
 |x::xs,y::ys=>if x=y then lexLt xs ys else decide (x<y)
theorem lexLt_cons (x y:Int)(xs a:List Int):lexLt (x::xs) (y::a)=if x=y then lexLt xs a else decide (x<y):=rfl
theorem qO0:lexLt [] []=false:=rfl
theorem qM2 (y:Int)(a:List Int):lexLt [] (y::a)=true:=rfl
theorem qM3 (x:Int)(xs:List Int):lexLt (x::xs) []=false:=rfl
theorem eqAt_int (A:Around)(s:Shared)(a:Int)(t:Tok)(c:Int)(u:Tok):∃e,SeqAt.EqAt A s (.int a t) (.int c u) e/\(e=true↔a=c):=
 ⟨(a==c),X9 a t c u,by simp⟩
theorem rcLt_int (A:Around)(s:Shared)(a:Int)(t:Tok)(c:Int)(u:Tok)(prog:B13)(w:World)(E:Aa1)(Q:Aa1)(h:Q (.bool (decide (a<c))) s):
  wpAny (model prog w) A (richCompare .Lt (.int a t) (.int c u)) Q E s:=
 (PyProof.Rows.lt_int h:wpAny (model prog w) A (B30 .Lt (.int a t) (.int c u)) Q E s)
section
open PySem.SeqAt
open PySem.AutoSeq1 (wpAny_loadPart')
open PySem.MeetsSeq PySem.MeetsSeq2 PySem.MeetsSeq3
theorem tuple_lt_ints (l b:Addr)(items f:Array Value)(n n2:Nat)(dd a2:Option Addr)(sl a0:Array (Option Value))(ns ms:List Int)(hi:B20 items.toList ns)(hj:B20 f.toList ms):
  Meets (Builtin.«tuple.__lt__» ⟨[.ref l,.ref b],[]⟩)
   (fun _ R s=>s.heap.get? l=some { cls:=.type "tuple",dict:=dd,data:=.seq items n,slots:=sl }/\s.heap.get? b=some { cls:=.type "tuple",dict:=a2,data:=.seq f n2,slots:=a0 }/\
    R (.ok (.ret (.bool (lexLt ns ms)))) s):=
 .of_wp λr w A R s h=>by
  obtain⟨hp,g,d,tk,os⟩:=s;obtain⟨hl,hb,h⟩:=h;have f2:=l9;have z1:items.size=ns.length:=by rw[<- hi.length];simp
  have z2:f.size=ms.length:=by rw[<- hj.length];simp
  wp_walk using B85 hl,B85 hb,wpAny_forIn_list _ (fun o b s'=>b.1=none/\s'=⟨hp,g,d,tk,os⟩/\∃ (vs ws:List Value) (ns' ms':List Int),o=vs.zip ws/\
   B20 vs ns'/\B20 ws ms'/\ns'.length+f.size=ms'.length+items.size/\R (.ok (.ret (.bool (lexLt ns' ms')))) ⟨hp,g,d,tk,os⟩) _
  case turn=>
   rintro⟨y,x⟩ o b s' ⟨v,rfl,vs,ws,ns',ms',k,z,j,i,m⟩;cases z with
   |nil=>rw[List.zip_nil_left] at k;cases k
   |cons a t hvi'=>
    cases j with
    |nil=>rw[List.zip_nil_right] at k;cases k
    |cons c u hwi'=>
     rw[i9] at k
     injection k with hyx hrest
     injection hyx with hy hx
     subst hy hx;rw[lexLt_cons] at m;simp only[C5] at i;obtain⟨e,he,p⟩:=eqAt_int A.in1 ⟨hp,g,d,tk,os⟩ a t c u;refine B10 (he r w _ _ ?_);cases e with
     |true=>
      rw[if_pos (p.mp rfl)] at m
      wp_walk
      exact⟨rfl,rfl,_,_,_,_,hrest,hvi',hwi',by lia,m⟩
     |false=>
      rw[if_neg (λq=>absurd (p.mpr q) B1)] at m;have a1:=rcLt_int A.in1 ⟨hp,g,d,tk,os⟩ a t c u r w
      wp_walk using a1
      exact⟨_,rfl,by simpa using m⟩
  case fin=>
   rintro⟨b1,b2⟩ s' ⟨v,rfl,vs,ws,ns',ms',k,z,j,i,m⟩;simp only at v;subst v;have hv:lexLt ns' ms'=decide (items.size<f.size):=by
    cases z with
    |nil=>
     cases j with
     |nil=>
      simp only[K4] at i;rw[qO0];exact(decide_eq_false (by lia)).symm
     |cons c u hw=>
      simp only[K4,C5] at i;rw[qM2];exact(decide_eq_true (by lia)).symm
    |cons a t hv=>
     cases j with
     |nil=>
      simp only[K4,C5] at i;rw[qM3];exact(decide_eq_false (by lia)).symm
     |cons c u hw=>
      rw[i9] at k;cases k
   rw[hv] at m
   wp_walk
   exact⟨_,rfl,by simpa[Z3] using m⟩
  case h=>
   exact⟨rfl,rfl,items.toList,f.toList,ns,ms,rfl,hi,hj,by lia,h⟩
end
section
variable{prog:B13}{w:World}{A:Around}{E:Aa1}{s:Shared}
theorem lt_tupInts {l b:Addr}{items a:Array Value}{ns c:List Int}{Q:Aa1}(z:IsTup s.heap l items)(y:IsTup s.heap b a)(hi:B20 items.toList ns)(t:B20 a.toList c)
  (r:A.units<cLine) (h:Q (.bool (lexLt ns c)) s):wpAny (model prog w) A (B30 .Lt (.ref l) (.ref b)) Q E s:=by
 obtain⟨⟨a0,dd,q,u⟩,o,k,n,p⟩:=id z;obtain⟨⟨m,i,j,g⟩,e,d,v,f⟩:=id y;simp only at k p d f;subst k p d f;exact richCompare_meets_room (op:=.Lt) ⟨_,o,rfl⟩ ⟨_,e,rfl⟩ U9 Y5 (Y0 _ _) (tuple_lt_ints l b items a n v dd i u g ns c hi t)
  ⟨o,e,show z9 (lexLt ns c)≠A04/\Q (.bool (lexLt ns c)) s from⟨(λx=>nomatch x),h⟩⟩ r
theorem cat_tup {t b:Addr}{vs ws:List Value}{Q:Aa1}(ht:IsTup s.heap t vs.toArray)(y:IsTup s.heap b ws.toArray)(p:vs≠[])
  (x:ws=[]->Q (.ref t) s) (z:ws≠[]->Q (.ref s.heap.objs.size) {s with heap:=s.heap.push {cls:=.type "tuple",data:=.seq (vs++ws).toArray}})
  (hsz:vs.length+ws.length<=B12):wpAny (model prog w) A (B42 .Add (.ref t) (.ref b)) Q E s:=by
 obtain⟨⟨cls,r,data,m⟩,j,l,n,u⟩:=id ht;obtain⟨⟨o,h,k,f⟩,a,c,q,g⟩:=id y;simp only at l u c g;subst l u c g;have e:vs.toArray++ws.toArray=(vs++ws).toArray:=by simp
 by_cases i:ws=[]
 ·exact concat_meets ⟨_,j,rfl⟩ ⟨_,a,rfl⟩ B78 seq_tuple_add U7 U0 (S6 _ _)
   (tuple_addW1 t b vs.toArray ws.toArray n q r h m f (by simpa using p) (by simp[i])) ⟨j,a,x i⟩
 ·refine concat_meets ⟨_,j,rfl⟩ ⟨_,a,rfl⟩ B78 seq_tuple_add U7 U0 (S6 _ _)
   (tuple_addW2 t b vs.toArray ws.toArray n q r h m f (by simpa using p) (by simpa using i) (by rw[C1,C1];exact hsz)) ⟨j,a,?_⟩
  rw[e];exact z i
noncomputable def sIx (n d:Nat):Option Int->Nat
 |none=>d
 |some v=>if v<0 then(v+(n:Int)).toNat else min v.toNat n
end
end HT
namespace L2
open PySem PySem.Spec PyProof.Rows
abbrev TO:=St->Hp->(Option Int->Hp->Prop)->Prop
def PO (X:Cx)(e:Option Expr)(t:TO):Prop:=
 ∀(Ab:Aa2) (s:Shared) (σ:St) (H:Hp) (Q:Option Int->Hp->Prop),Inv X Ab σ H s->t σ H Q->
  wpAny (model X.prog X.w) X.A (evalPart e X.env) (λu s'=>∃o H',Inv X Ab σ H' s'/\IsPart u o/\Q o H') X.xe s
def qbY:TO:=λ_ H Q=>Q none H
def qgF (t:TE):TO:=λσ H Q=>t σ H λx H1=>∃i,x=.int i/\Q (some i) H1
theorem qGL {ns:List Int}:∀{us:List Value},Vals (ns.map V.int) us->B20 us ns:=by
 induction ns with
 |nil=>intro us r;rw[j4] at r;cases r;exact .nil
 |cons n ns ih=>
  intro us r;rw[C7] at r;cases r with
  |cons r1 r2=>
   obtain⟨t,e⟩:=r1;subst e;exact .cons n t (ih r2)
section
variable{X:Cx}{e:Expr}{te:TE}{lo hi:Option Expr}{tl th:TO}{pos p2:Pos}
theorem qcK:PO X none qbY:=by
 intro a s σ H Q I h;rw[evalPart_none];exact B11 ⟨none,H,I,.none,h⟩
theorem qcJ (h:PE X e te):PO X (some e) (qgF te):=by
 intro a s σ H Q I b;rw[evalPart_some];refine thn (h a s σ H _ I b) λu s1 ⟨x,H1,I1,r1,q1⟩=>?_;obtain⟨i,rfl,q⟩:=q1;obtain⟨t,rfl⟩:=r1;exact⟨some i,H1,I1,.int i t,q⟩
def SlR (X:Cx)(r:V->Option Int->Option Int->Hp->VK->Prop):Prop:=
 ∀(Ab:Aa2) (s:Shared) (σ:St) (H:Hp) (x:V) (v vl vu:Value) (lo hi:Option Int) (sl:Addr) (Q:VK),Inv X Ab σ H s->RelV x v->s.heap.IsSliceOf sl vl vu .none->IsPart vl lo->IsPart vu hi->r x lo hi H Q->
  ∃T id,typeLookup (.type T) "__getitem__" = pure (some (.builtin id))/\s.TypeIs v T/\wpAny (model X.prog X.w) X.A (getItem v (.ref sl)) (EP X Ab σ Q) X.xe s
def tSl (r:V->Option Int->Option Int->Hp->VK->Prop)(te:TE)(tl th:TO):TE:=λσ H Q=>te σ H λx H1=>tl σ H1 λl H2=>th σ H2 λu H3=>r x l u H3 Q
theorem qZG {r:V->Option Int->Option Int->Hp->VK->Prop}(f:SlR X r)(k:PE X e te)(c:PO X lo tl)(i:PO X hi th):PE X (.Subscript e (.Slice lo hi none p2) pos) (tSl r te tl th):=by
 intro a s σ H Q I h;refine Subscript_ (thn (k a s σ H _ I h) λv s1 ⟨x,H1,I1,r1,q1⟩=>?_);refine wpAny_Slice (thn (c a s1 σ H1 _ I1 q1) λvl s2 ⟨l,H2,I2,pl,q2⟩=>thn (i a s2 σ H2 _ I2 q2) λvu s3 ⟨u,H3,I3,pu,q3⟩=>?_);rw[evalPart_none];refine B11 ?_;have d:Inv X a σ H3 {s3 with heap:=s3.heap.push {cls:=.type "slice",data:=.fields #[vl,vu,.none]}}:=I3.kept (t':=s3.toks) λb n q=>A5 _ q;obtain⟨T,o,g,m,j⟩:=f a {s3 with heap:=s3.heap.push {cls:=.type "slice",data:=.fields #[vl,vu,.none]}} σ H3 x v vl vu l u s3.heap.objs.size Q d r1 (B08 ..) pl pu q3;show wpAny (model X.prog X.w) X.A (subscriptTail e (.Slice lo hi none p2) v (.ref s3.heap.objs.size)) (EP X a σ Q) X.xe {s3 with heap:=s3.heap.push {cls:=.type "slice",data:=.fields #[vl,vu,.none]}};exact tail_any (ops:=[.ref s3.heap.objs.size,v]) m g j (by with_unfolding_all rfl)
noncomputable def cutV (xs:List V)(lo hi:Option Int):List V:=(xs.drop (HT.sIx xs.length 0 lo)).take (HT.sIx xs.length xs.length hi-HT.sIx xs.length 0 lo)
theorem qS4 (xs:List V)(lo hi:Option Int):(cutV xs lo hi).length<=xs.length:=by
 unfold cutV;rw[D8,Q8]
 lia
def qgV (K:Ab1):R2:=λx y H Q=>∃a b xs ys,x=.ref a/\y=.ref b/\SqT K H a xs/\SqT K H b ys/\xs≠[]/\xs.length+ys.length<=B12/\
 (ys=[]->Q (.ref a) H)/\(ys≠[]->∀p,H p=none->Q (.ref p) (Ag H p (.tup (xs++ys))))
theorem Vals.nil_iff {xs:List V}{a:List Value}(r:Vals xs a):a=[]↔xs=[]:=by
 cases r with
 |nil=>simp
 |cons _ _=>simp
theorem qWL:OpR X (B42 .Add) (qgV X.K):=by
 intro Ab s σ H x y v u Q I l r h;obtain⟨a,b,g,n,rfl,rfl,j,hb,k,f,p,i⟩:=h;cases l;cases r;obtain⟨m,d,t,_⟩:=I.tuple j;obtain⟨e,c,p2,_⟩:=I.tuple hb;refine HT.cat_tup t p2 (λz=>k (d.nil_iff.mp z)) (λz=>⟨.ref a,H,I,rfl,p (c.nil_iff.mp z)⟩) (λz=>?_) (by rw[<- d.length,<- c.length];exact f)
 refine⟨.ref s.heap.objs.size,_,I.laid (t':=s.toks) (o:=.tup (g++n)) (λb ob q=>A5 _ q) (A7 _) ?_,rfl,i (λw=>z (c.nil_iff.mpr w)) _ (I.hok.fresh (A7 _))⟩;exact⟨by rw[B7];exact f,_,d.append c,IsTup.new _ _⟩
end
noncomputable def ixN (n:Nat)(i:Int):Option Nat:=if 0<=i then(if i<n then some i.toNat else none) else if -(n:Int)<=i then some (i+n).toNat else none
noncomputable def atI {α:Type}(xs:List α)(i:Int):Option α:=(ixN xs.length i).bind λj=>xs[j]?
theorem qX9 {n:Nat}{i:Int}{j:Nat}(h:ixN n i=some j):seqIndex? i n=some j/\j<n/\-(n:Int)<=i/\i<n:=by
 unfold ixN at h;by_cases b:0<=i
 ·rw[if_pos b] at h;by_cases a:i<n
  ·rw[if_pos a] at h;have e:i.toNat=j:=B0 h;exact⟨by rw[seqIndex_of b a,e],by lia,by lia,a⟩
  ·rw[if_neg a] at h;cases h
 ·rw[if_neg b] at h;by_cases a : -(n:Int)<=i
  ·rw[if_pos a] at h;have e:(i+n).toNat=j:=B0 h;exact⟨by rw[seqIndex_neg (by lia) a,e],by lia,a,by lia⟩
  ·rw[if_neg a] at h;cases h
theorem qYL {α:Type}{xs:List α}{i:Int}{v:α}(h:atI xs i=some v):∃j,seqIndex? i xs.length=some j/\xs[j]?=some v/\j<xs.length/\-(xs.length:Int)<=i/\i<xs.length:=by
 unfold atI at h;cases e:ixN xs.length i with
 |none=>rw[e] at h;cases h
 |some j=>
  rw[e] at h;obtain⟨c,a,b,d⟩:=qX9 e;exact⟨j,c,h,a,b,d⟩
theorem qYK {α:Type}{xs:List α}{j:Nat}{v:α}(h:xs[j]?=some v):atI xs (j:Int)=some v:=by
 have a:j<xs.length:=(A3.mp h).1;have e:ixN xs.length (j:Int)=some j:=by
  unfold ixN;rw[if_pos (by lia),if_pos (by lia)];simp
 unfold atI;rw[e];exact h
theorem qaR {α:Type}(xs:List α)(v:α):atI (xs++[v]) (-1)=some v:=by
 have a:(xs++[v]).length=xs.length+1:=by simp
 have e:ixN (xs++[v]).length (-1)=some xs.length:=by
  unfold ixN;rw[a,if_neg (by decide),if_pos (by lia)]
  congr 1
  lia
 unfold atI;rw[e];show(xs++[v])[xs.length]?=some v;simp
def qdX (b:Expr):Prop:=∀o i,subscripted b false o i=operate [o,i] (getItem o i)
def IxR (X:Cx)(r:R2):Prop:=
 ∀(value slice:Expr) (Ab:Aa2) (s:Shared) (σ:St) (H:Hp) (x y:V) (v u:Value) (Q:VK),Inv X Ab σ H s->RelV x v->RelV y u->r x y H Q->
  subscripted slice false v u=operate [v,u] (getItem v u)->wpAny (model X.prog X.w) X.A (subscriptTail value slice v u) (EP X Ab σ Q) X.xe s
def MtR (X:Cx)(id:String)(r:V->List V->Hp->VK->Prop):Prop:=
 ∀(Ab:Aa2) (s:Shared) (σ:St) (H:Hp) (x:V) (xs:List V) (v:Value) (us:List Value) (Q:VK),Inv X Ab σ H s->RelV x v->Vals xs us->r x xs H Q->
  wpAny (model X.prog X.w) X.A (call (.builtin id) (v::us)) (EP X Ab σ Q) X.xe s
section
variable{X:Cx}{a b:Expr}{ta tb:TE}{pos:Pos}
theorem qBT {r:R2}(f:IxR X r)(e:PE X a ta)(l:PE X b tb)(c:qdX b):PE X (.Subscript a b pos) (tOp r ta tb):=by
 intro k s σ H Q I h;exact Subscript_ (binT e l I h λv u m x y i d g j q=>f a b k m σ i x y v u Q d g j q (c _ _))
def rIxL (K:Ab1):R2:=λx y H Q=>∃p xs i v,x=.ref p/\y=.int i/\SqL K H p xs/\atI xs i=some v/\Q v H
def rIxT (K:Ab1):R2:=λx y H Q=>∃p xs i v,x=.ref p/\y=.int i/\SqT K H p xs/\atI xs i=some v/\Q v H
theorem qL4:IxR X (rIxL X.K):=by
 intro g f o s σ H x y v u Q I rx ry h n;obtain⟨p,xs,i,z,rfl,rfl,hq,he,q⟩:=h;cases rx;obtain⟨t,rfl⟩:=ry;obtain⟨e,r,k,hz⟩:=I.list hq;obtain⟨j,b,h2,h3,h4,h5⟩:=qYL he;obtain⟨w,l,c⟩:=r.get h2;have hl:=r.length;have hn:=qPT;have a:EP X o σ Q w s:=⟨z,H,I,c,q⟩;by_cases m:0<=i
 ·have d:i.toNat=j:=by
   rw[seqIndex_of m h5] at b;exact B0 b
  exact item_listR k.isList m (by lia) (by rw[d];simpa using l) a n
 ·have d:(i+(e.toArray.size:Int)).toNat=j:=by
   rw[seqIndex_neg (by lia) h4] at b
   rw[C1,<- hl];exact B0 b
  exact subscriptTail_builtinR (x:=w) k.isList.typeIs slot_list_getitem.lookup
   (wpAny_getItem_list_neg (Q:=λr s'=>r=w/\EP X o σ Q r s') k.isList (by lia) (by rw[C1]<;>lia) (by lia) (by rw[d];simpa using l) ⟨rfl,a⟩) n
theorem qBK:IxR X (rIxT X.K):=by
 intro d c e s σ H x y v u Q I l g h hs;obtain⟨p,xs,i,z,rfl,rfl,hq,o,q⟩:=h;cases l;obtain⟨t,rfl⟩:=g;obtain⟨m,r,f,hz⟩:=I.tuple hq;obtain⟨j,n,h2,h3,h4,h5⟩:=qYL o;obtain⟨w,k,a⟩:=r.get h2;have hl:=r.length;have hn:=qPT;have b:EP X e σ Q w s:=⟨z,H,I,a,q⟩;exact subscriptTail_builtinR (x:=w) f.typeIs slot_tuple_getitem.lookup
  (getItem_tuple (j:=j) (Q:=λr s'=>r=w/\EP X e σ Q r s') f (by lia) (by lia) (by rw[C1,<- hl];exact n) (by simpa using k) ⟨rfl,b⟩) hs
theorem qUL (a:List Value) (n j:Nat) (u:Value):S7 (·.setIfInBounds j u) {cls:=.type "list",data:=.seq a.toArray n}={cls:=.type "list",data:=.seq (a.set j u).toArray n}:=by
 simp[S7]
theorem Inv.lst {Ab:Aa2}{σ:St}{H:Hp}{s:Shared}{p:Addr}{xs:List V}(I:Inv X Ab σ H s)(h:H p=some (.lst xs)):
  ∃(its:List Value) (n:Nat),Vals xs its/\s.heap.get? p=some {cls:=.type "list",data:=.seq its.toArray n}/\xs.length<=B12:=by
 obtain⟨z,its,n,r,e⟩:=I.hok p _ h;exact⟨its,n,r,e,z⟩
theorem Inv.lstUpd {Ab:Aa2}{σ:St}{H:Hp}{s:Shared}{p:Addr}{xs c:List V}{a its':List Value}{n d:Nat}{f:Obj->Obj}(I:Inv X Ab σ H s)(h:H p=some (.lst xs))
  (i:s.heap.get? p=some {cls:=.type "list",data:=.seq a.toArray n}) (g:f {cls:=.type "list",data:=.seq a.toArray n}={cls:=.type "list",data:=.seq its'.toArray d}) (r:Vals c its') (j:c.length<=B12) (t:Nat):
  Inv X Ab σ (Ag H p (.lst c)) {s with heap:=s.heap.update p f,toks:=t}:=by
 have e:(s.heap.update p f).get? p=some {cls:=.type "list",data:=.seq its'.toArray d}:=by
  rw[F7 f i (by rw[g]<;>rfl),g]
 refine I.write (x:=p) (e:=p) (by rw[h];trivial) (.inl rfl) (λb u k q=>(D3 _ _ (J6 k)).trans q) ⟨_,e⟩ ?_
 exact⟨j,its',d,r,e⟩
def qgT:V->V->V->Hp->(Hp->Prop)->Prop:=λo i v H Q=>∃p xs k j,o=.ref p/\i=.int k/\H p=some (.lst xs)/\ixN xs.length k=some j/\Q (Ag H p (.lst (xs.set j v)))
theorem qZ1:PSet X qgT:=by
 intro z s σ H o i v ov iv u Q I ro x rv h;obtain⟨p,xs,k,j,rfl,rfl,m,y,q⟩:=h;cases ro;obtain⟨t,rfl⟩:=x;obtain⟨a,n,r,e,hz⟩:=I.lst m;obtain⟨b,h2,w,l⟩:=qX9 y;have d:=r.length;have hn:=qPT;have f:Inv X z σ (Ag H p (.lst (xs.set j v))) {s with heap:=s.heap.update p (S7 (·.setIfInBounds j u))}:=
  I.lstUpd m e (qUL a n j u) (r.set rv j) (by rw[A75];exact hz) s.toks
 by_cases g:0<=k
 ·have c:k.toNat=j:=by
   rw[seqIndex_of g l] at b;exact B0 b
  exact PySem.W.ki_setAt e g (by lia) (by rw[C1,<- d];exact l) (by rw[c];exact⟨_,f,q⟩)
 ·have c:(k+(a.toArray.size:Int)).toNat=j:=by
   rw[seqIndex_neg (by lia) w] at b
   rw[C1,<- d];exact B0 b
  exact PySem.W.ki_setBack e (by lia) (by rw[C1,<- d];exact w) (by lia) (by rw[c];exact⟨_,f,q⟩)
theorem qPC (lo hi:Option Int)(n:Nat):(B64 lo hi none n).1=((HT.sIx n 0 lo:Nat):Int)/\(B64 lo hi none n).2.1=((HT.sIx n n hi:Nat):Int)/\(B64 lo hi none n).2.2=1:=by
 refine⟨?_,?_,rfl⟩
 ·cases lo with
  |none=>simp[B64,HT.sIx]
  |some i=>
   simp only[B64,HT.sIx,A63,show(1:Int)>0 by decide,if_true]
   by_cases h:i<0
   ·simp only[h,if_true]<;>lia
   ·simp only[h,if_false]<;>lia
 ·cases hi with
  |none=>simp[B64,HT.sIx]
  |some i=>
   simp only[B64,HT.sIx,A63,show(1:Int)>0 by decide,if_true]
   by_cases h:i<0
   ·simp only[h,if_true]<;>lia
   ·simp only[h,if_false]<;>lia
theorem qNL (a:List Value)(lo hi:Option Int):slicePick a.toArray lo hi none=((a.drop (HT.sIx a.length 0 lo)).take (HT.sIx a.length a.length hi-HT.sIx a.length 0 lo)).toArray:=by
 obtain⟨c,d,b⟩:=qPC lo hi a.toArray.size;unfold slicePick;rw[c,d,b];simp only[sliceRange_one,pick_run,C1]<;>rfl
def rSlL (K:Ab1):V->Option Int->Option Int->Hp->VK->Prop:=λx lo hi H Q=>∃a xs,x=.ref a/\SqL K H a xs/\∀p,H p=none->Q (.ref p) (Ag H p (.lst (cutV xs lo hi)))
theorem qc6:SlR X (rSlL X.K):=by
 intro z s σ H x v u w e f y Q I l i n j h;obtain⟨a,c,rfl,k,q⟩:=h;cases l;obtain⟨m,r,g,p⟩:=I.list k;have d:=r.length;refine⟨"list",_,slot_list_getitem.lookup,g.isList.typeIs,?_⟩;refine wpAny_getItem_list_slice g.isList i n j .none (by simp) ?_ (by rw[C1]<;>lia)
 rw[qNL,<- d];refine⟨.ref s.heap.objs.size,_,I.laid (t':=s.toks) (o:=.lst (cutV c e f)) (λb t q=>A5 _ q) (A7 _) ?_,rfl,q _ (I.hok.fresh (A7 _))⟩;exact⟨E3 (qS4 c e f) p,_,0,(r.drop (HT.sIx c.length 0 e)).take (HT.sIx c.length c.length f-HT.sIx c.length 0 e),B3 _ rfl⟩
noncomputable def qO7:V->Bool
 |.non=>true
 |.bl _=>true
 |.int _=>true
 |.str _=>true
 |_=>false
noncomputable def eqV:V->V->Bool
 |.non,.non=>true
 |.bl a,.bl b=>a==b
 |.bl a,.int b=>(if a then 1 else 0)==b
 |.int a,.bl b=>a==(if b then 1 else 0)
 |.int a,.int b=>a==b
 |.str a,.str b=>a==b
 |_,_=>false
theorem qfW {A:Around}{s:Shared}{y x:V}{u v:Value}(e:RelV y u)(c:RelV x v)(g:qO7 y=true)(f:qO7 x=true):SeqAt.EqAt A s u v (eqV y x):=by
 cases y with
 |non=>
  cases e;cases x with
  |non=>cases c;exact w5 _
  |bl b=>cases c;exact SeqAt.EqAt.none_bool b
  |int b=>obtain⟨t,rfl⟩:=c;exact SeqAt.EqAt.none_int b t
  |str b=>obtain⟨t,rfl⟩:=c;exact SeqAt.EqAt.none_str b t
  |_=>exact absurd (show false=true from f) B1
 |bl a=>
  cases e;cases x with
  |non=>cases c;exact SeqAt.EqAt.bool_none a
  |bl b=>cases c;exact SeqAt.EqAt.bool_bool a b
  |int b=>obtain⟨t,rfl⟩:=c;exact SeqAt.EqAt.bool_int a b t
  |str b=>obtain⟨t,rfl⟩:=c;exact SeqAt.EqAt.bool_str a b t
  |_=>exact absurd (show false=true from f) B1
 |int a=>
  obtain⟨d,rfl⟩:=e;cases x with
  |non=>cases c;exact SeqAt.EqAt.int_none a d
  |bl b=>cases c;exact SeqAt.EqAt.int_bool a d b
  |int b=>obtain⟨t,rfl⟩:=c;exact X9 a d b t
  |str b=>obtain⟨t,rfl⟩:=c;exact A27 a d b t
  |_=>exact absurd (show false=true from f) B1
 |str a=>
  obtain⟨d,rfl⟩:=e;cases x with
  |non=>cases c;exact SeqAt.EqAt.str_none a d
  |bl b=>cases c;exact SeqAt.EqAt.str_bool a d b
  |int b=>obtain⟨t,rfl⟩:=c;exact A28 a d b t
  |str b=>obtain⟨t,rfl⟩:=c;exact SeqAt.EqAt.str_str a d b t
  |_=>exact absurd (show false=true from f) B1
 |_=>exact absurd (show false=true from g) B1
noncomputable def eqU (x:V)(u:Value):Bool:=match u with
 |.none=>eqV .non x
 |.bool b=>eqV (.bl b) x
 |.int i _=>eqV (.int i) x
 |.str z _=>eqV (.str z) x
 |_=>false
theorem qbB {x y:V}{u:Value}(r:RelV y u)(f:qO7 y=true):eqU x u=eqV y x:=by
 cases y with
 |non=>cases r;rfl
 |bl b=>cases r;rfl
 |int i=>obtain⟨t,rfl⟩:=r;rfl
 |str z=>obtain⟨t,rfl⟩:=r;rfl
 |_=>exact absurd (show false=true from f) B1
theorem qLR {x:V}:∀{xs:List V} {us:List Value},Vals xs us->xs.all qO7=true->us.any (eqU x)=xs.any λy=>eqV y x
 |_,_,.nil,_=>rfl
 |y::xs,u::us,.cons r t,f=>by
  rw[A92,D6] at f;rw[U1,U1,qbB r f.1,qLR t f.2]
theorem qHY {A:Around}{s:Shared}{x:V}{v:Value}(rx:RelV x v)(fx:qO7 x=true):∀{xs:List V} {us:List Value},Vals xs us->xs.all qO7=true->∀u∈us,SeqAt.EqAt A s u v (eqU x u)
 |_,_,.nil,_=>λu hu=>by cases hu
 |y::xs,u::us,.cons r t,f=>λu' hu=>by
  rw[A92,D6] at f;rcases B8.mp hu with rfl|hu
  ·rw[qbB r f.1];exact qfW r rx f.1 fx
  ·exact qHY rx fx t f.2 u' hu
noncomputable def inV (x:V)(xs:List V):Bool:=xs.any λy=>eqV y x
def rIn (K:Ab1)(neg:Bool):R2:=λx y H Q=>∃p xs,y=.ref p/\(SqL K H p xs\/SqT K H p xs)/\qO7 x=true/\xs.all qO7=true/\Q (.bl (if neg then !inV x xs else inV x xs)) H
theorem qPN:OpR X (B30 .In) (rIn X.K false):=by
 intro k s σ H x y v u Q I e i h;obtain⟨p,j,rfl,hq,f,b,q⟩:=h;cases i;rcases hq with hq|hq
 ·obtain⟨a,r,d,g⟩:=I.list hq;refine SeqAt.in_listAt (eqU x) d.isList (λw c=>qHY e f r b w (by simpa using c)) ⟨.bl _,H,I,rfl,?_⟩
  rw[show a.toArray.any (eqU x)=a.any (eqU x) by simp,qLR r b]
  exact q
 ·obtain⟨a,r,d,g⟩:=I.tuple hq;refine SeqAt.in_tupleAt (eqU x) d (λw c=>qHY e f r b w (by simpa using c)) ⟨.bl _,H,I,rfl,?_⟩
  rw[show a.toArray.any (eqU x)=a.any (eqU x) by simp,qLR r b]
  exact q
theorem qPM:OpR X (B30 .NotIn) (rIn X.K true):=by
 intro k s σ H x y v u Q I e i h;obtain⟨p,j,rfl,hq,f,b,q⟩:=h;cases i;rcases hq with hq|hq
 ·obtain⟨a,r,d,g⟩:=I.list hq;refine A33 (eqU x) d.isList (λw c=>qHY e f r b w (by simpa using c)) ⟨.bl _,H,I,rfl,?_⟩
  rw[show a.toArray.any (eqU x)=a.any (eqU x) by simp,qLR r b]
  exact q
 ·obtain⟨a,r,d,g⟩:=I.tuple hq;refine SeqAt.notIn_tupleAt (eqU x) d (λw c=>qHY e f r b w (by simpa using c)) ⟨.bl _,H,I,rfl,?_⟩
  rw[show a.toArray.any (eqU x)=a.any (eqU x) by simp,qLR r b]
  exact q
theorem qAH:qDX X (.builtin "len") (λxs H Q=>∃p ys,xs=[.ref p]/\(SqL X.K H p ys\/SqT X.K H p ys)/\Q (.int ys.length) H):=by
 intro j s σ H xs i Q I r h;obtain⟨p,ys,rfl,hq,q⟩:=h;obtain⟨u,rfl,e⟩:=qFF r;cases e;have g:=qPT;rcases hq with hq|hq
 ·obtain⟨c,b,d,f⟩:=I.list hq;have a:=b.length;exact Calls.call_len_list d.isList (by simp only[C1]<;>lia) ⟨.int ys.length,H,I.tok _,⟨s.toks+1,by rw[C1,a]⟩,q⟩
 ·obtain⟨c,b,d,f⟩:=I.tuple hq;have a:=b.length;exact len_tuple d (by simp only[C1]<;>lia) ⟨.int ys.length,H,I.tok _,⟨s.toks+1,by rw[C1,a]⟩,q⟩
theorem qQH:qDX X (.type "list") (λxs H Q=>∃p ys,xs=[.ref p]/\(SqL X.K H p ys\/SqT X.K H p ys)/\∀l,H l=none->Q (.ref l) (Ag H l (.lst ys))):=by
 intro v s σ H xs x Q I r h;obtain⟨p,ys,rfl,hq,q⟩:=h;obtain⟨u,rfl,t⟩:=qFF r;cases t;have f:∀(its:List Value),Vals ys its->ys.length<=B12->∀(h':Heap) (c':Nat),(∀b o',s.heap.get? b=some o'->h'.get? b=some o')->
   h'.get? s.heap.objs.size=some {cls:=.type "list",dict:=none,data:=.seq its.toArray c',slots:=#[]}->EP X v σ Q (.ref s.heap.objs.size) {s with heap:=h'}:=λits a g h' c' c e=>
  ⟨.ref s.heap.objs.size,_,I.laid (t':=s.toks) c (A7 _) (show ObjOk X.prog X.w _ h' _ (.lst ys) from⟨g,its,c',a,e⟩),rfl,q _ (I.hok.fresh (A7 _))⟩
 rcases hq with hq|hq
 ·obtain⟨its,a,m,g⟩:=I.list hq;have d:=a.length;obtain⟨o,k,j,n,i⟩:=m.isList;exact call_list_seq p (.inl rfl) k j i (λh' c' c e=>f its a g h' c' c e) (by simp only[C1]<;>lia)
 ·obtain⟨its,a,m,g⟩:=I.tuple hq;have d:=a.length;obtain⟨o,k,j,n,i⟩:=m;exact call_list_seq p (.inr rfl) k j i (λh' c' c e=>f its a g h' c' c e) (by simp only[C1]<;>lia)
theorem qBC:qDX X (.type "tuple") (λxs H Q=>∃p ys,xs=[.ref p]/\((SqL X.K H p ys/\∀l,H l=none->Q (.ref l) (Ag H l (.tup ys)))\/(SqT X.K H p ys/\Q (.ref p) H))):=by
 intro m s σ H xs x Q I r h;obtain⟨p,ys,rfl,h⟩:=h;obtain⟨u,rfl,t⟩:=qFF r;cases t;rcases h with⟨g,q⟩|⟨g,q⟩
 ·obtain⟨a,d,f,j⟩:=I.list g;have i:=d.length;refine call_tuple_list f.isList (λc v=>?_) (by simp only[C1]<;>lia)
  have k:Inv X m σ H {s with heap:=c}:=I.kept (t':=s.toks) v;have n:Inv X m σ (Ag H c.objs.size (.tup ys)) {s with heap:=c.push {cls:=.type "tuple",data:=.seq a.toArray}}:=
   k.laid (t':=s.toks) (λb o e=>A5 _ e) (A7 _) (show ObjOk X.prog X.w _ _ _ (.tup ys) from⟨j,a,d,IsTup.new _ _⟩)
  exact⟨.ref c.objs.size,_,n,rfl,q _ (k.hok.fresh (A7 _))⟩
 ·obtain⟨a,d,f,j⟩:=I.tuple g;exact call_tuple_same f ⟨.ref p,H,I,rfl,q⟩
def tyV (K:Ab1)(T:String)(x:V)(H:Hp):Prop:=match x with
 |.str _=>T = "str"
 |.int _=>T = "int"
 |.ref p=>(T = "list"/\∃xs,SqL K H p xs)\/(T = "tuple"/\∃o,K.lookup p=some o/\o.cls=.type "tuple"/\o.dict=none)\/
   (T = "dict"/\((∃Af,H p=some (.dK Af))\/∃Af,H p=some (.dT Af)))\/(T = "set"/\∃S n,H p=some (.set S n))
 |_=>False
theorem qaU {Ab:Aa2}{σ:St}{H:Hp}{s:Shared}{T:String}{x:V}{v:Value}(I:Inv X Ab σ H s)(r:RelV x v)(f:tyV X.K T x H):
  s.TypeIs v T/\∀a,v=.ref a->∃ob,s.heap.get? a=some ob/\ob.dict=none:=by
 cases x with
 |str z=>
  obtain⟨t,rfl⟩:=r;cases(show T = "str" from f);exact⟨typeIs_str s z t,λ_ e=>nomatch e⟩
 |int i=>
  obtain⟨t,rfl⟩:=r;cases(show T = "int" from f);exact⟨typeIs_int s i t,λ_ e=>nomatch e⟩
 |ref p=>
  cases r;rcases f with⟨rfl,u,q⟩|⟨rfl,o,b,m,g⟩|⟨rfl,b⟩|⟨rfl,S,n,b⟩
  ·obtain⟨l,_,j,_⟩:=I.list q;refine⟨j.isList.typeIs,λa e=>?_⟩;cases e;obtain⟨o,n,e,c,g,_⟩:=j;exact⟨o,e,g⟩
  ·refine⟨⟨o,I.kIn p o b,m⟩,λa e=>?_⟩;cases e;exact⟨o,I.kIn _ o b,g⟩
  ·have z:∃o,s.heap.get? p=some o/\o.ExactDict:=by
    rcases b with⟨k,b⟩|⟨k,b⟩
    ·obtain⟨_,_,_,_,o,_,_,e,d,_⟩:=I.hok p _ b;exact⟨o,e,d⟩
    ·obtain⟨_,_,_,_,o,_,_,e,d,_⟩:=I.hok p _ b;exact⟨o,e,d⟩
   obtain⟨o,e,d⟩:=z;refine⟨⟨o,e,d.1⟩,λa h=>?_⟩;cases h;exact⟨o,e,d.2.1⟩
  ·obtain⟨o,_,_,_,e,d,_⟩:=I.hok p _ b;refine⟨⟨o,e,d.1⟩,λa h=>?_⟩;cases h;exact⟨o,e,d.2.1⟩
 |_=>exact L9 f
def tBM0 (K:Ab1)(T:String)(r:V->List V->Hp->VK->Prop)(to:TE):TE:=λσ H Q=>to σ H λx H1=>tyV K T x H1/\r x [] H1 Q
def tBM (K:Ab1)(T:String)(r:V->List V->Hp->VK->Prop)(to:TE)(t:TA):TE:=λσ H Q=>to σ H λx H1=>tyV K T x H1/\t σ H1 λxs H2=>r x xs H2 Q
variable{o e:Expr}{es:List Expr}{to:TE}{t:TA}{name:Str}{apos cpos:Pos}{T id:String}{r:V->List V->Hp->VK->Prop}
theorem qf7 (f:PlainAttrs T) (c:Slot T name id) (d:typeOf (.builtin id)=pure (.type "method_descriptor")) (g:MtR X id r) (j:PE X o to)
  (a:B76 o name X.env (eval o X.env)=eval o X.env:=by rfl) (b:(apos.endLine==cpos.line)=true:=by rfl):PE X (.Call (.Attribute o name apos) [] [] cpos) (tBM0 X.K T r to):=by
 intro e s σ H Q I h;refine wpAny_Call_method0_late a b (thn (j e s σ H _ I h) λv s1 ⟨x,H1,I1,r1,ty,q1⟩=>?_);obtain⟨i,k⟩:=qaU I1 r1 ty;exact⟨T,id,f,c,d,i,k,Y6 rfl (PySem.evalArgs_none (g e s1 σ H1 x [] v [] Q I1 r1 .nil q1))⟩
theorem qNV (k:PlainAttrs T) (f:Slot T name id) (g:typeOf (.builtin id)=pure (.type "method_descriptor")) (m:MtR X id r) (q:PE X o to) (n:PA X (e::es) t)
  (b:B76 o name X.env (eval o X.env)=eval o X.env:=by rfl)
  (d:((backTo cpos (B17 (e::es) X.env)).all (fun x=>!x.1) && (backToKw cpos (B75 [] X.env)).all (fun x=>x.1.isSome)
   && decide ((e::es).length+([]:List B71).length+(if([]:List B71).isEmpty then 0 else 1)<30))=true:=by rfl)
  (c:(apos.endLine==cpos.line)=true:=by rfl) (l:B17 (e::es) X.env=(false,eval e X.env)::B17 es X.env:=by rfl) (a:(backTo cpos (B17 es X.env)).any (·.1)=false:=by rfl):
  PE X (.Call (.Attribute o name apos) (e::es) [] cpos) (tBM X.K T r to t):=by
 intro i s σ H Q I h;refine wpAny_Call_method_late b d c rfl (thn (q i s σ H _ I h) λv s1 ⟨x,H1,I1,r1,ty,q1⟩=>?_);obtain⟨p,u⟩:=qaU I1 r1 ty;refine⟨T,id,k,f,g,p,u,?_⟩;have j:=n cpos i s1 σ H1 _ I1 q1;rw[l] at j ⊢;refine Y6 (by show(false||(backTo cpos (B17 es X.env)).any (·.1))=false;rw[a]<;>rfl) (A05 ?_)
 exact thn j λus s2 ⟨vs,H2,I2,r2,q2⟩=>m i s2 σ H2 x vs v us Q I2 r1 r2 q2
end
def MtM (X:Cx)(id:String)(r:V->List V->Hp->VK->Prop):Prop:=
 ∀(Ab:Aa2) (s:Shared) (σ:St) (H:Hp) (x:V) (xs:List V) (v:Value) (us:List Value) (Q:VK),Inv X Ab σ H s->RelV x v->Vals xs us->r x xs H Q->
  wpAny (model X.prog X.w) X.A (call (.builtin id) (v::us)) (EP X Ab σ Q) X.xe s
theorem Vals.one:∀{x:V} {us:List Value},Vals [x] us->∃u,us=[u]/\RelV x u
 |_,_,.cons r .nil=>⟨_,rfl,r⟩
theorem Vals.two:∀{x y:V} {us:List Value},Vals [x,y] us->∃u v,us=[u,v]/\RelV x u/\RelV y v
 |_,_,_,.cons r (.cons q .nil)=>⟨_,_,rfl,r,q⟩
theorem Vals.zero:∀{us:List Value},Vals [] us->us=[]
 |_,.nil=>rfl
theorem Vals.reverse {xs:List V}{a:List Value}(h:Vals xs a):Vals xs.reverse a.reverse:=by
 induction h with
 |nil=>exact .nil
 |cons r t ih=>rw[Z4,Z4];exact Vals.append ih (.cons r .nil)
theorem Vals.rep {xs:List V}{us:List Value}(h:Vals xs us):∀k:Nat,Vals (E5 k xs).flatten (E5 k us).flatten
 |0=>.nil
 |k+1=>by
  rw[O3,O3,O4,O4];exact Vals.append h (Vals.rep h k)
theorem qQ8 (its:List Value):∀(k:Nat) (acc:List Value),
  A85 (λx1 x2=>x1++x2) acc.toArray (E5 k its.toArray)=(acc++(E5 k its).flatten).toArray
 |0,acc=>by simp
 |k+1,acc=>by
  have e:acc.toArray++its.toArray=(acc++its).toArray:=by simp
  have e2:(acc++its)++(E5 k its).flatten=acc++(E5 (k+1) its).flatten:=by
   rw[O3,O4,L0]
  rw[<- e2,<- qQ8 its k (acc++its),<- e,O3,w6]
section
variable{X:Cx}{Ab:Aa2}{σ:St}{H:Hp}{s:Shared}{l b:Addr}{xs ys zs:List V}
theorem Inv.lset {a its':List Value}{n:Nat}{f:Array Value->Array Value}{t':Nat}(I:Inv X Ab σ H s)(h:H l=some (.lst xs))
  (e:s.heap.get? l=some {cls:=.type "list",data:=.seq a.toArray n}) (b:f a.toArray=its'.toArray) (d:Vals ys its') (g:ys.length<=B12):
  Inv X Ab σ (Ag H l (.lst ys)) {s with heap:=s.heap.update l (S7 f),toks:=t'}:=by
 have q:=PySem.IsL.update e f;rw[b] at q;refine I.write (x:=l) (e:=l) (by rw[h];exact trivial) (.inl rfl) (λj u i c=>(D3 s.heap (S7 f) (J6 i)).trans c) ⟨_,q⟩ ?_
 exact⟨g,its',_,d,q⟩
theorem Inv.lnew {a:List Value}{t':Nat}(I:Inv X Ab σ H s)(b:Vals ys a)(c:ys.length<=B12):
  Inv X Ab σ (Ag H s.heap.objs.size (.lst ys)) {s with heap:=s.heap.push {cls:=.type "list",data:=.seq a.toArray},toks:=t'}:=
 I.laid (λ_ _ q=>A5 _ q) (A7 _) ⟨c,a,0,b,B3 _ rfl⟩
theorem Inv.fresh (I:Inv X Ab σ H s):H s.heap.objs.size=none:=I.hok.fresh (A7 _)
theorem Inv.lstM (I:Inv X Ab σ H s) (a:H l=some (.lst xs)):xs.length<=B12/\∃(its:List Value) (n:Nat),Vals xs its/\xs.length=its.length/\s.heap.get? l=some {cls:=.type "list",data:=.seq its.toArray n}:=by
 obtain⟨z,its,n,r,e⟩:=I.hok l _ a;exact⟨z,its,n,r,r.length,e⟩
theorem qT6 {n:Nat}(h:n<=B12):S8 n=false:=by
 unfold S8;exact decide_eq_false (by lia)
end
section
variable{X:Cx}
def qcF:V->List V->Hp->VK->Prop:=λx vs H Q=>∃l xs y,x=.ref l/\vs=[y]/\H l=some (.lst xs)/\xs.length<B12/\Q .non (Ag H l (.lst (xs++[y])))
theorem qD2:MtM X "list.append" qcF:=by
 intro o s σ H x j v k Q I d c h;obtain⟨l,i,y,rfl,rfl,b,m,q⟩:=h;cases d;obtain⟨u,rfl,f⟩:=c.one;obtain⟨z,a,n,r,g,e⟩:=I.lstM b;refine B86 F.slot_list_append ⟨_,e,rfl⟩ F.entry_list_append (F.args_list_append_2 _ _) (PySem.list_append l a.toArray n u (by rw[C1];lia)) ⟨e,?_⟩
 refine⟨.non,_,I.lset (its':=a++[u]) b e (by simp) (r.append (.cons f .nil)) ?_,rfl,q⟩
 rw[B7,F1]
 lia
def qcE:V->List V->Hp->VK->Prop:=λx vs H Q=>∃l b xs zs,x=.ref l/\vs=[.ref b]/\H l=some (.lst xs)/\H b=some (.lst zs)/\xs.length+zs.length<=B12/\Q .non (Ag H l (.lst (xs++zs)))
theorem qPQ:MtM X "list.extend" qcE:=by
 intro Ab s σ H x y v us Q I j p h;obtain⟨l,b,xs,zs,rfl,rfl,g,m,hz,q⟩:=h;cases j;obtain⟨u,rfl,t⟩:=p.one;cases t;obtain⟨z,c,n,r,hl,e⟩:=I.lstM g;obtain⟨z2,a,k,o,i,w⟩:=I.lstM m;have f:c.toArray.size+a.toArray.size<=B12:=by rw[C1,C1];lia
 have d:¬(!c.toArray.isEmpty&&S8 (c.toArray.size+a.toArray.size))=true:=by
  rw[qT6 f,W5];exact B1
 refine B86 F.slot_list_extend ⟨_,e,rfl⟩ F.entry_list_extend (F.args_list_extend_2 _ _)
  (AutoSeq1.list_extend_list_list_0 l c.toArray n b a.toArray k d (by rw[C1];lia) (by lia)) ⟨e,w,?_⟩
 refine⟨.non,_,I.lset (its':=c++a) g e (by simp) (r.append o) ?_,rfl,q⟩
 rw[B7]
 lia
def qZ7:V->List V->Hp->VK->Prop:=λx vs H Q=>∃l xs,x=.ref l/\vs=[]/\H l=some (.lst xs)/\Q .non (Ag H l (.lst xs.reverse))
theorem qUI:MtM X "list.reverse" qZ7:=by
 intro m s σ H x j v k Q I f d h;obtain⟨l,i,rfl,rfl,c,q⟩:=h;cases f;have b:=d.zero;subst b;obtain⟨z,a,n,r,g,e⟩:=I.lstM c;refine B86 F.slot_list_reverse ⟨_,e,rfl⟩ F.entry_list_reverse (F.args_list_reverse_1 _) (AutoSeq1.list_reverse_list_0 l a.toArray n (by rw[C1];lia)) ⟨e,?_⟩
 refine⟨.non,_,I.lset (its':=a.reverse) c e (by simp) r.reverse ?_,rfl,q⟩
 rw[A19]
 lia
def rCat:R2:=λx y H Q=>∃l b xs zs,x=.ref l/\y=.ref b/\H l=some (.lst xs)/\H b=some (.lst zs)/\xs.length+zs.length<=B12/\∀p,H p=none->Q (.ref p) (Ag H p (.lst (xs++zs)))
theorem qfC:OpR X (B42 .Add) rCat:=by
 intro Ab s σ H x y v u Q I g k h;obtain⟨l,b,t,w,rfl,rfl,o,d,hz,q⟩:=h;cases g;cases k;obtain⟨z,c,n,r,p,e⟩:=I.lstM o;obtain⟨z2,a,n2,i,f,m⟩:=I.lstM d;refine PySem.P.add_list e m ?_ (by rw[C1,C1];lia)
 have j:c.toArray++a.toArray=(c++a).toArray:=by simp
 rw[j];exact⟨.ref _,_,I.lnew (t':=s.toks) (r.append i) (by rw[B7];lia),rfl,q _ I.fresh⟩
def rRep:R2:=λx y H Q=>∃l k xs,x=.ref l/\y=.int k/\H l=some (.lst xs)/\-(2^63)<=k/\k<2^63/\xs.length*k.toNat<=B12/\
 ∀p,H p=none->Q (.ref p) (Ag H p (.lst (E5 k.toNat xs).flatten))
theorem qd4 {α:Type}(xs:List α)(k:Nat):(E5 k xs).flatten.length=k*xs.length:=by
 induction k with
 |zero=>simp
 |succ k ih=>rw[O3,O4,B7,ih,Nat.succ_mul,Nat.add_comm]
theorem qf9:OpR X (B42 .Mult) rRep:=by
 intro Ab s σ H x y v u Q I rx w h;obtain⟨l,k,xs,rfl,rfl,hH,h1,h2,p,q⟩:=h;cases rx;obtain⟨t,rfl⟩:=w;obtain⟨z,b,n,r,hl,e⟩:=I.lstM hH;have g:b.toArray.size*k.toNat<=B12:=by rw[C1,<- hl];exact p
 have i:¬b.toArray.size*k.toNat>(2^63-1)/8:=by
  have:(B12:Nat)<=(2^63-1)/8:=by decide
  lia
 have d:¬(!Builtin.List.listFitsIndex k)=true:=by
  rw[fitsIndex_both h1 h2];exact B1
 have c:¬S8 (b.toArray.size*k.toNat)=true:=by
  rw[qT6 g];exact B1
 have f:A85 (λo j=>o++j) #[] (E5 (if b.toArray.isEmpty=true then 0 else k.toNat) b.toArray)=(E5 k.toNat b).flatten.toArray:=by
  have f0:∀m:Nat,A85 (λo j=>o++j) #[] (E5 m b.toArray)=(E5 m b).flatten.toArray:=λm=>by
   have:=qQ8 b m [];rw[d5] at this;exact this
  rw[f0];cases b with
  |nil=>simp
  |cons a r'=>rw[if_neg (by simp)]
 refine wpAny_binaryOp_repeat_ref (T:="list") (U:="int") (by decide) ⟨_,e,rfl⟩ (λs'=>typeIs_int s' k t) noFill_list_mul F.fills_int_mul F.slot_int_rmul repeat_list F.slot_int_index.lookup
  (B86 F.slot_int_rmul (typeIs_int s k t) F.entry_int_rmul (F.args_int_rmul_2 _ _) (int___rmul___int_list k t l b.toArray n)
   ⟨e,rfl,⟨_,e,rfl⟩,B86 F.slot_list_mul ⟨_,e,rfl⟩ F.entry_list_mul (F.args_list_mul_2 _ _) (AutoListH.list___mul___list_int_3 l b.toArray n k t d i c) ⟨e,?_⟩⟩)
 rw[f];exact⟨.ref _,_,I.lnew (t':=s.toks) (r.rep k.toNat) (by rw[qd4,Nat.mul_comm];exact p),rfl,q _ I.fresh⟩
end
section
variable{prog:B13}{w:World}{A:Around}{E:Aa1}{s:Shared}
set_option maxRecDepth 100000 in
end
end L2
namespace Att
open PySem PySem.W PySem.Calls PyProof.Rows
theorem qL5 {P:Params}{h:Heap}:∀(ns:List Int) (vs:List Value),WellAll P h vs (ns.map WData.int)->B20 vs ns:=by
 intro ns
 induction ns with
 |nil=>
  intro vs w;rw[j4] at w;cases w;exact .nil
 |cons n ns ih=>
  intro vs w;rw[C7] at w;cases w with
  |cons a b=>
   cases a;exact .cons _ _ (ih _ b)
theorem qVU {l:OpenLaw}{n:Nat}(m:l.most=some n){P:Params}{h:Heap}{args:List WData}{c:List Value}
  (b:l.row.toRowW.claim.pre args=true) (j:WellAll P h c args):
  ∃a vs ns,c=[C4 a]/\args=[WData.list (ns.map WData.int)]/\h.get? a=some {cls:=.type "list",data:=.seq vs.toArray}/\B20 vs ns/\ns.length<=n:=by
 have i:WShape.hasAll [] args [.list .int]=true:=(pre_splitW b).1;have k:l.pre.holds [] {args:=args}=true:=(pre_splitW b).2;obtain⟨d,r,rfl,o,p⟩:=hasAllW_cons i;obtain rfl:=hasAllW_nil p;obtain⟨u,rfl,t⟩:=hasW_list o;obtain⟨ns,rfl⟩:=items_int t;have e:ns.length<=n:=by
  unfold OpenLaw.pre at k;have f:(WTm.not (.lt (.lit (.int (n:Int))) (.len (.arg 0)))).holds [] {args:=[.list (ns.map .int)]}=true:=by
   have f:=(holds_andW k).1;rw[m] at f;exact f
  have g:=condW_of f (w_not (w_lt w_lit (w_len_list (w_arg rfl))));rw[A0] at g;refine q9 λq=>?_;have s:(n:Int)<((ns.length:Nat):Int):=by lia
  first
   |(rw[decide_eq_true s] at g;exact absurd g (by decide))
   |(simp at g;lia)
 cases j with
 |cons w1 w2=>
  cases w2;cases w1 with
  |list ho hall=>exact⟨_,_,ns,rfl,rfl,ho,qL5 ns _ hall,e⟩
theorem qW2 (l:OpenLaw)(args:List WData):l.row.toRowW.claim.post args (.bool true) args=true:=
 postW_of (r:=l.row.toRowW) (X:=(true==true))
  (show WShape.has [] (.bool true) .bool=true by first|rfl|decide|simp[WShape.has,WShape.arms,WShape.armsAll])
  (show(WTm.eq .res (.lit (.bool true))).value [] {args:=args,res:=some (.bool true),after:=args}=some (.bool (true==true)) from w_eq_bool (w_res rfl) w_lit) rfl
theorem attach_call {l:OpenLaw}{n:Nat}{q:B13}{b:List Str}{XP:(Ab0)->Heap->Prop}{YP:World->Heap->Prop}{d:DefRec}
  (z:l.most=some n) (p:d.params.defaults=[])
  (e:∀ (w:World) (s₀ s₁:Shared) (mg mb:Ab0) (fa:Addr) (o:Obj) (pm cd doc:Value) (a:Addr) (vs:List Value) (ns:List Int),
   Ground q b [] XP w s₀ mg mb s₁.heap->YP w s₁.heap->
   s₁.heap.get? fa=some o->o.data=.func (docDef d.name d.params d.body d.scope pm cd doc)->s₁.heap.CodeRec cd d.name->mg d.name=some (.ref fa)->
   s₁.heap.get? a=some {cls:=.type "list",data:=.seq vs.toArray}->B20 vs ns->ns.length<=n->s₁.gens=#[]->
   B43 (model l.prog w) callerA (.call (.ref fa) ⟨[.ref a],[]⟩) (λr s'=>r=.ok (.ret (.bool true))/\OldK s₁.heap s'.heap/\s'.os=s₁.os/\B69 s'.gens) s₁):
  WalkO q b XP YP l.row.toRowW d [] (λf vs=>A86 f vs):=by
 intro w s₀ s₁ mg mb G Y fa o pm cd doc dV kV ho hd k u m hg t v as i s a1 j a0;obtain rfl:dV=.none:=Dflts.none u p;obtain rfl:kV=.none:=Dflts.noKw u;obtain⟨a,vs,ns,rfl,rfl,h,c,g⟩:=qVU z i j;refine enter_call (B46 (e w s₀ s₁ mg mb fa o pm cd doc a vs ns G Y ho (fd_plain hd) k m h c g hg) λr s' hq=>?_);obtain⟨rfl,h2,y,h4⟩:=hq;exact⟨.inl ⟨.bool true,.bool true,[],rfl,λ_=>rfl,.bool true,qW2 l _,λ_=>⟨A47,λ_ x=>(nomatch x)⟩⟩,h2,y,h4⟩
end Att
namespace L2
open PySem PySem.Spec PyProof.Rows
theorem qK6:∀{vs:List Value} {ns:List Int},B20 vs ns->Vals (ns.map V.int) vs
 |_,_,.nil=>.nil
 |_,_,.cons n t h=>.cons ⟨t,rfl⟩ (qK6 h)
noncomputable def qEG (s:Stmt):B39:=match s with
 |.FunctionDef _ a _ _ _ _ _ _ _ _=>a
 |_=>{posonlyargs:=[],args:=[],vararg:=none,kwonlyargs:=[],kw_defaults:=[],kwarg:=none,defaults:=[]}
noncomputable def qAL (s:Stmt):List Stmt:=match s with
 |.FunctionDef _ _ b _ _ _ _ _ _ _=>b
 |_=>[]
noncomputable def qA7 (s:Stmt):Scope:=match s with
 |.FunctionDef _ _ _ _ _ _ sc _ _ _=>sc
 |_=>{kind:=.function,names:=[],isGenerator:=false,isCoroutine:=false}
abbrev CX0:CXT:=λ_ _ _ _ _ _=>False
abbrev E0:XK:=λ_ _ _=>False
theorem qgZ {X:Cx}:qN6 CX0 X E0:=λ_ _ _ _ _ _ _ h=>h.elim
structure Fun (K:Ab1)(x qual:Str)(st:Stmt)(f:Addr)(fd:B22):Prop where
 ex:∃(oc:Value) (od:Option Addr) (kV doc pm:Value) (an:Option Addr) (cdv ct:Value) (osl:Array (Option Value)),
  fd=O7 x qual (qEG st) (qAL st) (qA7 st) .none kV doc pm an cdv ct/\K.lookup f=some ⟨oc,od,.func fd,osl⟩/\W4 K cdv qual=true
 kp:G8 K (.ref f)=true
section
variable{P:B13}{w:World}{K:Ab1}{mg:Ab0}{base:Heap}
theorem Fun.ok {x a:Str}{st:Stmt}{f:Addr}{g:B22}{N ps:List Str}{k:Nat}{sp:Sp}(F:Fun K x a st f g)(S:FnScope N ps (qA7 st))(e:∀vs H Q E,sp vs H Q E->vs.length=ps.length)
  (b:∀ (cdv:Value) (A:Around) (outer:List Env) (s:Shared) (H:Hp) (vs:List V) (Q:VK) (E:XK),Room k (A.deeper (envOfC a (qA7 st) s.heap.objs.size f cdv))->sp vs H Q E->
   ∃t,PSs (cxOf CX0 P w K mg base N a (qA7 st) f cdv A outer s H E).nox (qAL st) t/\t {nx:=λ_ H'=>Q .non H',rt:=Q} (start N vs) H):FnOk P w K mg base CX0 (k+1) f g ps sp:=by
 obtain⟨o,p,v,l,r,n,cdv,u,m,rfl,j,c⟩:=F.ex;refine qdI j c S e λA outer s H vs Q E i d=>?_;obtain⟨t,h,q⟩:=b cdv A outer s H vs Q E i d;exact⟨t,h.nox,q⟩
theorem Fun.binds {x a:Str}{st:Stmt}{f:Addr}{b:B22}{ps:List Str}(F:Fun K x a st f b)
  (h:∀(kV doc pm:Value) (an:Option Addr) (cdv ct:Value) (us:List Value),us.length=ps.length->B67 (O7 x a (qEG st) (qAL st) (qA7 st) .none kV doc pm an cdv ct) ⟨us,[]⟩=pure (ps.zip us)):Binds K b ps []:=by
 obtain⟨e,i,kV,doc,pm,an,cdv,ct,d,rfl,g,c⟩:=F.ex;exact .all (h kV doc pm an cdv ct)
theorem fun_mk {x a:Str}{st:Stmt}{f:Addr}{m:Value}{n g:Option Addr}{e:Array (Option Value)}{j d h b i:Value}(l:K.lookup f=some ⟨m,n,.func (O7 x a (qEG st) (qAL st) (qA7 st) .none j d h g b i),e⟩)
  (c:W4 K b a=true) (k:G8 K (.ref f)=true):Fun K x a st f (O7 x a (qEG st) (qAL st) (qA7 st) .none j d h g b i):=⟨⟨m,n,j,d,h,g,b,i,e,rfl,l,c⟩,k⟩
end
theorem qI4 {A:Around}{k:Nat}(a:Room k A):A.units+1<cLine:=Y1 (Nat.add_le_add_left (by decide:1<=64) _) a.units
theorem qAZ {n:Nat}(h:n<=1000):n<B12:=Y1 h (by decide)
variable{X:Cx}
theorem pv (i:Nat) {x:Str} {pos:Pos} (b:X.N[i]?=some x:=by rfl) (a:Vis X.env.scope x:=by first|exact E9 rfl|exact r8 (E9 rfl)|exact r8 (r8 rfl)) (c:(x==("__debug__" : Str))=false:=by decide)
  (hcd:(x==("__classdict__" : Str))=false:=by decide):PE X (.Name x pos) (tVar i):=qf4 b a c hcd
theorem iteF {A B:Prop}(h:B):if false=true then A else B:=by
 rw[if_neg B1];exact h
theorem iteT {A B:Prop}(h:A):if true=true then A else B:=by
 rw[if_pos rfl];exact h
theorem ite2 {c A B:Prop}[Decidable c](b:c->A)(a:¬c->B):if c then A else B:=by
 by_cases h:c
 ·rw[if_pos h];exact b h
 ·rw[if_neg h];exact a h
def Same (H H':Hp):Prop:=∀b o,H b=some o->H' b=some o
theorem Same.refl (H:Hp):Same H H:=λ_ _ h=>h
theorem Same.trans {H H1 H2:Hp}(a:Same H H1)(b:Same H1 H2):Same H H2:=λc o h=>b c o (a c o h)
theorem Same.free {H H':Hp}(e:Same H H'){l:Addr}(h:H' l=B04):H l=B04:=by
 cases q:H l with
 |none=>rfl
 |some o=>
  rw[e l o q] at h;cases h
section
variable{κ:Type}[DecidableEq κ]
noncomputable def valV (Af:List (κ×V))(k:κ):Option V:=(Af.find? λkv=>decide (kv.1=k)).map (·.2)
noncomputable def putK (Af:List (κ×V))(k:κ)(v:V):List (κ×V):=
 if(Af.any λkv=>decide (kv.1=k))=true then Af.map (λkv=>if kv.1=k then(kv.1,v) else kv) else Af++[(k,v)]
theorem qBE {p:κ×V}{r:List (κ×V)}{k:κ}(e:p.1=k):valV (p::r) k=some p.2:=by simp[valV,V0,e]
theorem qB8 {p:κ×V}{r:List (κ×V)}{k:κ}(e:¬p.1=k):valV (p::r) k=valV r k:=by simp[valV,V0,e]
theorem qG5 (k:κ):∀Af:List (κ×V),(Af.any λkv=>decide (kv.1=k))=(valV Af k).isSome
 |[]=>rfl
 |p::r=>by
  rw[U1];by_cases e:p.1=k
  ·simp only[qBE e,decide_eq_true e,Bool.true_or,Option.isSome_some]
  ·rw[qB8 e,decide_eq_false e,o9];exact qG5 k r
theorem qSC (k j:κ)(y:V):∀Af:List (κ×V),valV (Af.map λkv=>if kv.1=k then(kv.1,y) else kv) j=(valV Af j).map λx=>if j=k then y else x
 |[]=>rfl
 |p::r=>by
  have ih:=qSC k j y r;rw[C7];by_cases h:p.1=k
  ·rw[if_pos h];by_cases e:p.1=j
   ·rw[qBE (p:=(p.1,y)) e,qBE e,Q1,if_pos (e.symm.trans h)]
   ·rw[qB8 (p:=(p.1,y)) e,qB8 e,ih]
  ·rw[if_neg h];by_cases e:p.1=j
   ·rw[qBE (p:=p) e,qBE e,Q1,if_neg (λz=>h (e.trans z))]
   ·rw[qB8 (p:=p) e,qB8 e,ih]
theorem qOZ (k j:κ)(y:V):∀Af:List (κ×V),valV Af k=none->valV (Af++[(k,y)]) j=if j=k then some y else valV Af j
 |[],_=>by
  by_cases e:k=j
  ·rw[if_pos e.symm];exact qBE (p:=(k,y)) e
  ·rw[if_neg (λz=>e z.symm)];exact qB8 (p:=(k,y)) e
 |p::r,hn=>by
  rw[X0];have hk:¬p.1=k:=λz=>by rw[qBE z] at hn;cases hn
  rw[qB8 hk] at hn;have ih:=qOZ k j y r hn;by_cases e:p.1=j
  ·rw[qBE e,qBE e,if_neg (λz=>hk (e.trans z))]
  ·rw[qB8 e,qB8 e,ih]
theorem qDB (Af:List (κ×V))(k j:κ)(y:V):valV (putK Af k y) j=if j=k then some y else valV Af j:=by
 unfold putK;by_cases a:(Af.any λb=>decide (b.1=k))=true
 ·rw[if_pos a,qSC];rw[qG5] at a;by_cases e:j=k
  ·obtain⟨x,c⟩:=X7.mp a;rw[if_pos e,e,c,Q1,if_pos rfl]
  ·rw[if_neg e];cases valV Af j with
   |none=>rfl
   |some x=>rw[Q1,if_neg e]
 ·rw[if_neg a];refine qOZ k j y Af ?_;rw[qG5] at a;cases q:valV Af k with
  |none=>rfl
  |some x=>rw[q] at a;exact(a rfl).elim
theorem qB5 (Af:List (κ×V))(k:κ)(v:V):(putK Af k v).length<=Af.length+1:=by
 unfold putK
 split
 ·rw[A0];lia
 ·rw[B7,C5,K4];lia
theorem qSX {Af:List (κ×V)}{k:κ}(v:V)(h:valV Af k=none):putK Af k v=Af++[(k,v)]:=by
 unfold putK;rw[qG5,h];exact if_neg (by decide)
theorem RelO.isSome_eq {o:Option V}{u:Option Value}(r:RelO o u):o.isSome=u.isSome:=by
 cases o with
 |none=>cases u with
  |none=>rfl
  |some _=>exact(show False from r).elim
 |some _=>cases u with
  |none=>exact(show False from r).elim
  |some _=>rfl
theorem KV.val {Af:List (κ×V)}{vs:List (κ×Value)}(r:KV Af vs)(k:κ):RelO (valV Af k) (valueAt vs k):=by
 unfold KV at r
 induction r with
 |nil=>exact S5
 |@cons p q ps qs h t ih=>
  obtain⟨c,d⟩:=h;by_cases e:p.1=k
  ·have a:q.1=k:=c.symm.trans e;have b:valueAt (q::qs) k=some q.2:=by simp[valueAt,V0,a]
   rw[qBE e,b];exact d
  ·have a:¬q.1=k:=λz=>e (c.trans z);have b:valueAt (q::qs) k=valueAt qs k:=by simp[valueAt,V0,a]
   rw[qB8 e,b];exact ih
theorem KV.any {Af:List (κ×V)}{vs:List (κ×Value)}(r:KV Af vs)(k:κ):(Af.any λkv=>decide (kv.1=k))=vs.any λkv=>decide (kv.1=k):=by
 unfold KV at r
 induction r with
 |nil=>rfl
 |cons h t ih=>rw[U1,U1,ih,h.1]
theorem KV.repl {Af:List (κ×V)}{vs:List (κ×Value)}(r:KV Af vs)(k:κ){y:V}{u:Value}(c:RelV y u):
  KV (Af.map λkv=>if kv.1=k then(kv.1,y) else kv) (vs.map λkv=>if kv.1=k then(kv.1,u) else kv):=by
 unfold KV at r ⊢
 induction r with
 |nil=>exact .nil
 |@cons p q ps qs h t ih=>
  rw[C7,C7];refine .cons ?_ ih;obtain⟨a,b⟩:=h;by_cases e:p.1=k
  ·rw[if_pos e,if_pos (a.symm.trans e)];exact⟨a,c⟩
  ·rw[if_neg e,if_neg (λz=>e (a.trans z))];exact⟨a,b⟩
theorem KV.put {Af:List (κ×V)}{vs:List (κ×Value)}(r:KV Af vs)(k:κ){y:V}{u:Value}(a:RelV y u):KV (putK Af k y) (stored vs k u):=by
 unfold putK stored;rw[r.any k];by_cases e:(vs.any λb=>decide (b.1=k))=true
 ·rw[if_pos e,if_pos e];exact r.repl k a
 ·rw[if_neg e,if_neg e];exact X4 r ⟨rfl,a⟩
theorem KV.keys {Af:List (κ×V)}{vs:List (κ×Value)}(r:KV Af vs):Af.map (·.1)=vs.map (·.1):=by
 unfold KV at r
 induction r with
 |nil=>rfl
 |cons h t ih=>rw[C7,C7,ih,h.1]
theorem KV.length {Af:List (κ×V)}{vs:List (κ×Value)}(r:KV Af vs):Af.length=vs.length:=C6 r
end
theorem qUT {P:B13}{w:World}{k:Key}{u:Value}(r:RelV (kV k) u):(qBQ P w).is k u=true:=by
 cases k with
 |inl i=>obtain⟨t,e⟩:=(show∃t,u=W2 i t from r);subst e;exact qRJ P w i t
 |inr x=>obtain⟨t,e⟩:=(show∃t,u=A71 x t from r);subst e;exact qRI P w x t
theorem qPY {P:B13}{w:World}:∀{ks:List Key} {us:List Value},Vals (ks.map kV) us->ItemsAre (qBQ P w) ks us
 |[],_,r=>by rw[j4] at r;cases r;exact .nil
 |k::ks,_,r=>by
  rw[C7] at r;cases r with
  |cons h t=>exact .cons (qUT h) (qPY t)
abbrev KT (H:Hp):List (List Key×V)->List (List Key×Addr×Value)->Prop:=Paired λp q=>p.1=q.1/\H q.2.1=some (.tup (p.1.map kV))/\RelV p.2 q.2.2
theorem KT.val {H:Hp}{Af:List (List Key×V)}{xs:List (List Key×Addr×Value)}(r:KT H Af xs)(k:List Key):RelO (valV Af k) ((atKey xs k).map (·.2)):=by
 induction r with
 |nil=>exact S5
 |@cons p q ps qs h t ih=>
  obtain⟨c,_,d⟩:=h;by_cases e:p.1=k
  ·have a:q.1=k:=c.symm.trans e;have b:atKey (q::qs) k=some q.2:=by simp[atKey,V0,a]
   rw[qBE e,b];exact d
  ·have a:¬q.1=k:=λz=>e (c.trans z);have b:atKey (q::qs) k=atKey qs k:=by simp[atKey,V0,a]
   rw[qB8 e,b];exact ih
theorem KT.repl {H:Hp}{Af:List (List Key×V)}{xs:List (List Key×Addr×Value)}(r:KT H Af xs)(k:List Key){y:V}{u:Value}(d:RelV y u):
  KT H (Af.map λkv=>if kv.1=k then(kv.1,y) else kv) (xs.map (putAt k u)):=by
 induction r with
 |nil=>exact .nil
 |@cons p q ps qs h t ih=>
  rw[C7,C7];refine .cons ?_ ih;obtain⟨a,b,c⟩:=h;unfold putAt;by_cases e:p.1=k
  ·rw[if_pos e,if_pos (a.symm.trans e)];exact⟨a,b,d⟩
  ·rw[if_neg e,if_neg (λz=>e (a.trans z))];exact⟨a,b,c⟩
theorem KT.put {H:Hp}{Af:List (List Key×V)}{xs:List (List Key×Addr×Value)}(r:KT H Af xs)(k:List Key){b:Addr}{y:V}{u:Value}(d:H b=some (.tup (k.map kV)))(a:RelV y u):
  KT H (putK Af k y) (storedH xs k b u):=by
 have e:(Af.any λc=>decide (c.1=k))=(atKey xs k).isSome:=by
  rw[qG5,(r.val k).isSome_eq,m5]
 unfold putK storedH;rw[e];by_cases q:(atKey xs k).isSome=true
 ·rw[if_pos q,if_pos q];exact r.repl k a
 ·rw[if_neg q,if_neg q];exact X4 r ⟨rfl,d,a⟩
theorem KT.keeps {H H':Hp}{Af:List (List Key×V)}{xs:List (List Key×Addr×Value)}(r:KT H Af xs)(a:∀b ys,H b=some (.tup ys)->H' b=some (.tup ys)):KT H' Af xs:=
 Paired.mapP r λ_ _ z=>⟨z.1,a _ _ z.2.1,z.2.2⟩
section
variable{P:B13}{w:World}{H:Hp}{h:Heap}{a:Addr}
theorem qeT {u:HO}(ok:HOk P w H h)(e:Rd H a u):ObjOk P w H h a u:=e.ok ok
theorem qXY {Af:List (Key×V)}(b:HOk P w H h)(e:Rd H a (.dK Af)):Af.length<=B12/\(a==B32)=false/\∃vs,KV Af vs/\h.DictOf (qBQ P w) a vs:=
 show ObjOk P w H h a (.dK Af) from qeT b e
theorem qaL {Af:List (Key×V)}(b:HOk P w H h)(e:H a=some (.dK Af)):Af.length<=B12/\(a==B32)=false/\∃vs,KV Af vs/\h.DictOf (qBQ P w) a vs:=qXY b (.inl e)
theorem qMX {c:List Key}(f:HOk P w H h)(e:H a=some (.tup (c.map kV))):(B81 (qBQ P w)).is h c a:=by
 obtain⟨_,b,r,o,d,g,n,i⟩:=(show ObjOk P w H h a (.tup (c.map kV)) from f a _ e);exact⟨o,b.toArray,n,d,g,i,by simpa using qPY r⟩
theorem qXW {Af:List (List Key×V)}(c:HOk P w H h)(e:Rd H a (.dT Af)):Af.length<=B12/\(a==B32)=false/\
  ∃xs,KT H Af xs/\h.DictOfH (B81 (qBQ P w)) a xs:=by
 obtain⟨z,y,xs,r,o,d,j,i,k,n,f,g⟩:=(show ObjOk P w H h a (.dT Af) from qeT c e);refine⟨z,y,xs,r,o,d,j,i,k,n,f,λx hx=>?_,g⟩;have b:∀{l:List (List Key×V)} {m:List (List Key×Addr×Value)},KT H l m->∀x∈m,(B81 (qBQ P w)).is h x.1 x.2.1:=by
  intro l m q
  induction q with
  |nil=>intro x hx;exact nomatch hx
  |@cons p q ps qs hq t ih=>
   intro x hx;rcases B8.mp hx with e|hx
   ·subst e;exact qMX c (by rw[<- hq.1];exact hq.2.1)
   ·exact ih x hx
 exact b r x hx
theorem qfX {Af:List (List Key×V)}(b:HOk P w H h)(e:H a=some (.dT Af)):Af.length<=B12/\(a==B32)=false/\
  ∃xs,KT H Af xs/\h.DictOfH (B81 (qBQ P w)) a xs:=qXW b (.inl e)
end
def DGet (H:Hp)(a:Addr)(y:V)(r:Option V):Prop:=
 (∃Af k,Rd H a (.dK Af)/\y=kV k/\r=valV Af k)\/∃Af k b,Rd H a (.dT Af)/\y=.ref b/\H b=some (.tup (k.map kV))/\r=valV Af k
def DPut (H:Hp)(a:Addr)(y v:V)(H':Hp):Prop:=
 (∃Af k,H a=some (.dK Af)/\y=kV k/\Af.length<B12/\H'=Ag H a (.dK (putK Af k v)))\/
 ∃Af k b,H a=some (.dT Af)/\y=.ref b/\H b=some (.tup (k.map kV))/\Af.length<B12/\H'=Ag H a (.dT (putK Af k v))
theorem DGet.k {H:Hp}{a:Addr}{Af:List (Key×V)}{k:Key}(e:H a=some (.dK Af)):DGet H a (kV k) (valV Af k):=.inl ⟨Af,k,.inl e,rfl,rfl⟩
theorem DPut.k {H:Hp}{a:Addr}{Af:List (Key×V)}{k:Key}{v:V}(e:H a=some (.dK Af))(b:Af.length<B12):DPut H a (kV k) v (Ag H a (.dK (putK Af k v))):=.inl ⟨Af,k,e,rfl,b,rfl⟩
theorem DPut.t {H:Hp}{a b:Addr}{Af:List (List Key×V)}{k:List Key}{v:V}(e:H a=some (.dT Af))(d:H b=some (.tup (k.map kV)))(c:Af.length<B12):
  DPut H a (.ref b) v (Ag H a (.dT (putK Af k v))):=.inr ⟨Af,k,b,e,rfl,d,c,rfl⟩
section
variable{X:Cx}{Ab:Aa2}{σ:St}{H:Hp}{s:Shared}{a:Addr}{y v:V}{u r:Value}{o:Option V}{A:Around}{E:Aa1}
theorem Inv.big (I:Inv X Ab σ H s):B32<s.heap.objs.size:=by
 have h:B23<s.heap.objs.size:=(I.mod.glob.keeps I.bk).lt;exact y7 (by decide) h
theorem qY3 {Q:Aa1}(hu:A.units+1<cLine)(I:Inv X Ab σ H s)(g:DGet H a y (some v))(n:RelV y u)(h:∀w' s',Inv X Ab σ H s'->RelV v w'->Q w' s'):
  wpAny (model X.prog X.w) A (getItem (.ref a) u) Q E s:=by
 rcases g with⟨q,k,e,m,l⟩|⟨q,k,b,e,m,eb,l⟩
 ·subst m;obtain⟨z,t,x,d,f⟩:=qXY I.hok e;obtain⟨w',i,c⟩:=RelO.some_of (v:=v) (o:=valueAt x k) (by rw[l];exact d.val k)
  exact wpAny_getItem_of (qUT n) f.mapOf i (h w' _ (I.tok _) c)
 ·subst m;cases(show u=C4 b from n);obtain⟨z,t,r,d,f⟩:=qXW I.hok e;obtain⟨w',i,c⟩:=RelO.some_of (v:=v) (o:=(atKey r k).map (·.2)) (by rw[l];exact d.val k)
  obtain⟨p,hp,j⟩:=Q5.mp i;refine wpAny_getItem_heap (B68 hu) (qMX I.hok eb) f hp ?_;rw[j];exact h w' _ (I.tok _) c
theorem d_in {Q:Aa1}(p:A.units+1<cLine)(I:Inv X Ab σ H s)(g:DGet H a y o)(j:RelV y u)(h:∀s',Inv X Ab σ H s'->Q (.bool o.isSome) s'):
  wpAny (model X.prog X.w) A (B30 .In u (.ref a)) Q E s:=by
 rcases g with⟨m,k,e,i,l⟩|⟨m,k,b,e,i,n,l⟩
 ·subst i;obtain⟨z,f,t,c,d⟩:=qXY I.hok e;refine wpAny_in_of (qUT j) f d.mapOf ?_;rw[<- (c.val k).isSome_eq,<- l];exact h _ (I.tok _)
 ·subst i;cases(show u=C4 b from j);obtain⟨z,f,r,c,d⟩:=qXW I.hok e;refine wpAny_in_heap (B68 p) (qMX I.hok n) f d ?_;have q:=(c.val k).isSome_eq;rw[m5] at q;rw[<- q,<- l];exact h _ (I.tok _)
theorem qdP {Q:Aa1}(p:A.units+1<cLine)(I:Inv X Ab σ H s)(g:DGet H a y o)(j:RelV y u)(h:∀s',Inv X Ab σ H s'->Q (.bool (!o.isSome)) s'):
  wpAny (model X.prog X.w) A (B30 .NotIn u (.ref a)) Q E s:=by
 rcases g with⟨m,k,e,i,l⟩|⟨m,k,b,e,i,n,l⟩
 ·subst i;obtain⟨z,f,t,c,d⟩:=qXY I.hok e;refine wpAny_notIn_of (qUT j) f d.mapOf ?_;rw[<- (c.val k).isSome_eq,<- l];exact h _ (I.tok _)
 ·subst i;cases(show u=C4 b from j);obtain⟨z,f,r,c,d⟩:=qXW I.hok e;refine wpAny_notIn_heap (B68 p) (qMX I.hok n) f d ?_;have q:=(c.val k).isSome_eq;rw[m5] at q;rw[<- q,<- l];exact h _ (I.tok _)
theorem qOM {h':Heap}{t':Nat}{c:HO}(I:Inv X Ab σ H s)(g:Mut (H a))(f:Heap.SameBut a s.heap h')(h:∃q,h'.get? a=some q)(d:ObjOk X.prog X.w (Ag H a c) h' a c):
  Inv X Ab σ (Ag H a c) {s with heap:=h',toks:=t'}:=
 I.write (x:=a) (e:=a) g (.inl rfl) (λb q i z=>(f.2 b i).trans z) h d
theorem qbD {P:B13}{w:World}{H':Hp}{h':Heap}{Af:List (Key×V)}{vs:List (Key×Value)}(z:Af.length<=B12)(d:(a==B32)=false)(b:KV Af vs)(c:h'.DictOf (qBQ P w) a vs):
  ObjOk P w H' h' a (.dK Af):=⟨z,d,vs,b,c⟩
theorem qY2 {H':Hp}{Q:Unit->Shared->Prop}(hu:A.units+1<cLine)(I:Inv X Ab σ H s)(g:DPut H a y v H')(ry:RelV y u)(rv:RelV v r)(h:∀s',Inv X Ab σ H' s'->Q () s'):
  wpAny (model X.prog X.w) A (setItem (.ref a) u r) Q E s:=by
 rcases g with⟨i,k,e,j,l,m⟩|⟨i,k,b,e,j,eb,l,m⟩
 ·subst j m;obtain⟨z,t,vs,d,p⟩:=qaL I.hok e;have x:vs.length<=B12:=by rw[<- d.length];exact z
  have n:(putK i k v).length<=B12:=by have:=qB5 i k v;lia
  refine wpAny_setItem_pairs (hsz:=x) (qUT ry) p λh' f o=>h _ ?_;have he:∃q,h'.get? a=some q:=let⟨q,_,_,hq,_⟩:=f;⟨q,hq⟩
  exact qOM I (by rw[e];exact S5) o he (qbD n t (d.put k rv) f)
 ·subst j m;cases(show u=C4 b from ry);obtain⟨z,t,xs,d,p⟩:=qfX I.hok e;have x:xs.length<=B12:=by rw[<- C6 d];exact z
  have n:(putK i k v).length<=B12:=by have:=qB5 i k v;lia
  refine wpAny_setItem_heap (hsz:=x) (B68 hu) (qMX I.hok eb) p λh' f o=>h _ ?_;obtain⟨q,es,ep,hq,h2,h3,h4,_,h5⟩:=f;refine qOM I (by rw[e];exact S5) o ⟨q,hq⟩ ⟨n,t,_,(d.put k eb rv).keeps λc ys ec=>?_,q,es,ep,hq,h2,h3,h4,h5⟩
  rw[qA9 (qC1 ec e (λz=>nomatch z))];exact ec
end
def NoSl (i:Expr):Prop:=∀ov iv,subscripted i false ov iv=operate [ov,iv] (getItem ov iv)
theorem qc1 {prog:B13}{w:World}{A:Around}{E:Aa1}{s:Shared}{env:Env}{b a:Expr}{pos:Pos}{T id:String}{Q:Aa1}
  (g:typeLookup (.type T) "__getitem__" = pure (some (.builtin id))) (j:NoSl a)
  (h:wpAny (model prog w) A (eval b env) (λo s₁=>wpAny (model prog w) A (eval a env) (λi s₂=>s₂.TypeIs o T/\wpAny (model prog w) A (getItem o i) Q E s₂) E s₁) E s):
  wpAny (model prog w) A (eval (.Subscript b a pos) env) Q E s:=by
 refine Subscript_ (B18 h (λo s₁ l=>B18 l (λi s₂ d=>?_) λ_ _ x=>x) λ_ _ x=>x);obtain⟨e,d⟩:=d;unfold subscriptTail;refine B10 ?_;rw[getitemInPython_of_ne e.not_modules];refine B10 (wpAny_specialOf e g ?_);have c:wpAny (model prog w) A (subscripted a false o i) (λr f=>wpAny (model prog w) A (letTemporaryGo b o r >>= λ_=>pure r) Q E f) E s₂:=by
  rw[j o i];exact wpAny_operating (B18 d (λr f k=>B10 (wpAny_letTemporaryGo (B11 k))) λ_ _ x=>x)
 first
  |exact B11 (B10 c)
  |exact B10 (B11 (B10 c))
  |exact B10 c
theorem qS2 {X:Cx} {Ab:Aa2} {σ:St} {H:Hp} {s:Shared} {a:Addr} {y:V} {o:Option V} (I:Inv X Ab σ H s) (g:DGet H a y o):s.TypeIs (.ref a) "dict":=by
 rcases g with⟨d,k,e,_,_⟩|⟨d,k,b,e,_,_,_⟩
 ·obtain⟨_,_,f,_,c⟩:=qXY I.hok e;exact c.typeIs
 ·obtain⟨_,_,h,_,c⟩:=qXW I.hok e;exact c.typeIs
def qgM (td ty:TE):TE:=λσ H Q=>td σ H λx H1=>ty σ H1 λy H2=>∃a v,x=.ref a/\DGet H2 a y (some v)/\Q v H2
def tDIn (ty td:TE):TE:=λσ H Q=>ty σ H λy H1=>td σ H1 λx H2=>∃a o,x=.ref a/\DGet H2 a y o/\Q (.bl o.isSome) H2
def qc0 (ty td:TE):TE:=λσ H Q=>ty σ H λy H1=>td σ H1 λx H2=>∃a o,x=.ref a/\DGet H2 a y o/\Q (.bl (!o.isSome)) H2
def qgR (td ty tv:TE):TS:=λD σ H=>tv σ H λv H1=>td σ H1 λx H2=>ty σ H2 λy H3=>∃a H4,x=.ref a/\DPut H3 a y v H4/\D.nx σ H4
section
variable{X:Cx}{o i e value:Expr}{pos pos' tpos:Pos}{td ty tv:TE}
theorem qBU (f:X.A.units+1<cLine)(j:PE X o td)(hi:PE X i ty)(d:NoSl i):PE X (.Subscript o i pos) (qgM td ty):=by
 intro c s σ H Q I h;refine qc1 PySem.F.slot_dict_getitem.lookup d (thn (j c s σ H _ I h) λu s1 ⟨x,H1,I1,rx,q1⟩=>thn (hi c s1 σ H1 _ I1 q1) λiv s2 ⟨y,H2,I2,ry,a,v,ex,g,q2⟩=>?_);subst ex;obtain rfl:u=C4 a:=rx;exact⟨qS2 I2 g,qY3 f I2 g ry λl k e b=>⟨v,H2,e,b,q2⟩⟩
theorem qPJ (d:X.A.units+1<cLine)(hi:PE X i ty)(e:PE X o td):PC X .In i o (tDIn ty td):=by
 intro b s σ H Q I h;refine thn (hi b s σ H _ I h) λiv s1 ⟨y,H1,I1,ry,q1⟩=>thn (e b s1 σ H1 _ I1 q1) λu s2 ⟨x,H2,I2,rx,a,ov,ex,g,q2⟩=>?_;subst ex;obtain rfl:u=C4 a:=rx;exact d_in d I2 g ry λf c=>⟨.bl ov.isSome,H2,c,rfl,q2⟩
theorem qKQ (d:X.A.units+1<cLine)(hi:PE X i ty)(e:PE X o td):PC X .NotIn i o (qc0 ty td):=by
 intro b s σ H Q I h;refine thn (hi b s σ H _ I h) λiv s1 ⟨y,H1,I1,ry,q1⟩=>thn (e b s1 σ H1 _ I1 q1) λu s2 ⟨x,H2,I2,rx,a,ov,ex,g,q2⟩=>?_;subst ex;obtain rfl:u=C4 a:=rx;exact qdP d I2 g ry λf c=>⟨.bl (!ov.isSome),H2,c,rfl,q2⟩
theorem qCG (d:X.A.units+1<cLine)(f:PE X o td)(hi:PE X i ty)(e:PE X value tv)(c:swapsWith value (some (.Subscript o i pos')) pos.line X.env=pure false):
  PS X (.Assign [.Subscript o i pos'] value pos) (qgR td ty tv):=by
 intro b s σ H D I h;refine wpAny_Assign_Subscript (thn (e b s σ H _ I h) λr s1 ⟨v,H1,I1,rv,q1⟩=>thn (f b s1 σ H1 _ I1 q1) λu s2 ⟨x,H2,I2,rx,q2⟩=>thn (hi b s2 σ H2 _ I2 q2) λiv s3 ⟨y,H3,I3,ry,a,H4,ex,g,q3⟩=>?_) c;subst ex;obtain rfl:u=C4 a:=rx;exact qY2 d I3 g ry rv λk j=>⟨σ,H4,j,q3⟩
end
theorem qTO {P:B13} {w:World} {H:Hp} (h:Heap) (a:B32<h.objs.size):ObjOk P w H (h.push {cls:=.type "dict",data:=.dict #[]}) h.objs.size (.dK []):=
 ⟨E7 _,beq_eq_false_iff_ne.mpr (J6 (D5 a)),[],.nil,Heap.DictOf.new h⟩
theorem qTM {P:B13} {w:World} {H:Hp} (h:Heap) (a:B32<h.objs.size):ObjOk P w H (h.push {cls:=.type "dict",data:=.dict #[]}) h.objs.size (.dT []):=
 ⟨E7 _,beq_eq_false_iff_ne.mpr (J6 (D5 a)),[],.nil,_,#[],0,B3 _ rfl,⟨rfl,rfl,rfl⟩,rfl,rfl,List.nodup_nil⟩
def qeE:TE:=λ_ H Q=>∀p,H p=none->Q (.ref p) (Ag H p (.dK []))
def qeD:TE:=λ_ H Q=>∀p,H p=none->Q (.ref p) (Ag H p (.dT []))
section
variable{X:Cx}{pos:Pos}
theorem qEA:PE X (.Dict [] [] pos) qeE:=λb s σ H Q I h=>
 wpAny_Dict_empty ⟨.ref s.heap.objs.size,_,I.laid (a:=s.heap.objs.size) (o:=.dK []) (t':=s.toks) (λ_ _ q=>A5 _ q) (A7 _) (qTO s.heap I.big),rfl,h _ (I.hok.fresh (A7 _))⟩
theorem qZJ:PE X (.Dict [] [] pos) qeD:=λb s σ H Q I h=>
 wpAny_Dict_empty ⟨.ref s.heap.objs.size,_,I.laid (a:=s.heap.objs.size) (o:=.dT []) (t':=s.toks) (λ_ _ q=>A5 _ q) (A7 _) (qTM s.heap I.big),rfl,h _ (I.hok.fresh (A7 _))⟩
end
def qVI:List (TE×TE)->St->Hp->(List (V×V)->Hp->Prop)->Prop
 |[],_,H,Q=>Q [] H
 |(tk,tv)::r,σ,H,Q=>tk σ H λx H1=>tv σ H1 λy H2=>qVI r σ H2 λps H3=>Q ((x,y)::ps) H3
abbrev VV:List (V×V)->List (Value×Value)->Prop:=Paired λp q=>RelV p.1 q.1/\RelV p.2 q.2
def PPs (X:Cx)(pos:Pos)(keys:List (Option Expr))(values:List Expr)(trs:List (TE×TE)):Prop:=
 ∀(Ab:Aa2) (s:Shared) (σ:St) (H:Hp) (Q:List (V×V)->Hp->Prop),Inv X Ab σ H s->qVI trs σ H Q->
  wpAny (model X.prog X.w) X.A (evalPairs (pairTrees keys values X.env pos)) (λvs s'=>∃ps H',Inv X Ab σ H' s'/\VV ps vs/\Q ps H') X.xe s
theorem qcI {X:Cx}{pos:Pos}:PPs X pos [] [] []:=λa s σ H Q I h=>pairTrees_nil_walk ⟨[],H,I,.nil,h⟩
theorem qSY {X:Cx}{pos:Pos}{k v:Expr}{f:List (Option Expr)}{vs:List Expr}{tk d:TE}{a:List (TE×TE)}(i:PE X k tk)(j:PE X v d)(g:PPs X pos f vs a):
  PPs X pos (some k::f) (v::vs) ((tk,d)::a):=λc s σ H Q I h=>
 pairTrees_cons_walk (thn (i c s σ H _ I h) fun u s1 ⟨x,H1,I1,rx,q1⟩=>thn (j c s1 σ H1 _ I1 q1) fun w2 s2 ⟨y,H2,I2,ry,q2⟩=>
  thn (g c s2 σ H2 _ I2 q2) λws s3 ⟨ps,H3,I3,rel,q3⟩=>⟨(x,y)::ps,H3,I3,.cons ⟨rx,ry⟩ rel,q3⟩)
noncomputable def qKW (Af more:List (Key×V)):List (Key×V):=more.foldl (λb e=>putK b e.1 e.2) Af
theorem KV.merge:∀{more:List (Key×V)} {rs:List (Key×Value)} {Af:List (Key×V)} {vs:List (Key×Value)},KV more rs->KV Af vs->KV (qKW Af more) (merged vs rs):=by
 intro more rs Af vs r;unfold KV at r
 induction r generalizing Af vs with
 |nil=>intro q;exact q
 |@cons p q ps qs h t ih=>
  intro a;have e:KV (putK Af p.1 p.2) (stored vs q.1 q.2):=by
   have:=a.put p.1 h.2;rw[<- h.1];exact this
  exact ih e
theorem qHZ:∀(more Af:List (Key×V)),(qKW Af more).length<=Af.length+more.length
 |[],Af=>by show Af.length<=Af.length+0;lia
 |p::r,Af=>by
  have h1:=qHZ r (putK Af p.1 p.2);have h2:=qB5 Af p.1 p.2;show(qKW (putK Af p.1 p.2) r).length<=_;rw[C5];lia
theorem qN4 {P:B13}{w:World}:∀{Af:List (Key×V)} {ws:List (Value×Value)},VV (Af.map λkv=>(kV kv.1,kv.2)) ws->∃rs,Carries (qBQ P w) ws rs/\KV Af rs
 |[],_,r=>by rw[j4] at r;cases r;exact⟨[],S5,.nil⟩
 |p::Af,_,r=>by
  rw[C7] at r;cases r with
  |@cons a b as bs h t=>
   obtain⟨rs,c,q⟩:=qN4 (P:=P) (w:=w) t;obtain⟨b1,b2⟩:=b;exact⟨(p.1,b2)::rs,⟨qUT h.1,rfl,c⟩,.cons ⟨rfl,h.2⟩ q⟩
def qgL (trs:List (TE×TE)):TE:=λσ H Q=>∀p,H p=none->qVI trs σ (Ag H p (.dK [])) λps H2=>H2 p=some (.dK [])/\∃Af:List (Key×V),ps=Af.map (λkv=>(kV kv.1,kv.2))/\Af.length<=15/\Q (.ref p) (Ag H2 p (.dK (qKW [] Af)))
theorem qcP {X:Cx}{pos:Pos}{b:List (Option Expr)}{d:List Expr}{i:List (TE×TE)}(h:PPs X pos b d i)(g:b.all (·.isSome)=true)(u:b.length=d.length)(t:b≠[])
  (j:b.length<=15):PE X (.Dict b d pos) (qgL i):=by
 intro Ab s σ H Q I q;have l:=I.hok.fresh (A7 s.heap.objs.size);have y:=I.laid (a:=s.heap.objs.size) (o:=.dK []) (h':=s.heap.push {cls:=.type "dict",data:=.dict #[]}) (t':=s.toks) (λ_ _ q=>A5 _ q) (A7 _) (qTO s.heap I.big);refine wpAny_Dict_walk (knd:=qBQ X.prog X.w) g u t j (thn (h Ab _ σ _ _ y (q _ l)) λws s2 ⟨ps,H2,I2,rel,e,Af,ep,lk,q2⟩=>?_);subst ep;obtain⟨x,c,k⟩:=qN4 (P:=X.prog) (w:=X.w) rel;obtain⟨z,hd,n,m,dd⟩:=qaL I2.hok e;cases m;refine⟨x,c,dd,λh' f v=>⟨.ref s.heap.objs.size,_,?_,rfl,q2⟩⟩;have hz:(qKW [] Af).length<=B12:=by
  have p:=qHZ Af [];rw[K4] at p;rw[B24];lia
 have r:∃q,h'.get? s.heap.objs.size=some q:=let⟨q,_,_,hq,_⟩:=f;⟨q,hq⟩
 exact qOM I2 (by rw[e];exact S5) v r (qbD hz hd (k.merge .nil) f)
structure M1 (X:Cx)(o:Expr)(m:Str)(apos:Pos)(e:Expr)(cpos:Pos):Prop where
 base:B76 o m X.env (eval o X.env)=eval o X.env
 few:((backTo cpos (B17 [e] X.env)).all (fun x=>!x.1) && (backToKw cpos (B75 [] X.env)).all (fun x=>x.1.isSome)
  && decide (([e]:List Expr).length+([]:List B71).length+(if([]:List B71).isEmpty then 0 else 1)<30))=true
 line:(apos.endLine==cpos.line)=true
 trees:backTo cpos (B17 [e] X.env)=[(false,eval e X.env)]
structure M2 (X:Cx)(o:Expr)(m:Str)(apos:Pos)(e f:Expr)(cpos:Pos):Prop where
 base:B76 o m X.env (eval o X.env)=eval o X.env
 few:((backTo cpos (B17 [e,f] X.env)).all (fun x=>!x.1) && (backToKw cpos (B75 [] X.env)).all (fun x=>x.1.isSome)
  && decide (([e,f]:List Expr).length+([]:List B71).length+(if([]:List B71).isEmpty then 0 else 1)<30))=true
 line:(apos.endLine==cpos.line)=true
 trees:backTo cpos (B17 [e,f] X.env)=[(false,eval e X.env),(false,eval f X.env)]
section
variable{κ:Type}[DecidableEq κ]
theorem qNX:∀{l:List κ} {k:κ},l.Nodup->¬k∈l->(l++[k]).Nodup
 |[],k,_,_=>by simp
 |a::r,k,h,hk=>by
  obtain⟨h1,h2⟩:=L6.mp h;show(a::(r++[k])).Nodup;refine L6.mpr ⟨λm=>?_,qNX h2 λm=>hk (B8.mpr (r8 m))⟩;rcases B4.mp m with q|q
  ·exact h1 q
  ·exact hk (B8.mpr (E9 (A6.mp q).symm))
end
def noX:Aa1:=λ_ _=>False
noncomputable def qIF (env:Env):List (Str×B63)->List (Str×Addr)->List (Str×Addr)
 |[],acc=>acc
 |(n,k)::r,acc=>qIF env r (if(k==J1)=true then(n,(env.cells.lookup n).getD 0)::acc else acc)
theorem qG1 {env:Env}:∀{names:List (Str×B63)} {acc:List (Str×Addr)},(∀x,(x,J1)∈names->∃c,env.cells.lookup x=some c)->(∀x c,acc.lookup x=some c->env.cells.lookup x=some c)->
  ∀x c,(qIF env names acc).lookup x=some c->env.cells.lookup x=some c
 |[],acc,_,ha,x,c,h=>ha x c h
 |(n,k)::r,acc,hf,ha,x,c,h=>by
  refine qG1 (names:=r) (λy hy=>hf y (A8 _ hy)) (λy d hd=>?_) x c h
  split at hd
  ·rename_i hk
   have hk':k=J1:=by simpa using hk
   subst hk';obtain⟨e,he⟩:=hf n E4;by_cases hyn:y=n
   ·subst hyn;rw[O8,he] at hd;rw[he];exact hd
   ·rw[U4,beq_eq_false_iff_ne.mpr hyn] at hd;exact ha y d hd
  ·exact ha y d hd
theorem qG2 {env:Env}:∀{names:List (Str×B63)} {acc:List (Str×Addr)} {x:Str},((x,J1)∈names\/∃c,acc.lookup x=some c)->∃c,(qIF env names acc).lookup x=some c
 |[],acc,x,h=>by
  rcases h with h|h
  ·exact absurd h (by simp)
  ·exact h
 |(n,k)::r,acc,x,h=>by
  refine qG2 (names:=r) ?_;rcases h with h|⟨c,h⟩
  ·rcases B8.mp h with e|h
   ·cases e;refine .inr ⟨(env.cells.lookup n).getD 0,?_⟩;rw[if_pos (by rfl),O8]
   ·exact .inl h
  ·refine .inr ?_
   split
   ·by_cases hyn:x=n
    ·subst hyn;exact⟨_,O8⟩
    ·refine⟨c,?_⟩;rw[U4,beq_eq_false_iff_ne.mpr hyn];exact h
   ·exact⟨c,h⟩
theorem qLL {env:Env}(f:Str×B63->List (Str×Addr)->Sem (ForInStep (List (Str×Addr))))
  (hf:∀n k c,f (n,k) c=(if(k==J1)=true then(do let a <- cellOf env n;pure (L7 ((n,a)::c))) else pure (L7 c))):
  ∀(names:List (Str×B63)) (acc:List (Str×Addr)),(∀x,(x,J1)∈names->∃c,env.cells.lookup x=some c)->forIn names acc f=(pure (qIF env names acc):Sem _)
 |[],acc,_=>rfl
 |(n,k)::r,acc,h=>by
  have ih:=λacc=>qLL f hf r acc λx hx=>h x (A8 _ hx);rw[A76,hf];by_cases hk:(k==J1)=true
  ·have hk':k=J1:=by simpa using hk
   subst hk';obtain⟨c,hc⟩:=h n E4;rw[if_pos hk];unfold cellOf qIF;rw[hc,if_pos hk];exact ih _
  ·rw[if_neg hk];unfold qIF;rw[if_neg hk];exact ih _
theorem qJ1 {a:Scope}{env:Env}(h:∀x,(x,J1)∈a.names->∃c,env.cells.lookup x=some c):closureFor a env=pure (qIF env a.names []):=by
 unfold closureFor;dsimp only;rw[qLL (env:=env) _ (λn k c=>?_) a.names [] h]
 ·rfl
 ·rfl
theorem qED {env:Env}{x:Str}:∀{names:List (Str×B63)},
  (names.map λ(n,k)=>if(k==J1&&env.scope.kind == .function&&env.kindOf n==some .cell)=true then(n,A93) else(n,k)).lookup x =
   (names.lookup x).map λk=>if(k==J1&&env.scope.kind == .function&&env.kindOf x==some .cell)=true then A93 else k
 |[]=>rfl
 |(n,k)::r=>by
  have ih:=@qED env x r;rw[C7];by_cases hx:x=n
  ·subst hx;dsimp only;rw[O8 (b:=k),Q1]
   split
   ·rw[O8]
   ·rw[O8]
  ·have hb:(x==n)=false:=beq_eq_false_iff_ne.mpr hx;dsimp only;rw[U4 (k:=n) (b:=k),hb];dsimp only;rw[<- ih]
   split
   ·rw[U4,hb]
   ·rw[U4,hb]
structure LcZ where
 L:Addr
 cl:List (Str×Addr)
 ex:List Addr
 s₀:Shared
 H₀:Hp
noncomputable def lcCx (X:Cx)(scope:Scope)(own:List Str)(fv:List Nat)(z:LcZ):Cx where
 prog:=X.prog
 w:=X.w
 K:=X.K
 mg:=X.mg
 base:=X.base
 A:=X.A
 N:=own++fv.map λi=>X.N.getD i P2
 s₀:=z.s₀
 H₀:=z.H₀
 env:=compEnvC scope z.cl z.L X.env
 outer:=X.stack
 stack:=X.stack
 ex:=z.ex
 fn:=λ_=>false
 calm:=X.calm
 pn:=[]
 xe:=noX
structure LcScope (X:Cx)(scope:Scope)(own:List Str)(fv:List Nat):Prop where
 kind:scope.kind=.function
 nocell:∀y∈scope.names,y.2≠.cell
 names:∀y∈scope.names,y.2=.local->scope.names.lookup y.1=some .local
 free:∀y∈scope.names,y.2=.free->X.env.kindOf y.1=some .cell\/X.env.kindOf y.1=some .free
 nd:(own++fv.map λi=>X.N.getD i P2).Nodup
 fvs:∀i∈fv,i<X.N.length/\scope.names.lookup (X.N.getD i P2)=some .free
noncomputable def qKZ (own:List Str)(fv:List Nat)(σ:St):St:=(own.map λ_=>none)++fv.map λi=>(σ[i]?).join
theorem qQE {prog:B13}{w:World}{A:Around}{R:Result->Shared->Prop}{s:Shared}{g a e:Expr}{f:List Expr}{d:Scope}{pos:Pos}{j acc:Value}{env:Env}(I:Nat->Shared->Prop)
  (i:∀ n s,I n s->wpAny (model prog w) A (pyNext j) (fun r s₁=>match r with
   |none=>R (.ok .next) s₁
   | some v=>wpAny (model prog w) A (B84 a j v) (fun _ s₁=>wpAny (model prog w) A (assign a env v) (fun _ s₂=>
     wpAny (model prog w) A (forIn f true fun c r=>if r=true then do let ok <- isTrue c env (eval c env);pure (L7 ok) else pure (L7 r)) (fun ok s₃=>
      if ok=true then wpAny (model prog w) A (eval g env) (fun x s₄=>
       wpAny (model prog w) A (call (.builtin "list.append") [acc,x]) (λ_ s₅=>∃m,m<n/\I m s₅) noX s₄) noX s₃
      else∃m,m<n/\I m s₃) noX s₂) noX s₁) noX s₁) noX s)
  (n:Nat) (h:I n s):
  B43 (model prog w) A (.compLoop (.ListComp g [⟨a,e,f,0⟩] d pos) 0 j acc env) R s:=by
 refine codeAny_loop rfl I (λn s t=>?_) n h;show wpAny _ A ((compTurn (.ListComp g [⟨a,e,f,0⟩] d pos) 0 j acc env).onRaise (λx=>do noteFrame x env;theTreesLotGoes x)) _ _ s
 refine wpAny_noted ?_;rw[compTurn_list];refine B10 (B40 (B10 (B18 (i n s t) (λr s₁ k=>?_) λ_ _ b=>b.elim)));cases r with
 |none=>exact B11 k
 |some v=>
  refine B10 (B18 k (λ_ s₁ k=>?_) λ_ _ b=>b.elim);refine B10 (B18 k (λ_ s₂ o=>B10 (B18 o (λok s₃ l=>?_) λ_ _ b=>b.elim)) λ_ _ b=>b.elim);cases ok with
  |false=>exact B11 ⟨rfl,l⟩
  |true=>
   exact B10 (B10 (B18 l (λx s₄ q=>B10 (B18 q (λ_ s₅ p=>B11 (B11 ⟨rfl,p⟩)) λ_ _ b=>b.elim)) λ_ _ b=>b.elim))
section
variable{X:Cx}{Ab:Aa2}{σ:St}{H:Hp}{s:Shared}
theorem Inv.other {h':Heap}{L:Addr}{n:Nat}(I:Inv X Ab σ H s)(a:X.s₀.heap.objs.size<=L)(g:H L=none)(d:L≠X.env.locals)(f:∀x c,X.env.cells.lookup x=some c->c≠L)(h:∀p∈X.pn++Ab,p.1≠L)
  (k:Heap.SameBut L s.heap h'):Inv X Ab σ H {s with heap:=h'}:=
 I.turned (t':=s.toks) (λb o a e=>(k.2 b a).trans e) g d (.inr a) f h
theorem qfG {a:Scope}{own:List Str}{fv:List Nat}{l:List Addr}(I:Inv X Ab σ H s)(S:LcScope X a own fv)(i:∀b∈l,FpOk X Ab H b)(hsz:∀b∈l,b<s.heap.objs.size):
  (lcCx X a own fv ⟨s.heap.objs.size,qIF X.env a.names [],l,s,H⟩).Ok:=by
 have j:∀x,(x,J1)∈a.names->∃c,X.env.cells.lookup x=some c:=λx h=>I.ok.has x (S.free _ h rfl);have f:=qG1 (env:=X.env) (names:=a.names) (acc:=[]) j (λx c z=>by simp at z)
 refine⟨I.ok.mod,S.kind,I.ok.glob,I.ok.blt,A7 _,λx y c p q=>I.ok.inj x y c (f _ _ p) (f _ _ q),λx h=>?_,λx c h=>?_,I.ok.hd,I.ok.frames,.inl rfl,λb g=>⟨?_,λx c e=>?_⟩,I.bs,E3 I.ok.bsz I.sz,λb o e g=>?_,λb g m=>?_,I.stack,I.stkFree⟩
 ·refine qG2 (.inl ?_);have d:(relabel a X.env).names.lookup x=some .cell\/(relabel a X.env).names.lookup x=some .free:=h;unfold relabel at d;rw[qED] at d;cases e:a.names.lookup x with
  |none=>rw[e] at d;simp at d
  |some k=>
   have n:=G9 e;have r:=S.nocell _ n;rw[e] at d;simp only[Q1,T9.injEq] at d;cases k with
   |free=>exact n
   |cell=>exact absurd rfl r
   |_=>simp at d
 ·cases h
 ·exact D5 (hsz b g)
 ·exact(i b g).2.2.2.2.1 x c (f _ _ e)
 ·rcases(i b g).2.2.2.1 with z|z
  ·exact I.ok.noex b o e z
  ·exact absurd (E1 (B5 (I.ok.bs b o e).1) z) (P7 _)
 ·rcases B8.mp (I.stkSub b m) with z|z
  ·exact(i b g).2.1 z
  ·exact(i b g).2.2.1 z
theorem qZS {a:Scope}{own:List Str}{fv:List Nat}{fp:List Addr}{h₁:Heap}{tk:Nat}(I:Inv X Ab σ H s)(S:LcScope X a own fv)(hf:∀b∈fp,FpOk X Ab H b)(hsz:∀b∈fp,b<s.heap.objs.size)
  (w:h₁.Ns s.heap.objs.size (λ_=>none)) (r:∀b o,s.heap.get? b=some o->h₁.get? b=some o):
  Inv (lcCx X a own fv ⟨s.heap.objs.size,qIF X.env a.names [],fp,s,H⟩) [] (qKZ own fv σ) H {s with heap:=h₁,toks:=tk}:=by
 have a1:∀x,(x,J1)∈a.names->∃c,X.env.cells.lookup x=some c:=λx hx=>I.ok.has x (S.free _ hx rfl);have h:=qG1 (env:=X.env) (names:=a.names) (acc:=[]) a1 (λx c z=>by simp at z)
 refine⟨qfG I S hf hsz,rfl,I.bare,Un.kept r,⟨_,w,λi x v f d h3=>?_⟩,λx c e=>?_,I.hok.fresh (A7 _),λx c e=>I.freeC x c (h _ _ e),λp hp=>absurd (show p∈([]:Aa2) from hp) (by simp),I.hok.kept r,?_⟩
 ·have f:(own++fv.map λi=>X.N.getD i P2)[i]?=some x:=f;unfold qKZ at d;have t:own.length<=i:=by
   apply q9;intro t;rw[R8 (by simpa using t),B6] at d
   cases e:own[i]? with
   |none=>rw[e] at d;cases d
   |some z=>rw[e] at d;cases d
  rw[G4 (by simpa using t),A0,B6] at d
  rw[G4 t,B6] at f;cases e:fv[i-own.length]? with
  |none=>rw[e] at f;cases f
  |some j=>
   rw[e] at f d;have hj:=S.fvs j (A9 e);have f:X.N.getD j P2=x:=B0 f;have d:(σ[j]?).join=some v:=B0 d;have a0:σ[j]?=some (some v):=by
    cases q:σ[j]? with
    |none=>rw[q] at d;cases d
    |some y=>rw[q] at d;exact congrArg some d
   have hx:X.N[j]?=some x:=by
    rw[O1] at f;rw[A4 hj.1] at f ⊢;exact congrArg some f
   have n:a.names.lookup x=some .free:=f ▸ hj.2;have g:=G9 n;obtain ⟨m,hn,hl⟩:=id I.loc;have k:=S.free _ g rfl;obtain ⟨u,ru,lk⟩:=hl j x v hx a0 (by
    rcases k with z|z
    ·exact .inr (.inl z)
    ·exact .inr (.inr z))
   refine⟨u,ru,?_⟩;rcases lk with⟨z,_⟩|⟨_,c,e1,z⟩
   ·rcases k with y|y
    ·have l:X.env.kindOf x=some .cell:=y;rw[z] at l;cases l
    ·have l:X.env.kindOf x=some .free:=y;rw[z] at l;cases l
   ·obtain⟨c',e2⟩:=qG2 (env:=X.env) (names:=a.names) (acc:=[]) (x:=x) (.inl g);have e3:=h _ _ e2;rw[e1] at e3;cases e3;obtain⟨o,ho,hd⟩:=z;refine .inr ⟨?_,c,e2,o,r _ _ ho,hd⟩;show(relabel a X.env).names.lookup x=some .cell\/(relabel a X.env).names.lookup x=some .free;unfold relabel;rw[qED,n,Q1]
    split
    ·exact .inl rfl
    ·exact .inr rfl
 ·obtain⟨v,o,ho,hd⟩:=I.cell x c (h _ _ e);exact⟨v,o,r _ _ ho,hd⟩
 ·unfold qKZ;show _=(own++fv.map λi=>X.N.getD i P2).length;rw[B7,B7,A0,A0,A0]
theorem qd6 {a:Scope}{own:List Str}{fv:List Nat}{f:List Addr}{c:Aa2}{σ':St}{H':Hp}{s':Shared}{g:List (Str×Addr)}(I:Inv X Ab σ H s)(d:∀b∈f,FpOk X Ab H b)
  (J:Inv (lcCx X a own fv ⟨s.heap.objs.size,g,f,s,H⟩) c σ' H' s'):Inv X Ab σ H' s':=
 I.call' (ch:=f) J.os J.base J.hok J.bare λb e=>⟨(d b e).2.2.2.1,(d b e).2.1,(d b e).2.2.2.2.1,(d b e).2.2.2.2.2⟩
end
def PTs (X:Cx)(ifs:List Expr)(t:TT):Prop:=
 ∀(Ab:Aa2) (s:Shared) (σ:St) (H:Hp) (Q:Bool->Hp->Prop),Inv X Ab σ H s->t σ H Q->
  wpAny (model X.prog X.w) X.A (forIn ifs true λc r=>if r=true then do let ok <- isTrue c X.env (eval c X.env);pure (L7 ok) else pure (L7 r)) (TP X Ab σ Q) X.xe s
def qgD:TT:=λ_ H Q=>Q true H
theorem qC7 {X:Cx}:PTs X [] qgD:=λa s σ H Q I h=>wpAny_tests_nil ⟨H,I,h⟩
theorem qH7 {X:Cx}{c:Expr}{t:TT}(h:PT X c t):PTs X [c] t:=λa s σ H Q I b=>wpAny_tests_one (h a s σ H Q I b)
def qfH (own:List Str)(fv:List Nat)(wi:TI)(g:TG)(tc:TT)(te:TE)(K:Addr->Hp->Prop):St->Hp->Prop:=λσ H=>wi σ H λJ H1=>∀p,H1 p=none->
 ∃W:Nat->Nat->St->Hp->Prop,(∃m,W 0 m (qKZ own fv σ) (Ag H1 p (.lst [])))/\∀i m σ H,W i m σ H->
  (J.stop i H/\K p H)\/(J.go i H/\∃ N:St->Hp->Prop,(∀ σ' H',N σ' H'->∃ m',m'<m/\W (i+1) m' σ' H')/\∀ x H',J.yld i H x H'->g x σ H' fun σ2 H2=>tc σ2 H2 fun b H3=>
   if b=true then te σ2 H3 λy H4=>∃ys,H4 p=some (.lst ys)/\ys.length<B12/\N σ2 (Ag H4 p (.lst (ys++[y])))
   else N σ2 H3)
def tLc (own:List Str)(fv:List Nat)(wi:TI)(g:TG)(tc:TT)(te:TE):TE:=λσ H Q=>qfH own fv wi g tc te (λp H'=>Q (.ref p) H') σ H
section
variable{X:Cx}{tg iter elt:Expr}{ifs:List Expr}{scope:Scope}{pos:Pos}{own:List Str}{fv:List Nat}{wi:TI}{g:TG}{tc:TT}{te:TE}
theorem qX0 {Ab:Aa2}{s:Shared}{σ:St}{H:Hp}{K:Addr->Hp->Prop}{use:Option (Value->Sem Unit)}{Q:Aa1}{E:Aa1}(hc:X.calm=true)(S:LcScope X scope own fv)(hi:PI X tg iter wi)
  (hg:∀z,PG (lcCx X scope own fv z) tg g) (ht:∀z,PTs (lcCx X scope own fv z) ifs tc) (he:∀z,PE (lcCx X scope own fv z) elt te)
  (I:Inv X Ab σ H s) (h:qfH own fv wi g tc te K σ H) (a8:∀e s,X.xe e s->E e s)
  (ak:∀ (p:Addr) (L:Addr) (H':Hp) (s':Shared) (m:Ab0),Inv X Ab σ H' s'->K p H'->s'.heap.Ns L m->X.s₀.heap.objs.size<=L->H' L=none->L ≠ X.env.locals->(∀ x c,X.env.cells.lookup x=some c->c ≠ L)->(∀ q ∈ X.pn++Ab,q.1 ≠ L)->
   compPost (model X.prog X.w) X.A E use Q (.ref p) L (.ok .next) s') (hs:∀x,B72 iter X.env x=pure x:=by intro _;rfl):
  wpAny (model X.prog X.w) X.A (comprehension (.ListComp elt [⟨tg,iter,ifs,0⟩] scope pos) scope X.env (firstIterPos [⟨tg,iter,ifs,0⟩] pos) (newList []) false (eval iter X.env) use) Q E s:=by
 have an:∀x,(x,J1)∈scope.names->∃c,X.env.cells.lookup x=some c:=λx hx=>I.ok.has x (S.free _ hx rfl);refine wpAny_comprehension_free rfl hs (qJ1 an) S.kind S.names (B18 (hi Ab s σ H _ I h) (λv s1 h1=>B18 h1 (λap j h2=>?_) a8) a8);obtain⟨it,k,tn,J,H2,e,I2,T,a9,f2,q2⟩:=h2;subst e
 -- the list
 refine B21 ?_;have a3:H2 j.heap.objs.size=none:=I2.hok.fresh (A7 _);have I3:Inv X Ab σ (Ag H2 j.heap.objs.size (.lst [])) {j with heap:=j.heap.push {cls:=.type "list",dict:=none,data:=.seq ([]:List Value).toArray}}:=
  I2.laid (t':=j.toks) (λb u e=>A5 _ e) (A7 _) ⟨E7 _,[],0,.nil,B3 _ rfl⟩
 obtain⟨W,⟨m0,w0⟩,ag⟩:=q2 j.heap.objs.size a3;have ai:∀b∈k,b<j.heap.objs.size:=λb a=>by
  obtain⟨o,e,_⟩:=T.obj 0 _ a9 b a;exact B5 e
 have f3:∀b∈k,FpOk X Ab (Ag H2 j.heap.objs.size (.lst [])) b:=λb a=>⟨by rw[qA9 (D5 (ai b a))];exact(f2 b a).1,(f2 b a).2⟩
 generalize hp:j.heap.objs.size=p at *;generalize hH3:Ag H2 p (.lst [])=H3 at *;have aj:tn 0 (j.heap.push {cls:=.type "list",dict:=none,data:=.seq ([]:List Value).toArray}):=T.keep _ _ _ a9 λb _ o e=>A5 _ e;have ao:∀b∈k,b<(j.heap.push {cls:=.type "list",dict:=none,data:=.seq ([]:List Value).toArray}).objs.size:=λb a=>by
  rw[U5];have:=ai b a;rw[hp];exact S9 this
 generalize hs3:({j with heap:=j.heap.push {cls:=.type "list",dict:=none,data:=.seq ([]:List Value).toArray}}:Shared)=f at *;have ae:tn 0 f.heap:=by rw[<- hs3];exact aj
 have a5:∀b∈k,b<f.heap.objs.size:=by rw[<- hs3];exact ao
 -- the block's frame
 refine wpAny_newFunctionEnv S.nocell (by intro y hy;simp at hy) (λh₁ af aa=>?_) S.kind
 have t:∀b o,f.heap.get? b=some o->h₁.get? b=some o:=λb o e=>aa.extBut b o (D5 (B5 e)) (A5 _ e);have J0:Inv (lcCx X scope own fv ⟨f.heap.objs.size,qIF X.env scope.names [],k,f,H3⟩) [] (qKZ own fv σ) H3 {f with heap:=h₁,toks:=f.toks+([]:List (Str×Value)).length}:=qZS I3 S f3 a5 af t;have a7:=qfG I3 S f3 a5;generalize hz:(⟨f.heap.objs.size,qIF X.env scope.names [],k,f,H3⟩:LcZ)=z at *;have a1:tn 0 h₁:=T.keep _ _ _ ae λb _ o e=>t b o e;have a4:∀b∈k,H3 b=none:=λb a=>(f3 b a).1;have a0:∀{H':Hp},(∀b∈k,H' b=none)->∀b∈k,FpOk (lcCx X scope own fv z) [] H' b:=λhn b a=>by
  subst hz;refine⟨hn b a,(a7.exf b a).1,a7.exfs b a,.inl a,(a7.exf b a).2,λq hq=>absurd (show q∈([]:Aa2) from hq) (by simp)⟩
 have ad:({newEnv scope f.heap.objs.size X.env.globals (qIF X.env scope.names []) X.env.qual none .none (some X.env) B83 with scope:=relabel scope X.env}:Env)=(lcCx X scope own fv z).env:=by
  subst hz
  rfl
 have a6:∀sA:Shared,sA={f with heap:=h₁,toks:=f.toks+([]:List (Str×Value)).length}->B43 (model X.prog X.w) X.A (.compLoop (.ListComp elt [⟨tg,iter,ifs,0⟩] scope pos) 0 (.ref it) (.ref p) (lcCx X scope own fv z).env)
   (compPost (model X.prog X.w) X.A E use Q (.ref p) f.heap.objs.size) sA:=by
  rintro sA rfl;refine qQE (λn s'=>∃i σ' H',Inv (lcCx X scope own fv z) [] σ' H' s'/\tn i s'.heap/\(∀b∈k,H' b=none)/\W i n σ' H') ?_ m0 ⟨0,_,H3,J0,a1,a4,w0⟩;rintro n s4 ⟨i,σ4,H4,I4,a1,a4,w4⟩;rcases ag i n σ4 H4 w4 with⟨ah,qn⟩|⟨go,Nx,ac,ab⟩
  ·refine thn (T.done (lcCx X scope own fv z) rfl rfl rfl hc i [] s4 σ4 H4 noX I4 (a0 a4) a1 ah) λr s5 ⟨hr,I5⟩=>?_;subst hr;subst hz;have I6:Inv X Ab σ H4 s5:=qd6 I3 f3 I5;obtain⟨m,hn,_⟩:=id I5.loc;have a2:=I3.fpOk (H':=H4) (b:=f.heap.objs.size) (A7 _) I5.free;refine ak p f.heap.objs.size H4 s5 m I6 qn hn I3.sz a2.1 a2.2.1 a2.2.2.2.2.1 a2.2.2.2.2.2
  ·refine thn (T.item (lcCx X scope own fv z) rfl rfl rfl hc i [] s4 σ4 H4 noX I4 (a0 a4) a1 go) λr s5 ⟨u,hr,h5⟩=>?_;subst hr;refine thn h5 λ_ s6 ⟨x,H6,I6,r6,y6,st6,fr6⟩=>?_;have al:=I6.pinned (a0 fr6) (T.obj _ _ st6);have l:∀{σ7:St} {H7:Hp} {s7:Shared} {m':Nat},m'<n->Inv (lcCx X scope own fv z) ([]++qPI k s6.heap) σ7 H7 s7->W (i+1) m' σ7 H7->
     ∃m,m<n/\∃i σ' H',Inv (lcCx X scope own fv z) [] σ' H' s7/\tn i s7.heap/\(∀b∈k,H' b=none)/\W i m σ' H':=λ{σ7 H7 s7 m'} hm I7 w7=>by
    refine⟨m',hm,i+1,σ7,H7,I7.unpinned,T.keep _ _ _ st6 λb a o e=>(I7.pin (b,o) (G5 _ (G5 _ (qGG a e)))).1,λb a=>?_,w7⟩;obtain⟨o,e,d⟩:=T.obj _ _ st6 b a;exact(I7.pin (b,o) (G5 _ (G5 _ (qGG a e)))).2.1
   refine thn (hg z _ s6 σ4 H6 x u _ al r6 (ab x H6 y6)) λ_ s7 ⟨σ7,H7,I7,q7⟩=>?_;refine thn (ht z _ s7 σ7 H7 _ I7 q7) λb s8 ⟨H8,I8,q8⟩=>?_;cases b with
   |false=>
    obtain⟨m',hm,w8⟩:=ac _ _ q8;exact l hm I8 w8
   |true=>
    refine thn (he z _ s8 σ7 H8 _ I8 q8) λv s9 ⟨y,H9,I9,r9,ys,ep,hl,w9⟩=>?_;refine thn (qD2 (X:=lcCx X scope own fv z) _ s9 σ7 H9 (.ref p) [y] (.ref p) [v] (λ_ H'=>Nx σ7 H') I9 rfl (.cons r9 .nil) ⟨p,ys,y,rfl,rfl,ep,hl,w9⟩) λ_ s10 ⟨_,H10,I10,_,q10⟩=>?_;obtain⟨m',hm,am⟩:=ac _ _ q10;exact l hm I10 am
 rw[ad];exact codeAny_compStart_list (a6 _ rfl) (T.self _ _ _ _ _ a1 (a6 _ rfl))
theorem qGX (i:X.calm=true)(S:LcScope X scope own fv)(hi:PI X tg iter wi)(l:∀z,PG (lcCx X scope own fv z) tg g)(u:∀z,PTs (lcCx X scope own fv z) ifs tc)(t:∀z,PE (lcCx X scope own fv z) elt te)
  (c:∀x,B72 iter X.env x=pure x:=by intro _;rfl):PE X (.ListComp elt [⟨tg,iter,ifs,0⟩] scope pos) (tLc own fv wi g tc te):=by
 intro y s σ H Q I h;rw[eval_ListComp];refine qX0 (use:=none) (K:=λp a=>Q (.ref p) a) i S hi l u t I h (λ_ _ q=>q) (λp L a w m f q d k o r e j=>?_) c;exact⟨m,d,λv b=>⟨.ref p,a,f.other (n:=0) k o r e j b,rfl,q⟩⟩
theorem qUC {i:Nat}{x:Str}{b c:Pos}(hN:X.N.Nodup)(hx:X.N[i]?=some x)(o:X.env.scope.names.lookup x=some .local)(w:X.calm=true)(S:LcScope X scope own fv)(hi:PI X tg iter wi)(hg:∀z,PG (lcCx X scope own fv z) tg g)
  (ht:∀z,PTs (lcCx X scope own fv z) ifs tc) (he:∀z,PE (lcCx X scope own fv z) elt te) (f:swapsWith (.ListComp elt [⟨tg,iter,ifs,0⟩] scope pos) (some (.Name x b)) c.line X.env=pure true)
  (hs:∀x,B72 iter X.env x=pure x:=by intro _;rfl):PS X (.Assign [.Name x b] (.ListComp elt [⟨tg,iter,ifs,0⟩] scope pos) c) (tAsg (tLc own fv wi g tc te) (qXK i)):=by
 intro Ab s σ H D I h;rw[exec_Assign_Name_used _ _ _ _ f];refine B10 (B40 (B10 ?_));show wpAny _ X.A (do let _ <- comprehension (.ListComp elt [⟨tg,iter,ifs,0⟩] scope pos) scope X.env _ (newList []) false (eval iter X.env) (some (assign (.Name x b) X.env))) _ _ s
 refine B10 (B18 (qX0 (use:=some (assign (.Name x b) X.env)) (K:=fun p j=>D.nx (σ.set i (some (.ref p))) j) (Q:=fun _ l=>SP X Ab D .next l) (E:=X.xe) w S hi hg ht he I h (fun _ _ q=>q) (fun p L j l m I' q hn h1 h2 t r h5=>?_) hs)
  (λ_ l u=>B11 (B11 u)) λ_ _ e=>e)
 show wpAny _ X.A (assign (.Name x b) X.env (.ref p)) _ _ _;refine wpAny_assign_Name (qP2 (v:=.ref p) I' hN hx (.inl o) rfl (λs2 I2 ⟨a,hsb,ha⟩=>?_) (.inr o));have k:L≠a:=by
  rcases ha with z|z
  ·rw[z];exact t
  ·exactλy=>r x a z y.symm
 exact⟨m,hn.sameBut hsb k,λh' d=>⟨_,j,I2.other (n:=0) h1 h2 t r h5 d,q⟩⟩
end
abbrev LcG (I:It)(g:TG)(tc:TT)(te:TE)(Kf:Hp->Prop)(σ0:St)(H0:Hp)(p:Addr):Prop:=∃W:Nat->Nat->St->Hp->Prop,(∃m,W 0 m σ0 H0)/\∀i m σ H,W i m σ H->(I.stop i H/\Kf H)\/(I.go i H/\∃N:St->Hp->Prop,(∀σ' H',N σ' H'->∃m',m'<m/\W (i+1) m' σ' H')/\∀x H',I.yld i H x H'->g x σ H' λσ2 H2=>tc σ2 H2 λb H3=>if b=true then te σ2 H3 λy H4=>∃ys,H4 p=some (.lst ys)/\ys.length<B12/\N σ2 (Ag H4 p (.lst (ys++[y]))) else N σ2 H3)
theorem qGK {lo:Int}{n:Nat}{g:TG}{d:TT}{c:TE}{Kf:Hp->Prop}{σ0:St}{H0:Hp}{p:Addr}(Pv:Nat->St->Hp->Prop)(l:Pv 0 σ0 H0)
  (f:∀i σ H,i<n->Pv i σ H->g (.int (lo+i)) σ H λσ2 H2=>d σ2 H2 λb H3=>if b=true then c σ2 H3 λy H4=>∃ys,H4 p=some (.lst ys)/\ys.length<B12/\Pv (i+1) σ2 (Ag H4 p (.lst (ys++[y]))) else Pv (i+1) σ2 H3)
  (h:∀σ H,Pv n σ H->Kf H):
  LcG (Itr lo n) g d c Kf σ0 H0 p:=by
 refine⟨λi m σ H=>m=n-i/\i<=n/\Pv i σ H,⟨n,by simp,E7 _,l⟩,?_⟩
 rintro i m σ H ⟨rfl,hi,q⟩;by_cases a:i<n
 ·refine .inr ⟨a,Pv (i+1),λσ' j k=>⟨n-(i+1),by omega,rfl,a,k⟩,λx j y=>?_⟩
  obtain⟨e,y⟩:=y;subst e y;exact f i σ _ a q
 ·have e:i=n:=by omega
  subst e;exact .inl ⟨A7 _,h σ H q⟩
theorem qHB {K:Ab1}{a:Addr}{xs:List V}{g:TG}{h:TT}{f:TE}{Kf:Hp->Prop}{σ0:St}{H0:Hp}{p:Addr}(Pv:Nat->St->Hp->Prop)(r:Pv 0 σ0 H0)(j:∀i σ H,i<=xs.length->Pv i σ H->SqL K H a xs)
  (k:∀i x σ H,xs[i]?=some x->Pv i σ H->g x σ H λσ2 H2=>h σ2 H2 λb H3=>if b=true then f σ2 H3 λy H4=>∃ys,H4 p=some (.lst ys)/\ys.length<B12/\Pv (i+1) σ2 (Ag H4 p (.lst (ys++[y]))) else Pv (i+1) σ2 H3)
  (l:∀σ H,Pv xs.length σ H->Kf H):
  LcG (Itl K a) g h f Kf σ0 H0 p:=by
 refine⟨λi m σ H=>m=xs.length-i/\i<=xs.length/\Pv i σ H,⟨xs.length,by simp,E7 _,r⟩,?_⟩
 rintro i m σ H ⟨rfl,hi,q⟩;have d:=j i σ H hi q;by_cases c:i<xs.length
 ·refine .inr ⟨⟨xs,xs[i],d,by simp[c]⟩,Pv (i+1),λσ' n o=>⟨xs.length-(i+1),by omega,rfl,c,o⟩,λx n y=>?_⟩
  obtain⟨e,y⟩:=y;subst e;exact k i x σ _ (y xs d) q
 ·have e:i=xs.length:=by omega
  subst e;exact .inl ⟨⟨xs,d,A7 _⟩,l σ H q⟩
theorem qJ7 {K:Ab1}{a:Addr}{xs:List V}{g:TG}{h:TT}{f:TE}{Kf:Hp->Prop}{σ0:St}{H0:Hp}{p:Addr}(Pv:Nat->St->Hp->Prop)(r:Pv 0 σ0 H0)(j:∀i σ H,i<=xs.length->Pv i σ H->SqT K H a xs)
  (k:∀i x σ H,xs[i]?=some x->Pv i σ H->g x σ H λσ2 H2=>h σ2 H2 λb H3=>if b=true then f σ2 H3 λy H4=>∃ys,H4 p=some (.lst ys)/\ys.length<B12/\Pv (i+1) σ2 (Ag H4 p (.lst (ys++[y]))) else Pv (i+1) σ2 H3)
  (l:∀σ H,Pv xs.length σ H->Kf H):
  LcG (Itt K a) g h f Kf σ0 H0 p:=by
 refine⟨λi m σ H=>m=xs.length-i/\i<=xs.length/\Pv i σ H,⟨xs.length,by simp,E7 _,r⟩,?_⟩
 rintro i m σ H ⟨rfl,hi,q⟩;have d:=j i σ H hi q;by_cases c:i<xs.length
 ·refine .inr ⟨⟨xs,xs[i],d,by simp[c]⟩,Pv (i+1),λσ' n o=>⟨xs.length-(i+1),by omega,rfl,c,o⟩,λx n y=>?_⟩
  obtain⟨e,y⟩:=y;subst e;exact k i x σ _ (y xs d) q
 ·have e:i=xs.length:=by omega
  subst e;exact .inl ⟨⟨xs,d,A7 _⟩,l σ H q⟩
noncomputable def qX1 (scope:Scope)(own:List Str)(fv:List Nat)(osc:Scope)(N:List Str):Bool:=
 decide (scope.kind=.function)&&scope.names.all (λy=>decide (y.2≠.cell))&&scope.names.all (λy=>decide (y.2≠.local)||decide (scope.names.lookup y.1=some .local)) &&
 scope.names.all (λy=>decide (y.2≠.free)||(decide (osc.names.lookup y.1=some .cell)||decide (osc.names.lookup y.1=some .free)))&&decide ((own++fv.map λi=>N.getD i P2).Nodup) &&
 fv.all λi=>decide (i<N.length)&&decide (scope.names.lookup (N.getD i P2)=some .free)
theorem lcs {X:Cx}{a:Scope}{own:List Str}{fv:List Nat}(h:qX1 a own fv X.env.scope X.N=true):LcScope X a own fv:=by
 unfold qX1 at h;simp only[D6,decide_eq_true_eq,F5,G7] at h;obtain⟨⟨⟨⟨⟨f,g⟩,j⟩,c⟩,d⟩,i⟩:=h;exact⟨f,g,λy b e=>(j y b).resolve_left λz=>z e,λy b e=>(c y b).resolve_left λz=>z e,d,i⟩
theorem qh0 {N:List Str}(h:decide N.Nodup=true):N.Nodup:=of_decide_eq_true h
theorem qcM {X:Cx}{K:Ab1}{a:List Expr}{k n:Nat}{t:TGs}{pos:Pos}(e:X.K=K)(d:X.calm=true)(h:PGs X a t)(c:(B62 a X.env).length=n)(b:(B62 a X.env).findIdx? (·.1)=none):PG X (.Tuple a k pos) (gTup K n t):=by
 subst e c;exact qKO d h rfl b
theorem qIS {X:Cx}{K:Ab1}(a:X.K=K):IxR X (rIxT K):=by subst a;exact qBK
theorem qb3 {X:Cx}{K:Ab1}(a:X.K=K):OpR X (B30 .In) (rIn K false):=by subst a;exact qPN
theorem qYF {X:Cx} {K:Ab1} (a:X.K=K):qDX X (.builtin "len") (λxs H Q=>∃p ys,xs=[.ref p]/\(SqL K H p ys\/SqT K H p ys)/\Q (.int ys.length) H):=by subst a;exact qAH
theorem qOS {xs:Array Nat}{j:Nat}(up:∀a b,a<b->b<xs.size->xs.getD a j<xs.getD b j):∀(fuel lo hi:Nat),lo<=hi->hi<=xs.size->hi-lo<=fuel->(∀i,i<lo->xs.getD i j<j)->(∀i,hi<=i->i<xs.size->j<=xs.getD i j)->
  Z5 xs j fuel lo hi<=xs.size/\(∀i,i<Z5 xs j fuel lo hi->xs.getD i j<j)/\(∀i,Z5 xs j fuel lo hi<=i->i<xs.size->j<=xs.getD i j)
 |0,lo,hi,h1,h2,h3,a,b=>by
  have e:lo=hi:=by lia
  subst e;exact⟨h2,a,b⟩
 |fuel+1,lo,hi,h1,h2,h3,a,b=>by
  unfold Z5;by_cases hlt:lo<hi
  ·rw[if_pos hlt];dsimp only;have hm1:lo<=(lo+hi)/2:=by lia
   have hm2:(lo+hi)/2<hi:=by lia
   by_cases hc:xs.getD ((lo+hi)/2) j<j
   ·rw[if_pos hc];refine qOS up fuel _ _ (by lia) h2 (by lia) (λi hi'=>?_) b
    by_cases e:i=(lo+hi)/2
    ·rw[e];exact hc
    ·exact y7 (up i ((lo+hi)/2) (by lia) (by lia)) hc
   ·rw[if_neg hc];refine qOS up fuel _ _ (by lia) (by lia) (by lia) a (λi hi' hs=>?_)
    by_cases e:i=(lo+hi)/2
    ·rw[e];lia
    ·have:=up ((lo+hi)/2) i (by lia) hs
     lia
  ·rw[if_neg hlt];have e:lo=hi:=by lia
   subst e;exact⟨h2,a,b⟩
theorem qe8 {xs:Array Nat}(j:Nat)(h:xs.toList.Pairwise (·<·)):∀a b,a<b->b<xs.size->xs.getD a j<xs.getD b j:=λa b c d=>by
 have:=G2.mp h a b (by simpa using y7 c d) (by simpa using d) c
 rw[M5,M5,C8 (y7 c d),C8 d];simpa using this
theorem qV5 {xs:Array Nat}{j:Nat}(h:xs.toList.Pairwise (·<·)):U6 xs j<=xs.size/\(∀i,i<U6 xs j->xs.getD i j<j)/\(∀i,U6 xs j<=i->i<xs.size->j<=xs.getD i j):=by
 unfold U6;exact qOS (qe8 j h) xs.size 0 xs.size (E7 _) (A7 _) (by lia) (λi a=>absurd a (by lia)) (λi a b=>absurd b (by lia))
structure T7 (byText:Bool)(t:B57)(n:Nat):Prop where
 mask:t.mask=7
 dum:t.dummies=#[]
 plain:t.plain=true
 led:t.led=!byText
 size:t.place.size=n
 up:t.place.toList.Pairwise (·<·)
 le:∀j∈t.place.toList,j<=7
section
variable{byText:Bool}{t:B57}{n:Nat}
def pr (i pt:Nat):SetTable.Probe:={j:=i,more:=0,i:=i,perturb:=pt,dummy:=none}
end
theorem qN3 {α:Type}:∀(l:List α) (i:Nat) (h:i<l.length),(l[i]::l.eraseIdx i).Perm l
 |[],i,h=>absurd h (by simp)
 |a::r,0,h=>.refl _
 |a::r,i+1,h=>by
  have hi:i<r.length:=by simpa using h
  have ih:=qN3 r i hi;show(r[i]::a::r.eraseIdx i).Perm (a::r);exact(List.Perm.swap _ _ _).trans (ih.cons a)
theorem qW6 {α:Type}(next:Nat->Nat):∀(fuel k:Nat) (left:List α) (out:Array α),fuel=left.length->(A56 next fuel k left out).toList.Perm (out.toList++left)
 |0,k,left,out,h=>by
  have:left=[]:=L1.mp h.symm;subst this;unfold A56;simp
 |fuel+1,k,left,out,h=>by
  have hl:0<left.length:=by lia
  have hm:next k%left.length<left.length:=Nat.mod_lt _ hl;unfold A56;rw[A4 hm];dsimp only;refine(qW6 next fuel (k+1) _ _ (by rw[List.length_eraseIdx_of_lt hm];lia)).trans ?_
  rw[T0,L0];exact y8 _ (qN3 left _ hm)
theorem qW5 {α:Type}(next:Nat->Nat)(xs:Array α):(pickOrder next xs).toList.Perm xs.toList:=by
 unfold pickOrder;have:=qW6 next xs.size 0 xs.toList #[] (by simp)
 simpa using this
abbrev Ents:List Int->List (Int×Value)->Prop:=Paired λk e=>∃tk,e=(hashInt k,W2 k tk)
theorem Ents.perm:∀{es es':List (Int×Value)} {ks:List Int},Ents ks es->es'.Perm es->∃ks',Ents ks' es'/\ks'.Perm ks:=by
 intro es es' ks h p;have e:∀{a b:List (Int×Value)},a.Perm b->∀ks,Ents ks b->∃ks',Ents ks' a/\ks'.Perm ks:=by
  intro a b p
  induction p with
  |nil=>intro ks h;exact⟨ks,h,.refl _⟩
  |cons x p ih=>
   intro ks h;cases h with
   |cons r t=>
    obtain⟨ks',c,d⟩:=ih _ t;exact⟨_::ks',.cons r c,d.cons _⟩
  |swap x y l=>
   intro ks h;cases h with
   |cons r t=>
    cases t with
    |cons r' t'=>exact⟨_,.cons r' (.cons r t'),.swap _ _ _⟩
  |trans p q ih1 ih2=>
   intro ks h;obtain⟨f,c,d⟩:=ih2 ks h;obtain⟨i,j,g⟩:=ih1 f c;exact⟨i,j,g.trans d⟩
 exact e p ks h
noncomputable def byT (w:World):Bool:=w.params.followText "set-order"
def SetI (w:World)(a:Addr)(zs:List Int)(h:Heap):Prop:=
 ∃(es:Array (Int×Value)) (ep:Nat) (t:B57) (ks:List Int),h.get? a=some {cls:=.type "set",data:=.set es ep t}/\T7 (byT w) t es.size/\Ents ks es.toList/\ks.Perm zs/\zs.Nodup/\zs.length<=4
theorem T7.fits {b:Bool}{t:B57}{n:Nat}(T:T7 b t n)(a:n<=7):t.fits n=true:=by
 unfold SetTable.fits SetTable.fill;rw[T.size,T.dum,T.mask];have:((#[]:Array Nat)).size=0:=rfl;simp only[this,beq_self_eq_true,p6,decide_eq_true_eq]
 lia
noncomputable def addI (zs:List Int)(k:Int):List Int:=if k∈zs then zs else zs++[k]
section
variable{prog:B13}{w:World}{A:Around}{E:Aa1}{s:Shared}
theorem SetI.size {a:Addr}{zs:List Int}{h:Heap}{b:Array (Int×Value)}{c:List Int}(e:Ents c b.toList)(d:c.Perm zs):b.size=zs.length:=by
 rw[<- d.length_eq,C6 e,E6]
set_option maxHeartbeats 3200000 in
end
theorem slot_si_next:Slot "set_iterator" "__next__" "set_iterator.__next__":=
 .of (owner:="set_iterator") (n:="__next__") (by rw[typeLookup_type,builtinLookup_eq_fast];kernel_rfl) (by decide +kernel) (by decide +kernel) (by decide +kernel)
  (by first|exact .inl (by decide +kernel)|exact .inr (by decide +kernel)) (by rw[isSubtype_type];kernel_rfl)
theorem qJ3:Slot "set_iterator" "__iter__" "set_iterator.__iter__":=
 .of (owner:="set_iterator") (n:="__iter__") (by rw[typeLookup_type,builtinLookup_eq_fast];kernel_rfl) (by decide +kernel) (by decide +kernel) (by decide +kernel)
  (by first|exact .inl (by decide +kernel)|exact .inr (by decide +kernel)) (by rw[isSubtype_type];kernel_rfl)
theorem qIC:entryFor table "set_iterator.__next__" = some Builtin.«set_iterator.__next__»:=entryFor_of_tree (by kernel_rfl)
theorem qOJ:entryFor table "set_iterator.__iter__" = some Builtin.«dict_keyiterator.__iter__»:=
 entryFor_alias (id':="dict_keyiterator.__iter__") (by kernel_rfl) rfl (by decide +kernel) (by kernel_rfl)
theorem qMA:entryFor table "set.__iter__" = some Builtin.«frozenset.__iter__»:=
 entryFor_alias (id':="frozenset.__iter__") (by kernel_rfl) rfl (by decide +kernel) (by kernel_rfl)
theorem qT5:Manifest.owners.lookup (String.ofList "set_iterator".toList.reverse.reverse)=some Manifest.sig_set_iterator:=by kernel_rfl
theorem qJC (a:Value):argsOk "set_iterator.__next__" ⟨[a],[]⟩:=by
 unfold argsOk;rw[signature?_of (id:="set_iterator.__next__") (n:="__next__".toList.reverse) (o:="set_iterator".toList.reverse) (by kernel_rfl) qT5];kernel_rfl
theorem qQR (a:Value):argsOk "set_iterator.__iter__" ⟨[a],[]⟩:=by
 unfold argsOk;rw[signature?_of (id:="set_iterator.__iter__") (n:="__iter__".toList.reverse) (o:="set_iterator".toList.reverse) (by kernel_rfl) qT5];kernel_rfl
noncomputable def qFI (w:World)(a:Addr)(ep:Nat)(es:Array (Int×Value)):List (Int×Value):=if byT w=true then(pickOrder (w.params.setOrder a ep) es).toList else es.toList
noncomputable def qFK (w:World)(t:B57)(i:Nat):Nat:=if byT w=true then 0 else if i=0 then 0 else t.place.getD (i-1) 0+1
theorem qFH (w:World)(a:Addr)(ep:Nat)(b:Array (Int×Value)):(qFI w a ep b).Perm b.toList:=by
 unfold qFI
 split
 ·exact qW5 _ _
 ·exact .refl _
theorem T7.below_at {b:Bool}{t:B57}{n:Nat}(T:T7 b t n)(i:Nat)(hi:i<=n):U6 t.place (if i=0 then 0 else t.place.getD (i-1) 0+1)=i:=by
 obtain⟨k,e,g⟩:=qV5 (j:=if i=0 then 0 else t.place.getD (i-1) 0+1) T.up
 have m:=T.size;have h:∀a c d,a<t.place.size->t.place.getD a c=t.place.getD a d:=λa c d l=>by
  rw[M5,M5,C8 l]
  rfl
 by_cases f:i=0
 ·rw[if_pos f] at k e g ⊢;subst f;apply Nat.eq_zero_of_not_pos;intro z;have:=e 0 z;omega
 ·rw[if_neg f] at k e g ⊢;have o:¬U6 t.place (t.place.getD (i-1) 0+1)<i:=λz=>by
   have:=g (i-1) (by omega) (by omega)
   rw[h (i-1) (t.place.getD (i-1) 0+1) 0 (by omega)] at this
   omega
  have p:¬i<U6 t.place (t.place.getD (i-1) 0+1):=λz=>by
   have q:=e i z;have:=qe8 0 T.up (i-1) i (by omega) (by omega)
   rw[h i (t.place.getD (i-1) 0+1) 0 (by omega)] at q
   omega
  omega
def SetIt (w:World)(a I:Addr)(es:Array (Int×Value))(ep:Nat)(t:B57)(i:Nat)(h:Heap):Prop:=
 (∃o,h.get? I=some o/\o.cls=.type "set_iterator"/\o.data=.fields #[.int (qFK w t i) 0,.int i 0,.ref a,.int es.size 0,.int ep 0])/\h.get? a=some {cls:=.type "set",data:=.set es ep t}
section
variable{prog:B13}{w:World}{A:Around}{E:Aa1}{s:Shared}{a I:Addr}{es:Array (Int×Value)}{ep:Nat}{t:B57}{i:Nat}
theorem SetIt.typeIs (x:SetIt w a I es ep t i s.heap):s.TypeIs (.ref I) "set_iterator":=let⟨⟨o,h1,h2,_⟩,_⟩:=x;⟨o,h1,h2⟩
theorem qPD {Q:Option (Value×Nat)->Shared->Prop} (T:T7 (byT w) t es.size) (k:es.size<=7) (f:s.heap.get? a=some {cls:=.type "set",data:=.set es ep t}) (hi:i<=es.size)
  (h:Q (match(qFI w a ep es)[i]? with|some e=>some (e.2,qFK w t (i+1))|none=>none) s):wpAny (model prog w) A (setNext a (qFK w t i) i ep) Q E s:=by
 have d:=T.fits k;unfold setNext;refine B10 (B38 f rfl d ?_);dsimp only;unfold setsByText;refine B10 (B10 (B79 (B11 ?_)));show wpAny _ _ (if byT w=true then _ else _) _ _ _
 cases hb:byT w with
 |true=>
  rw[if_pos rfl];simp only[bne_self_eq_false,M6,if_false];refine B10 ?_;unfold setWalk;refine B10 (B38 f rfl d ?_);dsimp only;unfold setsByText;refine B10 (B10 (B79 (B11 ?_)));show wpAny _ _ (if byT w=true then _ else _) _ _ _
  rw[hb,if_pos rfl];refine B10 (B79 (B11 (B11 ?_)));have e:qFI w a ep es=(pickOrder (w.params.setOrder a ep) es).toList:=by unfold qFI;rw[if_pos hb]
  have c:∀j,qFK w t j=0:=λj=>by unfold qFK;rw[if_pos hb]
  rw[e,F6,c] at h;rw[c];show Q (Option.map _ (pickOrder (w.params.setOrder a ep) es)[i]?) s;cases hx:(pickOrder (w.params.setOrder a ep) es)[i]? with
  |none=>rw[hx] at h;exact h
  |some v=>rw[hx] at h;exact h
 |false=>
  rw[if_neg (by simp)]
  show wpAny _ _ (if(!t.plain&&decide (es.size>1))=true then _ else _) _ _ _
  rw[T.plain];simp only[c6,j9,M6,if_false];refine B10 ?_;show wpAny _ _ (if(!t.led && !es.isEmpty)=true then _ else _) _ _ _
  rw[T.led,hb];simp only[Bool.not_false,c6,j9,M6,if_false];refine B11 (B11 ?_);have e:qFI w a ep es=es.toList:=by unfold qFI;rw[if_neg (by rw[hb];simp)]
  have c:∀j,qFK w t j=if j=0 then 0 else t.place.getD (j-1) 0+1:=λj=>by unfold qFK;rw[if_neg (by rw[hb];simp)]
  rw[e,F6] at h;rw[c,T.below_at i hi];cases hx:es[i]? with
  |none=>rw[hx] at h;exact h
  |some v=>
   rw[hx] at h;have b:i<t.place.size:=by rw[T.size];exact(Q6.mp hx).1
   rw[C8 b];dsimp only at h ⊢;have g:qFK w t (i+1)=t.place[i]+1:=by
    rw[c,if_neg (by omega),A34,M5,C8 b]
    rfl
   rw[g] at h;exact h
theorem qc8 {Q:Option Value->Shared->Prop}(T:T7 (byT w) t es.size)(m:es.size<=7)(c:SetIt w a I es ep t i s.heap)(d:a≠I){e:Int×Value}(l:(qFI w a ep es)[i]?=some e)
  (q:∀h',SetIt w a I es ep t (i+1) h'->(∀b o,b≠I->s.heap.get? b=some o->h'.get? b=some o)->Q (some e.2) {s with heap:=h'}):wpAny (model prog w) A (pyNext (.ref I)) Q E s:=by
 obtain⟨⟨o,j,r,f⟩,g⟩:=id c;have p:i<es.size:=by
  have:=(A3.mp l).1;rw[(qFH w a ep es).length_eq,E6] at this;exact this
 unfold pyNext;refine B10 (B77 (wpAny_callSpecial?_slot (name:=C0 "__next__") c.typeIs slot_si_next (B27 slot_si_next c.typeIs qIC ?_ (qJC _))));unfold Builtin.«set_iterator.__next__»;refine B10 (B11 ?_);refine B10 (wpAny_fieldsOf j f ?_);dsimp only;unfold setEntries;refine B10 (B10 (B38 g rfl (T.fits m) (B11 ?_)));rw[if_neg (by simp)]
 simp only[D7];refine B10 (qPD T m g (R4 p) ?_);rw[l];dsimp only;show wpAny _ _ (setField (.ref I) 0 (rawInt _) >>= _) _ _ s;refine B10 (B33 j f (by simp) ?_)
 have k:=F7 (P9 (·.setIfInBounds 0 (rawInt ((qFK w t (i+1):Nat):Int)))) j (R5 (L3 f _));have h:=L3 f (·.setIfInBounds 0 (rawInt ((qFK w t (i+1):Nat):Int)));refine B10 (B33 k h (by simp) ?_)
 have v:=F7 (P9 (·.setIfInBounds 1 (rawInt ((i:Int)+1)))) k (R5 (L3 h _));have u:=L3 h (·.setIfInBounds 1 (rawInt ((i:Int)+1)));refine B11 ⟨_,rfl,B11 (q _ ⟨⟨_,v,(Z6 ..).trans ((Z6 ..).trans r),?_⟩,?_⟩ λb x n e=>?_)⟩
 ·rw[u];simp[rawInt]
 ·exact(D3 _ _ (J6 d)).trans ((D3 _ _ (J6 d)).trans g)
 ·exact(D3 _ _ (J6 n)).trans ((D3 _ _ (J6 n)).trans e)
theorem qeO {Q:Option Value->Shared->Prop}(h:A.handled=none)(T:T7 (byT w) t es.size)(g:es.size<=7)(c:SetIt w a I es ep t es.size s.heap)
  (i:∀h',(∀b o,b≠I->s.heap.get? b=some o->h'.get? b=some o)->Q none {s with heap:=h'}):wpAny (model prog w) A (pyNext (.ref I)) Q E s:=by
 obtain⟨⟨o,f,k,e⟩,d⟩:=id c;unfold pyNext;refine B10 (B77 (wpAny_callSpecial?_slot (name:=C0 "__next__") c.typeIs slot_si_next (B27 slot_si_next c.typeIs qIC ?_ (qJC _))));unfold Builtin.«set_iterator.__next__»;refine B10 (B11 ?_);refine B10 (wpAny_fieldsOf f e ?_);dsimp only;unfold setEntries;refine B10 (B10 (B38 d rfl (T.fits g) (B11 ?_)));rw[if_neg (by simp)]
 simp only[D7];have j:(qFI w a ep es)[es.size]?=none:=M0 (by rw[(qFH w a ep es).length_eq,E6];exact A7 _)
 refine B10 (qPD T g d (A7 _) ?_);rw[j];dsimp only;show wpAny _ _ (setField (.ref I) 2 .none >>= _) _ _ s;refine B10 (B33 f e (by simp) ?_)
 show wpAny _ _ (newExc (.type "StopIteration") [] >>= _) _ _ _;refine B10 ?_;simp only[newExc,newTuple];refine B10 (B21 ?_ (by size_fits))
 refine B10 (m:=B61 _ _) (B65 (a:=L4) (by first|rfl|(simp only[B61];rfl)) ?_)
 refine B21 ?_ (by size_fits)
 simp only[raiseNew];refine B10 (wpAny_handled ?_);rw[show A.in1.handled=none from h];refine B10 (B11 (wpAny_throw ?_));refine B10 (wpAny_isInstance (T:="StopIteration") (b:=true) ⟨_,B3 _ rfl,rfl⟩ isSubtype_stop ?_);exact B11 (i _ (((X5 ..).extBut.push _).push _))
theorem qc7 {Q:Aa1}(b:SetIt w a I es ep t i s.heap)(h:Q (.ref I) s):wpAny (model prog w) A (pyIter (.ref I)) Q E s:=by
 refine wpAny_pyIter_slot b.typeIs qJ3 (B27 qJ3 b.typeIs qOJ ?_ (qQR _));show wpAny _ _ (ret (.ref I)) _ _ s;exact B11 ⟨_,rfl,"set_iterator",_,b.typeIs,slot_si_next.lookup,h⟩
theorem qeN {Q:Aa1} (T:T7 (byT w) t es.size) (f:es.size<=7) (b:s.heap.get? a=some {cls:=.type "set",data:=.set es ep t})
  (e:Q (.ref s.heap.objs.size) {s with heap:=s.heap.push {cls:=.type "set_iterator",data:=.fields #[.int 0 0,.int 0 0,.ref a,.int es.size 0,.int ep 0]}}):wpAny (model prog w) A (pyIter (.ref a)) Q E s:=by
 have d:s.TypeIs (.ref a) "set":=⟨_,b,rfl⟩;have c:=T.fits f;refine wpAny_pyIter_slot d F.slot_set_iter (B27 F.slot_set_iter d qMA ?_ (F.args_set_iter_1 _));unfold Builtin.«frozenset.__iter__» A94 A87 setEntries;refine B10 (B10 (B11 ?_));show wpAny _ _ (pure a) _ _ s;refine B11 ?_;refine B10 (B10 (B10 (B38 b rfl c (B11 (B11 ?_)))));unfold setDrawn setsByText;refine B10 (B10 (B38 b rfl c ?_));dsimp only;refine B10 (B10 (B79 (B11 (B11 ?_))));show wpAny _ _ (if(!byT w&&(!t.plain&&decide (es.size>1)))=true then _ else _) _ _ _
 rw[T.plain];simp only[c6,j9,W5,M6,if_false];refine B10 (B11 ?_);unfold setEpoch;refine B10 (B10 (B38 b rfl c (B11 ?_)));refine B10 (B21 (B11 ⟨_,rfl,"set_iterator",_,⟨_,B3 _ rfl,rfl⟩,slot_si_next.lookup,?_⟩));simpa[rawInt] using e
theorem qc9 {Q:Bool->Shared->Prop} (d:s.TypeIs (.ref a) "set") (h:Q false s):wpAny (model prog w) A (d6 (.ref a)) Q E s:=by
 unfold d6;refine B10 (wpAny_specialOf d PySem.F.slot_set_len.lookup ?_);generalize hid:("set.__len__" : String)=e
 wp_delta
 rw[show splitId e=some ("set","__len__") from by subst hid;decide +kernel]
 subst hid;refine B10 (wpAny_isInstance (T:="set") (b:=true) d (by rw[isSubtype_type];kernel_rfl) ?_)
 refine wpAny_ite_split (λc=>absurd c (by decide)) (λ_=>?_)
 refine wpAny_ite_split (λ_=>?_) (λc=>absurd (by decide +kernel) c)
 refine B10 (wpAny_typeOf d ?_);exact B11 h
theorem qeM (T:T7 (byT w) t es.size) (l:es.size<=7):PySem.W.KdlSrc prog w "set" a a es.size (λi v=>∃e,(qFI w a ep es)[i]?=some e/\v=e.2) (λh=>h.get? a=some {cls:=.type "set",data:=.set es ep t}) where
 type:=λs h=>⟨_,h,rfl⟩
 there:=λh x=>⟨B5 x,B5 x⟩
 keep:=λh d x k=>k a (.inl rfl) _ x
 notList:=by decide
 notTuple:=by decide
 hint:=λA E s Q x q=>qc9 ⟨_,x,rfl⟩ q
 iter:=λA s p x=>by
  have m:a≠s.heap.objs.size:=D5 (B5 x);refine⟨_,λi h=>SetIt w a s.heap.objs.size es ep t i h,λE Q q=>qeN T l x q,?_,⟨⟨_,B3 _ rfl,rfl,?_⟩,A5 _ x⟩⟩
  ·refine⟨λb f=>?_,λi h d c k=>?_,λi g Q E r c q=>?_,λg Q E c q=>?_,λi g Q E c q=>qc7 c q⟩
   ·have e:b=s.heap.objs.size:=by simpa using f
    simp[e]
   ·obtain⟨⟨o,y,h2,h3⟩,u⟩:=c;exact⟨⟨o,k _ (by simp) _ y,h2,h3⟩,k _ (by simp) _ u⟩
   ·have n:i<(qFI w a ep es).length:=by rw[(qFH w a ep es).length_eq,E6];exact r
    refine qc8 T l c m (A4 n) λd j k=>?_;exact q _ d g.toks ⟨_,A4 n,rfl⟩ j λb o f e=>k b o (λz=>f (by simp[z])) e
   ·refine qeO p T l c λd k=>?_;exact q d g.toks λb o f e=>k b o (λz=>f (by simp[z])) e
  ·unfold qFK
   split<;>rfl
end
theorem qF0 {ns:List Int}:∀{us:List Value},Vals (ns.map V.int) us->B20 us ns:=by
 induction ns with
 |nil=>intro us h;cases h;exact .nil
 |cons n r ih=>
  intro us h;cases h with
  |cons r1 r2=>
   obtain⟨t,rfl⟩:=r1;exact IntsAre.cons _ _ (ih r2)
theorem qFJ:∀{us:List Value} {ns:List Int},B20 us ns->Vals (ns.map V.int) us:=qK6
def SetO (w:World)(a:Addr)(zs:List Int):HO:=.ext (SetI w a zs)
theorem Inv.track {Ab:Aa2}{s:Shared}{σ:St}{H:Hp}{T:Addr}{o:HO}(I:Inv X Ab σ H s)(h0:H T=none)(m:X.s₀.heap.objs.size<=T)(z:T≠X.env.locals)(h3:∀x c,X.env.cells.lookup x=some c->c≠T)(l:∀p∈X.pn++Ab,p.1≠T)
  (f:ObjOk X.prog X.w (Ag H T o) s.heap T o):Inv X Ab σ (Ag H T o) s:=by
 have d:∀b ob,X.s₀.heap.get? b=some ob->b≠T:=λb ob e=>D5 (E1 (B5 e) m);have a:∀b u,H b=some u->(Ag H T o) b=some u:=λb u e=>by rw[qA9 (qA6 e h0)];exact e
 refine⟨I.ok,I.os,I.bare,⟨I.base.keep,I.base.slot,λb ob e n j=>?_,I.base.there,λb i e=>a _ _ (I.base.tups b i e),λb ob u e=>a _ _ (I.base.frzs b ob u e),λb k e=>?_⟩,I.loc,I.cell,?_,λx c e=>?_,λp g=>?_,λb u e=>?_,I.len⟩
 ·rw[qA9 (d b ob e)];exact I.base.free b ob e n j
 ·exact a _ _ (I.base.tbls b k e)
 ·rw[qA9 (J6 z)];exact I.free
 ·rw[qA9 (h3 x c e)];exact I.freeC x c e
 ·obtain⟨y,n,r⟩:=I.pin p g;exact⟨y,by rw[qA9 (l p g)];exact n,r⟩
 ·by_cases h:b=T
  ·subst h;rw[qA1] at e;cases e;exact f
  ·rw[qA9 h] at e;exact(I.hok b u e).stay (λc v _ q=>q) (λc q=>a _ _ q) (λc ys q=>a _ _ q) λc t q=>a _ _ q
theorem qSQ {Ab:Aa2}{s:Shared}{σ:St}{H:Hp}{Q:VK}{A:Around}{E:Aa1}{vs:List Value}{ns:List Int}{D:Addr}(I:Inv X Ab σ (Ag H D (.lst (ns.map V.int))) s)(v:H D=none)(l:ns.length<64)
  (q:∀ns':List Int,ns'.Perm ns->ns'.Pairwise (·<=·)->Q (.ref D) (Ag H D (.lst (ns'.map V.int)))):
  wpAny (model X.prog X.w) A (call (.builtin "list.sort") [.ref D]) (λ_ s'=>EP X Ab σ Q (.ref D) s') E s:=by
 obtain⟨z,g,n,h,t,e⟩:=I.lstM qA1;have o:=qF0 h;have d:=h.length;rw[A0] at d;refine B27 slot_list_sort ⟨_,e,rfl⟩ entry_list_sort (list_sort_tree (ns:=ns) (n:=n) e o (by lia) λout ns' m i k=>⟨_,rfl,?_⟩) (args_list_sort _)
 have a:=sortedHeap_at (vs:=g) (out:=out) e;obtain⟨r,a⟩:=a;refine⟨.ref D,Ag H D (.lst (ns'.map V.int)),?_,rfl,q ns' i k⟩;have j:Ag (Ag H D (.lst (ns.map V.int))) D (.lst (ns'.map V.int))=Ag H D (.lst (ns'.map V.int)):=qNB;rw[<- j];refine I.write (x:=D) (e:=D) (t':=s.toks) (by rw[qA1];exact trivial) (.inl rfl) (λb u p c=>?_) ⟨_,a⟩ ?_
 ·rw[sortedHeap_old p (B5 c)];exact c
 ·refine⟨?_,out.toList,r,qFJ m,by simpa using a⟩
  rw[A0,i.length_eq,<- A0 (f:=V.int)];exact z
theorem qMS {Ab:Aa2}{s:Shared}{σ:St}{H:Hp}{vs:List Value}{ns:List Int}(I:Inv X Ab σ H s)(a:B20 vs ns)(b:ns.length<=B12):
  Inv X Ab σ (Ag H s.heap.objs.size (.lst (ns.map V.int))) {s with heap:=s.heap.push {cls:=.type "list",data:=.seq vs.toArray}}:=
 I.lnew (t':=s.toks) (qFJ a) (by rw[A0];exact b)
theorem qS7 (hc:X.calm=true):qDX X (.builtin "sorted") (fun xs H Q=>∃ p ns,xs=[.ref p]/\(SqL X.K H p (ns.map V.int)\/SqT X.K H p (ns.map V.int)\/H p=some (SetO X.w p ns))/\ns.length<64/\
  ∀(a:Addr) (ns':List Int),H a=none->ns'.Perm ns->ns'.Pairwise (·<=·)->Q (.ref a) (Ag H a (.lst (ns'.map V.int)))):=by
 intro Ab s σ H xs us Q I r h;obtain ⟨p,ns,rfl,hq,a5,q⟩:=h;obtain ⟨u,rfl,rx⟩:=qFF r;cases rx;refine W6 kind_sorted plain_sorted entry_sorted (args_sorted1 _) ?_;unfold Builtin.«sorted»;refine B10 (m:=checkCount "sorted" 1 1 _) (B11 ?_);have c:∀ (s1:Shared) (vs:List Value) (zs:List Int),Inv X Ab σ H s1->B20 vs zs->zs.Perm ns->wpAny (model X.prog X.w) X.A.in1 (do
   let l <- newList vs
   let _ <- B60 [l] (call (.builtin "list.sort") [l] [])
   ret l) (λc s'=>∃r,c=.done (.ret r)/\EP X Ab σ Q r s') X.xe s1:=by
  intro s1 vs zs I1 y g;have d:=IntsAre.length y;have hz:zs.length<=B12:=by rw[g.length_eq,B24];lia
  refine B10 (wpAny_newList ?_ (by rw[d];exact hz))
  have hf:=I1.hok.fresh (A7 s1.heap.objs.size);refine B10 (B25 (B18 (qSQ (E:=X.xe) (vs:=vs) (qMS I1 y hz) hf (by rw[g.length_eq];exact a5) λns' a b=>q _ ns' hf (a.trans g) b) (λ_ s' x=>?_) λ_ _ e=>e))
  exact B11 ⟨_,rfl,x⟩
 rcases hq with hq|hq|hq
 ·obtain⟨a1,rv,pl,hz⟩:=I.list hq;obtain⟨o,ho,f,n,hd⟩:=pl.isList;have d:=rv.length;refine B10 (wpAny_collect_seq p (.inl rfl) ho f hd (λh' k=>?_) (by simp;lia))
  exact c _ _ ns (I.kept (t':=s.toks) k) (by simpa using qF0 rv) (.refl _)
 ·obtain⟨a1,rv,pl,hz⟩:=I.tuple hq;obtain⟨o,ho,f,n,hd⟩:=pl;have d:=rv.length;refine B10 (wpAny_collect_seq p (.inr rfl) ho f hd (λh' k=>?_) (by simp;lia))
  exact c _ _ ns (I.kept (t':=s.toks) k) (by simpa using qF0 rv) (.refl _)
 ·obtain⟨hS,_,_⟩:=(show ObjOk X.prog X.w H s.heap p (.ext (SetI X.w p ns)) from I.hok p _ hq);obtain⟨es,ep,t,ks,e,T,z,g,a6,h4⟩:=hS;have a0:es.size=ns.length:=SetI.size (a:=p) (h:=s.heap) z g;obtain⟨a2,h1,h2⟩:=z.perm (qFH X.w p ep es);refine B10 (d7 (A:=X.A.in1) (qeM (ep:=ep) T (by lia)) (I.ok.hd hc) e (by rw[a0,B24];lia) λh' tk a4 k j=>?_)
  refine c _ _ a2 (I.kept (t':=tk) k) ?_ (h2.trans g);obtain⟨l1,l2⟩:=j;have a3:∀{ks:List Int} {l:List (Int×Value)},Ents ks l->∀vs:List Value,vs.length=l.length->(∀(i:Nat) (v:Value),vs[i]?=some v->∃e:Int×Value,l[i]?=some e/\v=e.2)->B20 vs ks:=by
   intro ks l h
   induction h with
   |nil=>
    intro vs hl _;have:vs=[]:=L1.mp hl;subst this;exact .nil
   |cons r t ih=>
    intro vs hl y;cases vs with
    |nil=>simp at hl
    |cons v vs=>
     obtain⟨tk,rfl⟩:=r;obtain⟨e,z,rfl⟩:=y 0 v rfl;simp at z;subst z;exact IntsAre.cons _ _ (ih vs (by simpa using hl) λi v hi=>by simpa using y (i+1) v (by simpa using hi))
  refine a3 h1 a4.toList ?_ λi v hi=>l2 i v (by rw[<- F6];exact hi)
  rw[E6,l1,(qFH X.w p ep es).length_eq,E6]
noncomputable def qGY (lo hi:Int):List V:=(C3 (hi-lo).toNat).map λ(i:Nat)=>V.int (lo+i)
theorem qYC:qDX X (.type "range") (λxs H Q=>∃j,xs=[.int j]/\∀p,H p=none->Q (.ref p) (Ag H p (.rng 0 j))):=by
 intro a s σ H xs c Q I r h;obtain⟨j,rfl,q⟩:=h;obtain⟨u,rfl,t,rfl⟩:=qFF r;refine call_range_1 ⟨.ref s.heap.objs.size,_,I.laid (λb o e=>A5 _ e) (A7 _) ?_,rfl,q _ (I.hok.fresh (A7 _))⟩;exact⟨_,_,_,B3 _ rfl⟩
theorem qYB:qDX X (.type "range") (λxs H Q=>∃i j,xs=[.int i,.int j]/\∀p,H p=none->Q (.ref p) (Ag H p (.rng i j))):=by
 intro a s σ H xs d Q I r h;obtain⟨i,j,rfl,q⟩:=h;obtain⟨u,v,rfl,⟨t,rfl⟩,⟨c,rfl⟩⟩:=qQY r;refine call_range_2 ⟨.ref s.heap.objs.size,_,I.laid (λb o e=>A5 _ e) (A7 _) ?_,rfl,q _ (I.hok.fresh (A7 _))⟩;exact⟨_,_,_,B3 _ rfl⟩
theorem qST {lo hi:Int}{n:Nat}{acc:List Value}(c:n=(hi-lo).toNat)(a:acc.length=n)(h:∀(i:Nat) (v:Value),acc[i]?=some v->∃t,v=.int (lo+i*1) t):Vals (qGY lo hi) acc:=by
 have b:∀(m:Nat) (acc:List Value),acc.length=m->∀lo:Int,(∀(i:Nat) (v:Value),acc[i]?=some v->∃t,v=.int (lo+i) t)->Vals ((C3 m).map λ(i:Nat)=>V.int (lo+i)) acc:=by
  intro m
  induction m with
  |zero=>
   intro acc a lo h;have:acc=[]:=L1.mp a;subst this;exact .nil
  |succ m ih=>
   intro acc a lo h;cases acc with
   |nil=>simp at a
   |cons v acc=>
    rw[List.range_succ_eq_map,C7,T6];have f:=h 0 v rfl;refine .cons f ?_;have d:=ih acc (by simpa using a) (lo+1) λi v hi=>by
     have:=h (i+1) v (by simpa using hi)
     obtain⟨t,e⟩:=this;refine⟨t,?_⟩;rw[e];congr 1
     push_cast
     lia
    have e:((λ(i:Nat)=>V.int (lo+i)) ∘ Nat.succ)=λ(i:Nat)=>V.int (lo+1+i):=by
     funext i
     simp only[Function.comp];congr 1
     push_cast
     lia
    rw[e];exact d
 unfold qGY;rw[<- c];refine b n acc a lo λi v hi=>?_;obtain⟨t,e⟩:=h i v hi;exact⟨t,by rw[e,Int.mul_one]⟩
theorem qMN (lo hi:Int):(qGY lo hi).length=(hi-lo).toNat:=by unfold qGY;simp
theorem qeQ {lo hi:Int}:P8 lo hi 1=((hi-lo).toNat:Nat):=by rw[rangeSize_one];split<;>lia
theorem qOP (j:X.calm=true):qDX X (.type "list") (λxs H Q=>∃p lo hi,xs=[.ref p]/\H p=some (.rng lo hi)/\-1000000<=lo/\lo<=1000000/\-1000000<=hi/\hi<=1000000/\∀l,H l=none->Q (.ref l) (Ag H l (.lst (qGY lo hi)))):=by
 intro Ab s σ H xs us Q I r h;obtain⟨p,lo,hi,rfl,k,l1,l2,l3,z,q⟩:=h;obtain⟨u,rfl,f⟩:=qFF r;cases f;obtain⟨t,u,v,e⟩:=(show∃t u v,s.heap.get? p=some {cls:=.type "range",data:=.fields #[.int lo t,.int hi u,.int 1 v]} from I.hok p _ k);refine call_list_range (n:=(hi-lo).toNat) (I.ok.hd j) (show IsRange s.heap p lo hi 1 t u v from e) (small_one (by lia) (by lia) (by lia) (by lia)) qeQ (by lia) λc m b d g x a=>?_
 obtain⟨o,y⟩:=a;refine⟨.ref s.heap.objs.size,_,I.laid (t':=m) g (A7 _) (show ObjOk X.prog X.w _ c _ (.lst (qGY lo hi)) from⟨?_,b.toList,d,qST rfl (by simpa using o) λi v hi=>y i v (by rw[<- F6];exact hi),by simpa using x⟩),rfl,q _ (I.hok.fresh (A7 _))⟩
 rw[qMN,B24]
 lia
theorem qON {prog:B13}{w:World}{A:Around}{E:Aa1}{s:Shared}{R:List Value->Shared->Prop}{r:Addr}{a b:Int}{t u v:Tok}{n:Nat}(hh:A.handled=none)(hr:IsRange s.heap r a b 1 t u v)(g:A20 a b 1=true)
  (hn:P8 a b 1=n) (k:n<=2^24)
  (h:∀(h':Heap) (tk:Nat) (acc:Array Value),(∀b o,s.heap.get? b=some o->h'.get? b=some o)->ItemsOf (λi v=>∃t,v=.int (a+i*1) t) acc n->R acc.toList {s with heap:=h',toks:=tk}):
  wpAny (model prog w) A (collect (.ref r)) R E s:=by
 unfold collect;refine B10 (wpAny_runValue (B34 entry_proto_collect' ?_));rw[J4 PySem.F.plain_proto_collect _];show wpAny _ A.in1 (newList [] >>= λl=>again (.builtin "list.__iadd__" ⟨[l,.ref r],[]⟩)) _ _ s;refine B10 (B21 ?_);refine B11 ⟨B35 p8 _,B34 entry_list_iadd' ?_⟩;rw[J4 p8 _];have z:(s.heap.push {cls:=.type "list",data:=.seq ([]:List Value).toArray}).get? s.heap.objs.size=some {cls:=.type "list",data:=.seq #[]}:=B3 _ rfl;show wpAny _ A.in1 (Builtin.List.listExtendWith (.ref s.heap.objs.size) (.ref r) (.ref s.heap.objs.size)) _ _ _;have p:=wpAny_extend_range (prog:=prog) (w:=w) (A:=A) (s:={s with heap:=s.heap.push {cls:=.type "list",data:=.seq ([]:List Value).toArray}})
  (R:=fun (q:Result) (s':Shared)=>∃ (h':Heap) (tk:Nat) (acc':Array Value) (c':Nat),q=.ok (.ret (.ref s.heap.objs.size))/\s'={ s with heap:=h',toks:=tk }/\
   (∀b o,s.heap.get? b=some o->h'.get? b=some o)/\h'.get? s.heap.objs.size=some {cls:=.type "list",dict:=none,data:=.seq acc' c',slots:=#[]}/\ItemsOf (λi v=>∃t,v=.int (a+i*1) t) acc' n)
  hh (A5 _ hr) g hn k s.heap.objs.size (.ref s.heap.objs.size) 0 z
  (λh' tk acc' c' j d c=>⟨h',tk,acc',c',rfl,rfl,λb o e=>j b o (D5 (B5 e)) (A5 _ e),d,c⟩)
 refine B18 p (λm s' x=>?_) λe s' x=>?_
 ·cases m with
  |done f=>
   obtain⟨h',tk,acc',c',e,rfl,j,d,c⟩:=x;cases e;show wpAny _ A (load s.heap.objs.size >>= _) _ _ _;refine B10 (wpAny_load d ?_);exact B11 (h h' tk acc' j c)
  |again c₁=>
   refine⟨x.1,B46 x.2 λq s₂ y=>?_⟩;obtain⟨h',tk,acc',c',rfl,rfl,j,d,c⟩:=y;show wpAny _ A (load s.heap.objs.size >>= _) _ _ _;refine B10 (wpAny_load d ?_);exact B11 (h h' tk acc' j c)
 ·obtain⟨_,_,_,_,e',_⟩:=x;cases e'
theorem qQZ {prog:B13}{w:World}{A:Around}{E:Aa1}{s:Shared}{Q:Aa1}{r:Addr}{a b:Int}{t u v:Tok}{n:Nat}(y:A.handled=none)(x:IsRange s.heap r a b 1 t u v)(d:A20 a b 1=true)
  (z:P8 a b 1=n) (k:n<=2^24)
  (h:∀(h':Heap) (tk:Nat) (acc:Array Value),(∀b o,s.heap.get? b=some o->h'.get? b=some o)->ItemsOf (λi v=>∃t,v=.int (a+i*1) t) acc n->Q (.ref h'.objs.size) {s with heap:=h'.push {cls:=.type "tuple",data:=.seq acc},toks:=tk}):
  wpAny (model prog w) A (call (.type "tuple") [.ref r]) Q E s:=by
 have g:B43 (model prog w) A.in1 (.call (.builtin "tuple.__new__") ⟨[.type "tuple",.ref r],[]⟩) (wants (λc j=>j.TypeIs c "tuple"/\Q c j) E) s:=by
  refine codeAny_of_tree ?_;show wpAny _ A.in1.in1 (do checkBuiltinCall "tuple.__new__" ⟨[.type "tuple",.ref r],[]⟩;again (.builtin "tuple.__new__" ⟨[.type "tuple",.ref r],[]⟩)) _ _ s
  refine B10 (B65 (F.newCall_tuple_1 _) (B11 ⟨B35 A48 _,B34 F.entry_tuple_new ?_⟩));rw[J4 A48 _];have q:=sub_tuple_self;have l:=init_tuple_lookup;have a0:=madeHere_tuple;have p:s.TypeIs (.ref r) "range":=⟨_,x,rfl⟩
  wp_walk using wpAny_typeOf p,qON (prog:=prog) (w:=w) (A:=A.in1.in1) y x d z k
  intro h' tk acc hk f;show wpAny _ _ (m6 acc.toList.toArray >>= λv=>ret v) _ _ _;unfold m6;refine B10 (B21 ?_ (by show acc.toList.toArray.size<=B12;simp only[Array.toArray_toList];rw[f.1,B24];lia))
  refine B11 ?_;have e:acc.toList.toArray=acc:=by simp
  rw[e];exact⟨⟨_,B3 _ rfl,rfl⟩,h h' tk acc hk f⟩
 refine callType_codes (Q₁:=λc j=>j.TypeIs c "tuple"/\Q c j) A14 (F.typeCall_tuple_1 _) F.entry_object_init g λc j m=>?_;exact⟨m.1,A06 c _,object_init_meets A14.init.lookup A14.made (by decide) prog w A.in1 _ j ⟨m.1,rfl,m.2⟩⟩
theorem qMD (x:X.calm=true):qDX X (.type "tuple") (λxs H Q=>∃p lo hi,xs=[.ref p]/\H p=some (.rng lo hi)/\-1000000<=lo/\lo<=1000000/\-1000000<=hi/\hi<=1000000/\∀l,H l=none->Q (.ref l) (Ag H l (.tup (qGY lo hi)))):=by
 intro z s σ H xs us Q I r h;obtain⟨p,lo,hi,rfl,y,l1,l2,l3,l4,q⟩:=h;obtain⟨u,rfl,k⟩:=qFF r;cases k;obtain⟨t,u,v,e⟩:=(show∃t u v,s.heap.get? p=some {cls:=.type "range",data:=.fields #[.int lo t,.int hi u,.int 1 v]} from I.hok p _ y);refine qQZ (n:=(hi-lo).toNat) (I.ok.hd x) (show IsRange s.heap p lo hi 1 t u v from e) (small_one (by lia) (by lia) (by lia) (by lia)) qeQ (by lia) λd f c m a=>?_
 obtain⟨j,a2⟩:=a;have g:Inv X z σ H {s with heap:=d,toks:=f}:=I.kept m;refine⟨.ref d.objs.size,_,g.laid (t':=f) (λb o e=>A5 _ e) (A7 _) (show ObjOk X.prog X.w _ _ _ (.tup (qGY lo hi)) from⟨?_,c.toList,qST rfl (by simpa using j) λi v hi=>a2 i v (by rw[<- F6];exact hi),?_⟩),rfl,q _ (g.hok.fresh (A7 _))⟩
 ·rw[qMN,B24]
  lia
 ·have:=IsTup.new d c;simpa using this
theorem qUA:∀(bs:List Bool),((C3 bs.length).all λi=>(bs[i]?).getD true)=bs.all id:=by
 intro bs;rw[G6,F5,F5]
 constructor
 ·intro h b d;obtain⟨i,c,e⟩:=A07.mp d;have:=h i (E2.mpr c);rw[A4 c,e] at this;exact this
 ·intro h i c;have a:=E2.mp c;rw[A4 a];exact h _ (a9 a)
theorem qTS (t:X.calm=true):qDX X (.builtin "all") (λxs H Q=>∃(p:Addr) (bs:List Bool),xs=[.ref p]/\SqL X.K H p (bs.map V.bl)/\Q (.bl (bs.all id)) H):=by
 intro Ab s σ H xs us Q I r h;obtain⟨p,bs,rfl,hq,q⟩:=h;obtain⟨u,rfl,w⟩:=qFF r;cases w;obtain⟨c,m,z,hz⟩:=I.list hq;have g:=z.isList;have j:p<s.heap.objs.size:=by obtain⟨_,e,_⟩:=g;exact B5 e
 have a:=m.length;rw[A0] at a;refine call_all_walk (B37 g ?_);refine⟨s.heap.objs.size,[s.heap.objs.size,p],[s.heap.objs.size],c.toArray.size,_,_,λi=>(bs[i]?).getD true,rfl,A88 (A:=X.A.in1) (I.ok.hd t) _ p (D5 j) c.toArray,
  ⟨⟨_,B3 _ rfl,rfl,rfl⟩,g.push _⟩,λi v s' Q' E' n f=>?_,λh' tk y=>?_⟩
 ·have d:c[i]?=some v:=by simpa using n
  have l:i<bs.length:=by rw[a];exact(A3.mp d).1
  obtain⟨u,k,ru⟩:=m.get (i:=i) (x:=.bl bs[i]) (by rw[B6,A4 l];rfl)
  rw[d] at k;cases k;cases ru;dsimp only at f;rw[A4 l,Q9] at f;exact B28 f
 ·have e:((C3 c.toArray.size).all λi=>(bs[i]?).getD true)=bs.all id:=by
   rw[C1,<- a];exact qUA bs
  refine⟨.bl (bs.all id),H,I.kept λb x e=>y b x (λo=>by rw[A6.mp o] at e;exact P7 _ (B5 e)) (A5 _ e),?_,q⟩
  rw[e]
  rfl
theorem qCS:qDX X (.builtin "isinstance") (λxs H Q=>∃x T t b,xs=[x,.ty T]/\TyOf X.K H x t/\W3 X.K t (.type T)=some b/\Q (.bl b) H):=by
 intro i s σ H xs f Q I r h;obtain⟨x,T,t,b,rfl,e,a,q⟩:=h;obtain⟨u,v,rfl,d,c⟩:=qQY r;cases c;exact qXA I d e a λg=>⟨.bl b,H,I.tok _,rfl,q⟩
theorem qWK (c:X.A.units<cLine):OpR X (B30 .Eq) (λx y H Q=>∃p l xs,x=.ref p/\y=.ref l/\SqL X.K H p xs/\SqL X.K H l []/\Q (.bl xs.isEmpty) H):=by
 intro Ab s σ H x y v u Q I i t h;obtain⟨p,l,xs,rfl,rfl,n,o,q⟩:=h;cases i;cases t;obtain⟨k,d,f,w⟩:=I.list n;obtain⟨b,m,g,z⟩:=I.list o;cases m;cases xs with
 |nil=>
  cases d;exact SeqAt.eq_listAt (e:=λ_=>true) f.isList g.isList rfl c (λj h _=>absurd h (by simp)) ⟨.bl true,H,I,rfl,q⟩
 |cons a r=>
  cases d;exact SeqAt.eq_list_lengthsAt f.isList g.isList (by simp) c ⟨.bl false,H,I,rfl,q⟩
def Ite (K:Ab1)(l:Addr):It:=
 ⟨λi H=>∃xs x,SqL K H l xs/\xs[i]?=some x,λi H v H'=>∃T x,H T=none/\v=.ref T/\H'=Ag H T (.tup [.int (i:Int),x])/\∀xs,SqL K H l xs->xs[i]?=some x,λi H=>∃xs,SqL K H l xs/\xs.length<=i⟩
theorem Inv.turnedL {Ab:Aa2}{s:Shared}{σ:St}{H:Hp}{h':Heap}{t':Nat}{ch:List Addr}(I:Inv X Ab σ H s)(k:∀b o,b∉ch->s.heap.get? b=some o->h'.get? b=some o)(d:∀b∈ch,FpOk X Ab H b):Inv X Ab σ H {s with heap:=h',toks:=t'}:=by
 have f:∀b u,H b=some u->b∉ch:=λb u e z=>by rw[(d b z).1] at e;cases e
 refine I.step (g':=s.gens) (d':=s.drawn) (ch:=ch) (λb g=>⟨(d b g).2.2.2.1,(d b g).2.1,(d b g).2.2.2.2.1,(d b g).2.2.2.2.2⟩) (λb o _ _ a e _=>k b o a e) (λb o _ _ a e _=>⟨o.slots,k b o a e⟩) (λ_ _ _ _ n=>n)
  (λb o a e=>⟨o,k b o a e⟩) (λ_ _ e=>e) (λ_ _ _ e=>e) (λ_ _ e=>e) (λm i=>?_) (λb u e=>?_) I.bare
 ·obtain⟨o,h,j,l,r⟩:=i;exact⟨o,h,j,k _ o (λz=>(d _ z).2.1 rfl) l,r⟩
 ·refine(I.hok b u e).stay (λc v a q=>k c v ?_ q) (λ_ q=>q) λ_ _ q=>q;rcases a with z|z
  ·rw[z];exact f b u e
  ·exact f c _ z
theorem qVD {P:B13}{w:World}{K:Ab1}{n:List Expr}{k:Nat}{pos:Pos}(l c e:Addr)(m:e≠c):Turn P w K (.Tuple n k pos) (Ite K l) [e,c] e (λi h=>(∃old,IsEnum h e c i old)/\h.IsListIter c l i) where
 mem:=by simp
 obj:=λi h f b g=>by
  obtain⟨⟨old,d⟩,o,a,_,h4⟩:=f;have e':b=e\/b=c:=by simpa using g
  rcases e' with rfl|rfl
  ·exact⟨_,d,λv z=>by
    have z':A18 _=A73 v:=z;cases z'⟩
  ·exact⟨o,a,λv z=>by rw[h4] at z;cases z⟩
 keep:=λi h h' f kk=>by
  obtain⟨⟨old,d⟩,a⟩:=f;exact⟨⟨old,kk e (by simp) _ d⟩,a.at λo q=>kk c (by simp) o q⟩
 item:=by
  intro X hP hw hK hc i Ab s σ H E I t f hg;subst hP hw hK;obtain⟨xs,x,y,hx⟩:=hg;obtain⟨a6,rv,p,hz⟩:=I.list y;obtain⟨u,hu,ru⟩:=rv.get hx;obtain⟨⟨old,d⟩,a⟩:=f;refine wpAny_pyNext_enum_item d a p.isList (x:=u) (by simpa using hu) m λh' a1 a2 a3 a4 a5=>?_
  refine ⟨_,rfl,wpAny_letOwnedTupleGo_enum a1 fun a b1 b2=>?_⟩;have j:e<s.heap.objs.size:=B5 d;have I1:Inv X Ab σ H { s with heap:=a,toks:=s.toks+1 }:=I.turnedL (ch:=[e,c]) (fun b o g q=>by
   have r:b≠e:=λz=>g (by simp[z])
   have a0:b≠c:=λz=>g (by simp[z])
   exact(b2.2 b r).trans (a5 b o r a0 q)) t
  have hT:H s.heap.objs.size=none:=I.hok.fresh (A7 _);have fT:=I.fpOk (H':=H) (b:=s.heap.objs.size) (A7 _) hT;have gT:a.get? s.heap.objs.size=some {cls:=.type "tuple",data:=.seq #[.int i s.toks,u]}:=(b2.2 _ (U8 j)).trans a3;refine⟨.ref s.heap.objs.size,Ag H s.heap.objs.size (.tup [.int (i:Int),x]),I1.track hT I.sz fT.2.1 fT.2.2.2.2.1 fT.2.2.2.2.2 ⟨by simp only[C5,K4];rw[B24];decide,[.int (i:Int) s.toks,u],.cons ⟨_,rfl⟩ (.cons ru .nil),⟨_,gT,rfl,_,rfl⟩⟩,rfl,
   ⟨_,x,hT,rfl,rfl,λys hy=>by rw[I.list_inj hy y];exact hx⟩,⟨⟨_,b1⟩,a2.at λo q=>(b2.2 c (J6 m)).trans q⟩,λb g=>?_⟩
  have a7:b<s.heap.objs.size:=by
   have e':b=e\/b=c:=by simpa using g
   rcases e' with rfl|rfl
   ·exact j
   ·obtain⟨o,q,_⟩:=a;exact B5 (by assumption)
  rw[qA9 (D5 a7)];exact(t b g).1
 done:=by
  intro X hP hw hK hc i Ab s σ H E I t f hg;subst hP hw hK;obtain⟨xs,y,hx⟩:=hg;obtain⟨a6,rv,p,hz⟩:=I.list y;have hl:=rv.length;obtain⟨⟨old,d⟩,a⟩:=f;exact wpAny_pyNext_enum_end (I.ok.hd hc) d a p.isList (by simp;lia) λh' eb=>⟨rfl,I.turnedL (t':=s.toks) (ch:=[e,c]) (λb o g q=>eb b o (λz=>g (by simp[z])) q) t⟩
 self:=λ_ _ _ _ _ f h=>by
  obtain⟨⟨old,d⟩,a⟩:=f;exact B73 d h
def qhG (K:Ab1)(ta:TA):TI:=λσ H R=>ta σ H λvs H1=>∃l,vs=[.ref l]/\(∃xs,SqL K H1 l xs)/\R (Ite K l) H1
theorem qW7 {c:List Expr} {k:Nat} {d:Pos} {a:Expr} {g:TA} {p pos:Pos} (hg:Gl X "enumerate") (j:X.mg "enumerate" = none) (t:B19 "enumerate" = some (.type "enumerate")) (z:PA X [a] g) (x:B17 [a] X.env=[(false,eval a X.env)]:=by rfl):
  PI X (.Tuple c k d) (.Call (.Name "enumerate" p) [a] [] pos) (qhG X.K g):=by
 intro i s σ H R I h;refine Call_ (qI1 I hg j t (K3 (thn (z pos i s σ H _ I h) λus s1 ⟨vs,H1,I1,r1,q1⟩=>?_) x rfl));obtain⟨l,e,⟨xs,hq⟩,q⟩:=q1;subst e;obtain⟨u,rfl,n⟩:=qFF r1;cases n;obtain⟨r,rv,pl,hz⟩:=I1.list hq;refine call_enumerate_list pl.isList λy f hi m o=>?_;refine B73 f ?_;have I2:Inv X i σ H1 {s1 with heap:=y}:=I1.kept (t':=s1.toks) o;refine⟨s1.heap.objs.size+1,[s1.heap.objs.size+1,s1.heap.objs.size],_,_,H1,rfl,I2,qVD l s1.heap.objs.size (s1.heap.objs.size+1) (b7 _),⟨⟨_,f⟩,hi⟩,λb w=>?_,q⟩;have v:b=s1.heap.objs.size+1\/b=s1.heap.objs.size:=by simpa using w
 rcases v with rfl|rfl
 ·exact I1.fpOk (V1 _) (I1.hok.fresh (V1 _))
 ·exact I1.fpOk (A7 _) (I1.hok.fresh (A7 _))
theorem qIO {prog:B13}{w:World}{A:Around}{E:Aa1}{s:Shared}{b t:Addr}{i:Nat}{items:Array Value}{x:Value}{Q:Aa1}(a:s.heap.IsTupleIter b t i)(k:s.heap.IsTuple t items)(h:items[i]?=some x)
  (g:∀h':Heap,h'.IsTupleIter b t (i+1)->Heap.SameBut b s.heap h'->Q x {s with heap:=h'}):wpAny (model prog w) A (k4 (.ref b)) Q E s:=by
 obtain⟨o,d,j,c⟩:=id a;obtain⟨l,e,_,m,f⟩:=k;refine B10 (wpAny_callSpecial?_slot a.typeIs Q7 (B27 Q7 a.typeIs d8 ?_ (c8 _)));show wpAny _ _ (field (.ref b) 0 >>= _) _ _ _;refine B10 (B58 d c rfl ?_);refine B87 rfl ?_;show wpAny _ _ (field (.ref b) 1 >>= _) _ _ _;refine B10 (B58 d c rfl ?_);show wpAny _ _ (seqItems? (.ref t) >>= _) _ _ _;refine B10 (B44 e f ?_);show wpAny _ _ (match items[i]? with|some x=>_|none=>_) _ _ _
 rw[h];refine B10 (B33 d c (by simp) ?_)
 refine B11 ⟨x,rfl,B11 (g _ ⟨_,F7 _ d (R5 (L3 c _)),(Z6 o _).trans j,?_⟩ (X5 _ _ _))⟩;rw[L3 c];simp
 rfl
theorem qJN {prog:B13}{w:World}{A:Around}{E:Aa1}{s:Shared}{c t:Addr}{i:Nat}{items:Array Value}{Q:Aa1}(j:A.handled=none)(b:s.heap.IsTupleIter c t i)(n:s.heap.IsTuple t items)(k:items[i]?=none)
  (l:∀(h':Heap) (e:Addr),Heap.ExtBut c s.heap h'->(∃o,h'.get? e=some o/\o.cls=.type "StopIteration")->E (.ref e) {s with heap:=h'}):wpAny (model prog w) A (k4 (.ref c)) Q E s:=by
 obtain⟨o,g,p,f⟩:=id b;obtain⟨q,d,_,r,h⟩:=n;refine B10 (wpAny_callSpecial?_slot b.typeIs Q7 (B27 Q7 b.typeIs d8 ?_ (c8 _)));show wpAny _ _ (field (.ref c) 0 >>= _) _ _ _;refine B10 (B58 g f rfl ?_);refine B87 rfl ?_;show wpAny _ _ (field (.ref c) 1 >>= _) _ _ _;refine B10 (B58 g f rfl ?_);show wpAny _ _ (seqItems? (.ref t) >>= _) _ _ _;refine B10 (B44 d h ?_);show wpAny _ _ (match items[i]? with|some x=>_|none=>_) _ _ _
 rw[k];refine B10 (B51 ?_);refine B10 (B33 g f (by simp) ?_)
 show wpAny _ _ (newExc (.type "StopIteration") [] >>= _) _ _ _;refine B10 ?_;simp only[newExc,newTuple];refine B10 (B21 ?_ (by size_fits))
 refine B10 (m:=B61 _ _) (B65 (a:=L4) (by first|rfl|(simp only[B61];rfl)) ?_)
 refine B21 ?_ (by size_fits)
 simp only[raiseNew];refine B10 (wpAny_handled ?_);rw[show A.in1.handled=none from j];refine B10 (B11 (wpAny_throw ?_));exact l _ _ (((X5 ..).extBut.push _).push _) ⟨_,B3 _ rfl,rfl⟩
def SIt (b:Bool)(h:Heap)(it l:Addr)(i:Nat):Prop:=match b with|true=>h.IsTupleIter it l i|false=>h.IsListIter it l i
def SSq (b:Bool)(h:Heap)(l:Addr)(xs:Array Value):Prop:=match b with|true=>h.IsTuple l xs|false=>h.IsList l xs
noncomputable abbrev itObj (b:Bool) (l:Addr):Obj:={cls:=.type (match b with|true=>"tuple_iterator" |false=>"list_iterator"),data:=.fields #[.ref l,.int 0 0]}
theorem qUB {b:Bool}{prog:B13}{w:World}{A:Around}{E:Aa1}{s:Shared}{l:Addr}{xs:Array Value}{Q:Aa1}(h:SSq b s.heap l xs)(a:Q (.ref s.heap.objs.size) {s with heap:=s.heap.push (itObj b l)}):wpAny (model prog w) A (pyIter (.ref l)) Q E s:=by
 cases b
 ·exact B37 h a
 ·exact wpAny_pyIter_tuple h a
theorem qV1 {M:Model}{A:Around}{E:Aa1}{s:Shared}{c:Value}{Q:Bool->Shared->Prop}(h:∀b,Q b s):wpAny M A (W7 c) Q E s:=by
 unfold W7;exact B10 (wpAny_stack_any λa=>B11 (h _))
theorem qXV (l:Addr) (items:Array Value):Meets (Builtin.«enumerate.__new__» {pos:=[.type "enumerate",.ref l]}) λ_ R s=>
  s.heap.IsTuple l items/\R (.ok (.ret (.ref (s.heap.push (itObj true l)).objs.size))) {s with heap:=(s.heap.push (itObj true l)).push {cls:=.type "enumerate",data:=.fields #[.none,.bool false,.ref s.heap.objs.size,rawInt 0,.none,.none]}}:=by
 refine Meets.of_wp λa w A R s h=>?_;obtain⟨g,h⟩:=h;refine B10 ?_;refine B10 (B11 ?_);refine B87 rfl ?_;refine B10 (B65 sub_enumerate ?_);refine B87 rfl ?_;refine B11 ?_;refine wpAny_ite_true rfl ?_;refine B10 (qV1 λi=>?_);have f:wpAny (model a w) A.in1 (pyIter (.ref l) >>= λj=>c9 (.type "enumerate") (A21++[j,rawInt 0,.none,.none]) >>= λv=>ret v) (λd c=>∃v,d=.done (.ret v)/\R (.ok (.ret v)) c) (λe c=>R (.error e) c) s:=by
  refine B10 (qUB (b:=true) g ?_);refine B10 ?_;unfold c9;dsimp only;refine B21 ?_ (by first|rfl|(show(6:Nat)<=B12+2;rw[B24];decide))
  exact B11 ⟨_,rfl,h⟩
 cases i
 ·exact f
 ·exact f
theorem qV3 {prog:B13}{w:World}{A:Around}{E:Aa1}{s:Shared}{l:Addr}{items:Array Value}{Q:Aa1}(d:s.heap.IsTuple l items)
  (h:∀h':Heap,IsEnum h' (s.heap.objs.size+1) s.heap.objs.size 0 .none->h'.IsTupleIter s.heap.objs.size l 0->h'.objs.size=s.heap.objs.size+2->(∀(b:Addr) (o:Obj),s.heap.get? b=some o->h'.get? b=some o)->Q (.ref (s.heap.objs.size+1)) {s with heap:=h'}):
  wpAny (model prog w) A (call (.type "enumerate") [.ref l]) Q E s:=by
 refine callType_new F.called_enumerate (by decide) (F.typeCall_enumerate_1 _) (F.newCall_enumerate_1 _) (λc=>A06 c _) F.entry_enumerate_new (qXV l items) ⟨d,?_⟩
 have a:(s.heap.push (itObj true l)).objs.size=s.heap.objs.size+1:=U5 ..;rw[a];have g:((s.heap.push (itObj true l)).push {cls:=.type "enumerate",data:=.fields #[.none,.bool false,.ref s.heap.objs.size,rawInt 0,.none,.none]}).get? (s.heap.objs.size+1)=some {cls:=.type "enumerate",data:=.fields #[.none,.bool false,.ref s.heap.objs.size,rawInt 0,.none,.none]}:=by
  rw[<- a];exact B3 _ rfl
 exact⟨⟨_,g,rfl⟩,h _ g ⟨_,A5 _ (B3 _ rfl),rfl,rfl⟩ ((U5 ..).trans (by rw[a])) λb o e=>A5 _ (A5 _ e)⟩
theorem qbC {prog:B13}{w:World}{A:Around}(f:A.handled=none)(c l:Addr)(d:l≠c)(items:Array Value):Draws prog w A c [c,l] items.size (λi v=>items[i]?=some v) λi h=>h.IsTupleIter c l i/\h.IsTuple l items where
 live:=λi h ⟨⟨o,e,_⟩,_⟩=>⟨o,e⟩
 frame:=λi h h' ⟨⟨o,e,r⟩,⟨o2,e2,r2⟩⟩ k=>⟨⟨o,k c (by simp) _ e,r⟩,⟨o2,k l (by simp) _ e2,r2⟩⟩
 item:=λi s Q E hi ⟨h1,h2⟩ hQ=>qIO h1 h2 (C8 hi) λh' a b=>hQ _ h' s.toks (C8 hi) ⟨a,by obtain⟨o,e,r⟩:=h2;exact⟨o,(b.2 l d).trans e,r⟩⟩ b
 done:=λs Q E ⟨h1,h2⟩ hE=>qJN f h1 h2 (by simp) hE
def IteT (K:Ab1)(l:Addr):It:=
 ⟨λi H=>∃xs x,SqT K H l xs/\xs[i]?=some x,λi H v H'=>∃T x,H T=none/\v=.ref T/\H'=Ag H T (.tup [.int (i:Int),x])/\∀xs,SqT K H l xs->xs[i]?=some x,λi H=>∃xs,SqT K H l xs/\xs.length=i⟩
theorem qU2 {P:B13}{w:World}{K:Ab1}{y:List Expr}{k:Nat}{pos:Pos}(l a e:Addr)(n:e≠a)(hl:l≠a)(a9:l≠e):Turn P w K (.Tuple y k pos) (IteT K l) [e,a] e (λi h=>(∃old,IsEnum h e a i old)/\h.IsTupleIter a l i) where
 mem:=by simp
 obj:=λi h f b g=>by
  obtain⟨⟨old,d⟩,o,j,_,h4⟩:=f;have e':b=e\/b=a:=by simpa using g
  rcases e' with rfl|rfl
  ·exact⟨_,d,λv z=>by
    have z':A18 _=A73 v:=z;cases z'⟩
  ·exact⟨o,j,λv z=>by rw[h4] at z;cases z⟩
 keep:=λi h h' f kk=>by
  obtain⟨⟨old,d⟩,j⟩:=f;exact⟨⟨old,kk e (by simp) _ d⟩,j.at λo q=>kk a (by simp) o q⟩
 item:=by
  intro X hP hw hK hc i Ab s σ H E I hf f hg;subst hP hw hK;obtain⟨xs,x,hq,hx⟩:=hg;obtain⟨c,rv,p,hz⟩:=I.tuple hq;obtain⟨u,hu,ru⟩:=rv.get hx;obtain⟨⟨old,d⟩,j⟩:=f;have m:i<c.toArray.size:=by have:=(A3.mp hu).1;simpa using this
  refine wpAny_pyNext_enum_itemD (qbC (A:=X.A.in1) (I.ok.hd hc) a l hl c.toArray) d ⟨j,p⟩ m n (by simp[n,J6 a9]) λu' h' tk a0 a1 a2 a3 a4 a5=>?_
  have eu:u'=u:=by
   have:c[i]?=some u':=by simpa using a0
   rw[hu] at this;exact(B0 this).symm
  subst eu;refine ⟨_,rfl,wpAny_letOwnedTupleGo_enum a1 fun r b1 b2=>?_⟩;have t:e<s.heap.objs.size:=B5 d;have I1:Inv X Ab σ H { s with heap:=r,toks:=tk+1 }:=I.turnedL (ch:=[e,a]) (fun b o g q=>by
   have a6:b≠e:=λz=>g (by simp[z])
   have a7:b≠a:=λz=>g (by simp[z])
   exact(b2.2 b a6).trans (a5 b o a6 a7 q)) hf
  have hT:H s.heap.objs.size=none:=I.hok.fresh (A7 _);have fT:=I.fpOk (H':=H) (b:=s.heap.objs.size) (A7 _) hT;have gT:r.get? s.heap.objs.size=some {cls:=.type "tuple",data:=.seq #[.int i tk,u']}:=(b2.2 _ (U8 t)).trans a3;refine⟨.ref s.heap.objs.size,Ag H s.heap.objs.size (.tup [.int (i:Int),x]),I1.track hT I.sz fT.2.1 fT.2.2.2.2.1 fT.2.2.2.2.2 ⟨by simp only[C5,K4];rw[B24];decide,[.int (i:Int) tk,u'],.cons ⟨_,rfl⟩ (.cons ru .nil),⟨_,gT,rfl,_,rfl⟩⟩,rfl,
   ⟨_,x,hT,rfl,rfl,λys hy=>by rw[I.tuple_inj hy hq];exact hx⟩,⟨⟨_,b1⟩,a2.1.at λo q=>(b2.2 a (J6 n)).trans q⟩,λb g=>?_⟩
  have a8:b<s.heap.objs.size:=by
   have e':b=e\/b=a:=by simpa using g
   rcases e' with rfl|rfl
   ·exact t
   ·obtain⟨o,q,_⟩:=j;exact B5 q
  rw[qA9 (D5 a8)];exact(hf b g).1
 done:=by
  intro X hP hw hK hc i Ab s σ H E I hf f hg;subst hP hw hK;obtain⟨xs,hq,hx⟩:=hg;obtain⟨c,rv,p,hz⟩:=I.tuple hq;have aa:=rv.length;obtain⟨⟨old,d⟩,j⟩:=f;have m:i=c.toArray.size:=by simp;lia
  subst m;exact wpAny_pyNext_enum_endD (qbC (A:=X.A.in1) (I.ok.hd hc) a l hl c.toArray) d ⟨j,p⟩ λh' eb=>⟨rfl,I.turnedL (t':=s.toks) (ch:=[e,a]) (λb o g q=>eb b o (λz=>g (by simp[z])) q) hf⟩
 self:=λ_ _ _ _ _ f h=>by
  obtain⟨⟨old,d⟩,j⟩:=f;exact B73 d h
def qfQ (K:Ab1)(ta:TA):TI:=λσ H R=>ta σ H λvs H1=>∃l,vs=[.ref l]/\(∃xs,SqT K H1 l xs)/\R (IteT K l) H1
theorem qZD {d:List Expr} {k:Nat} {f:Pos} {a:Expr} {i:TA} {p pos:Pos} (hg:Gl X "enumerate") (n:X.mg "enumerate" = none) (x:B19 "enumerate" = some (.type "enumerate")) (ha:PA X [a] i) (hs:B17 [a] X.env=[(false,eval a X.env)]:=by rfl):
  PI X (.Tuple d k f) (.Call (.Name "enumerate" p) [a] [] pos) (qfQ X.K i):=by
 intro j s σ H R I h;refine Call_ (qI1 I hg n x (K3 (thn (ha pos j s σ H _ I h) λus s1 ⟨vs,H1,I1,r1,q1⟩=>?_) hs rfl));obtain⟨l,e,⟨xs,hq⟩,q⟩:=q1;subst e;obtain⟨u,rfl,t⟩:=qFF r1;cases t;obtain⟨w,rv,m,hz⟩:=I1.tuple hq;have c:l<s1.heap.objs.size:=by obtain⟨o,e,_⟩:=m;exact B5 e
 refine qV3 m λh' g hi r v=>?_;refine B73 g ?_;have I2:Inv X j σ H1 {s1 with heap:=h'}:=I1.kept (t':=s1.toks) v;refine⟨s1.heap.objs.size+1,[s1.heap.objs.size+1,s1.heap.objs.size],_,_,H1,rfl,I2,qU2 l s1.heap.objs.size (s1.heap.objs.size+1) (b7 _) (D5 c) (D5 (S9 c)),⟨⟨_,g⟩,hi⟩,λb z=>?_,q⟩;have y:b=s1.heap.objs.size+1\/b=s1.heap.objs.size:=by simpa using z
 rcases y with rfl|rfl
 ·exact I1.fpOk (V1 _) (I1.hok.fresh (V1 _))
 ·exact I1.fpOk (A7 _) (I1.hok.fresh (A7 _))
theorem qXN {K:Ab1}{a:Addr}{xs:List V}{g:TG}{d:TS}{D:Ends}{σ0:St}{H0:Hp}(Pv:Nat->St->Hp->Prop)(o:Pv 0 σ0 H0)(f:∀i σ H,i<=xs.length->Pv i σ H->SqT K H a xs)
  (h:∀i x σ H T,xs[i]?=some x->Pv i σ H->H T=none->g (.ref T) σ (Ag H T (.tup [.int (i:Int),x])) λσ2 H2=>d {D with nx:=Pv (i+1),ct:=Pv (i+1),bk:=D.nx} σ2 H2)
  (j:∀σ H,Pv xs.length σ H->D.nx σ H):
  ∃W:Nat->Nat->St->Hp->Prop,(∃m,W 0 m σ0 H0)/\∀i m σ H,W i m σ H->
   ((IteT K a).stop i H/\D.nx σ H)\/((IteT K a).go i H/\∃N:St->Hp->Prop,(∀σ' H',N σ' H'->∃m',m'<m/\W (i+1) m' σ' H')/\∀x H',(IteT K a).yld i H x H'->g x σ H' λσ2 H2=>d {D with nx:=N,ct:=N,bk:=D.nx} σ2 H2):=by
 refine⟨λi m σ H=>m=xs.length-i/\i<=xs.length/\Pv i σ H,⟨xs.length,by simp,E7 _,o⟩,?_⟩
 rintro i m σ H ⟨rfl,hi,q⟩;have c:=f i σ H hi q;by_cases b:i<xs.length
 ·refine .inr ⟨⟨xs,xs[i],c,by simp[b]⟩,Pv (i+1),λσ' H' n=>⟨xs.length-(i+1),by lia,rfl,b,n⟩,λv H' y=>?_⟩
  obtain⟨T,x,k,l,p,y⟩:=y;subst l p;exact h i x σ H T (y xs c) q k
 ·have e:i=xs.length:=by lia
  subst e;exact .inl ⟨⟨xs,c,rfl⟩,j σ H q⟩
open PySem
@[irreducible] def cst (i:Int)(p:Pos):Expr:=.Constant (.int i) 0 p
theorem qd1 {P:(St->Hp->Prop)->Prop}{B:St->Hp->Prop}(h:∀N:St->Hp->Prop,(∀σ H,B σ H->N σ H)->P N):∃N:St->Hp->Prop,(∀σ' H',N σ' H'->B σ' H')/\P N:=⟨B,λ_ _ z=>z,h B λ_ _ z=>z⟩
theorem qQ7 {K:Ab1}{a:Addr}{xs:List V}{g:TG}{b:TS}{D:Ends}{σ:St}{H:Hp}(Pv:Nat->St->Hp->Prop)(j:Pv 0 σ H)(c:∀i σ H,i<=xs.length->Pv i σ H->SqL K H a xs)
  (d:∀i x σ H,xs[i]?=some x->Pv i σ H->∀N:St->Hp->Prop,(∀σ H,Pv (i+1) σ H->N σ H)->g x σ H λσ2 H2=>b {D with nx:=N,ct:=N,bk:=D.nx} σ2 H2) (f:∀σ H,Pv xs.length σ H->D.nx σ H):
  ForG (Itl K a) g b D σ H:=
 qC4 Pv j c (λi x σ H e h=>d i x σ H e h _ λ_ _ z=>z) f
@[elab_as_elim] theorem us0 {α:Type}{P:List α->Prop}(a:List α)(b:a.length=0)(h:P []):P a:=by
 match a,b with
 |[],_=>exact h
@[elab_as_elim] theorem us1 {α:Type}{P:List α->Prop}(b:List α)(c:b.length=1)(h:∀a,P [a]):P b:=by
 match b,c with
 |[a],_=>exact h a
@[elab_as_elim] theorem us2 {α:Type}{P:List α->Prop}(c:List α)(d:c.length=2)(h:∀a b,P [a,b]):P c:=by
 match c,d with
 |[a,b],_=>exact h a b
@[elab_as_elim] theorem us3 {α:Type}{P:List α->Prop}(d:List α)(e:d.length=3)(h:∀a b c,P [a,b,c]):P d:=by
 match d,e with
 |[a,b,c],_=>exact h a b c
@[elab_as_elim] theorem us4 {α:Type}{P:List α->Prop}(e:List α)(f:e.length=4)(h:∀a b c d,P [a,b,c,d]):P e:=by
 match e,f with
 |[a,b,c,d],_=>exact h a b c d
end L2
namespace L2.G
open PySem PyProof.Rows
abbrev gSM:=StateT SortSt Sem
class NM where
 nm:Value->Int
 good:Value->Prop
variable[NM]
def gkv (p:Keyed):Int:=NM.nm p.1
def gIK (p:Keyed):Prop:=NM.good p.1
class LtOk (prog:B13)(w:World)(A:Around)(s:Shared)(κ0:B45):Prop where
 lt:∀{x y:Value} {Q:Bool->Shared->Prop} {E:Aa1},NM.good x->NM.good y->Q (decide (NM.nm x<NM.nm y)) s->wpAny (model prog w) A (keyLt' κ0 x y) Q E s
noncomputable def gK (xs:Array Keyed)(i:Nat):Int:=match xs[i]? with
 |some p=>NM.nm p.1
 |none=>0
def qI9 (xs:Array Keyed)(k:Nat):Prop:=∀i j,i<=j->j<k->gK xs i<=gK xs j
def qC3 (xs:Array Keyed):Prop:=∀p,p∈xs.toList->NM.good p.1
theorem qdE {xs:Array Keyed}{i:Nat}(hi:i<xs.size):gK xs i=NM.nm xs[i].1:=by unfold gK;rw[getElem?_pos xs i hi]
theorem qGO {xs a:Array Keyed}{i j:Nat}(h:xs[i]?=a[j]?):gK xs i=gK a j:=by unfold gK;rw[h]
theorem qLB {xs:Array Keyed}{a d:Nat}(f:a<xs.size)(g:d<=a)(k:Nat):
  gK (bubble xs a d) k=if k=a-d then gK xs a else if a-d<k/\k<=a then gK xs (k-1) else gK xs k:=by
 have e:=getElem?_bubble f d g k;by_cases b:k=a-d
 ·rw[if_pos b] at e ⊢;exact qGO e
 ·rw[if_neg b] at e ⊢;by_cases c:a-d<k/\k<=a
  ·rw[if_pos c] at e ⊢;exact qGO e
  ·rw[if_neg c] at e ⊢;exact qGO e
theorem qIA {xs:Array Keyed}{i j:Nat}(b:j<=xs.size)(k:Nat):
  gK (mirror xs i j ((j-i)/2)) k=if i<=k/\k<j then gK xs (i+j-1-k) else gK xs k:=by
 have e:=getElem?_mirror_all (i:=i) b k;by_cases a:i<=k/\k<j
 ·rw[if_pos a] at e ⊢;exact qGO e
 ·rw[if_neg a] at e ⊢;exact qGO e
theorem qAX {xs:Array Keyed}{i j:Nat}(c:j<=xs.size)(a:∀k,i<=k->k<j->gK xs k=gK xs (j-1))(k:Nat):
  gK (mirror xs i j ((j-i)/2)) k=gK xs k:=by
 rw[qIA c]
 split
 ·rw[a _ (by omega) (by omega),a k (by omega) (by omega)]
 ·rfl
noncomputable def qaB:Bool->Keyed->Array Keyed->Nat->Nat->Nat->gSM (Option Nat):=sortPriv% PySem.Builtin.gallop
noncomputable def gbey (left:Bool)(key:Keyed)(arr:Array Keyed)(base i:Nat):gSM (Option Bool):=do
 let x <- elem' arr (base+i)
 if left=true then lt' x key else do
  let r <- lt' key x
  pure (r.map λb=>!b)
section
variable{prog:B13}{w:World}{A:Around}{E:Aa1}{s:Shared}{κ0:B45}[LtOk prog w A s κ0]
theorem qI6 {st:SortSt}{x y:Keyed}{Q:Option Bool->SortSt->Prop}(a:kindOf st=κ0)(b:gIK x)(c:gIK y)(h:Q (some (decide (gkv x<gkv y))) st):wpS (model prog w) A E s (lt' x y) Q st:=by
 rw[lt'_eq];refine B14 (B54 ?_);rw[a];refine B14 (wpS_lift (B77 (LtOk.lt b c ⟨rfl,?_⟩)));exact B15 h
theorem qB6 {st:SortSt}{a:Array Keyed}{i:Nat}{x:Keyed}{Q:Keyed->SortSt->Prop}(h:a[i]?=some x)(b:Q x st):wpS (model prog w) A E s (elem' a i) Q st:=by
 rw[elem'_eq,h];exact B15 b
noncomputable def qAK (left:Bool)(key:Keyed)(a:Array Keyed)(base i:Nat):Bool:=match a[base+i]? with
 |some x=>if left=true then decide (gkv x<gkv key) else decide (gkv x<=gkv key)
 |none=>false
theorem qI7 {st:SortSt}{left:Bool}{b:Keyed}{a:Array Keyed}{base i:Nat}{Q:Option Bool->SortSt->Prop}(f:kindOf st=κ0)(c:gIK b)(g:∀x∈a.toList,gIK x)(hi:base+i<a.size)(h:Q (some (qAK left b a base i)) st):
  wpS (model prog w) A E s (gbey left b a base i) Q st:=by
 unfold gbey;have e:a[base+i]?=some (a[base+i]'hi):=C8 hi;have d:gIK (a[base+i]'hi):=g _ (by simp)
 unfold qAK at h;rw[e] at h;refine B14 (qB6 e ?_);cases left with
 |true=>exact qI6 f d c h
 |false=>
  refine B14 (qI6 f c d ?_);refine B15 ?_;have:(!decide (gkv b<gkv a[base+i]))=decide (gkv a[base+i]<=gkv b):=by
   by_cases q:gkv b<gkv a[base+i]
   ·rw[decide_eq_true q,decide_eq_false (by omega)];rfl
   ·rw[decide_eq_false q,decide_eq_true (by omega)];rfl
  show Q (some (!decide (gkv b<gkv a[base+i]))) st;rw[this];exact h
theorem qGM {st:SortSt}{left:Bool}{b:Keyed}{a:Array Keyed}{base n hint:Nat}{Q:Option Nat->SortSt->Prop}(hk:kindOf st=κ0)(p:gIK b)(ha:∀x∈a.toList,gIK x)(hn:base+n<=a.size)(hh:hint<n)
  (t:∀i j,i<=j->j<n->qAK left b a base j=true->qAK left b a base i=true)
  (h:∀k,k<=n->(∀i,i<k->qAK left b a base i=true)->(∀i,k<=i->i<n->qAK left b a base i=false)->Q (some k) st):
  wpS (model prog w) A E s (qaB left b a base n hint) Q st:=by
 have m:∀i j,i<=j->j<n->qAK left b a base i=false->qAK left b a base j=false:=λi j a0 hj e=>by
  cases q:qAK left b a base j with
  |false=>rfl
  |true=>rw[t i j a0 hj q] at e;cases e
 unfold qaB;show wpS _ _ _ _ (gbey left b a base hint >>= _) _ _;refine B14 (qI7 hk p ha (by omega) ?_)
 dsimp only;cases e:qAK left b a base hint with
 |true=>
  rw [if_pos rfl];refine B14 (B36 (B26 (I:=fun x c f=>f=st/\∃ l o,c=(none,l,o)/\l<o/\x+1<=o/\hint+l<n/\qAK left b a base (hint+l)=true)
   (Q:=λc f=>f=st/\∃l o,c=(none,l,o)/\l<o/\hint+l<n/\qAK left b a base (hint+l)=true/\(o>=n-hint\/qAK left b a base (hint+o)=false)) ?step ?fin ⟨rfl,0,1,rfl,by omega,by omega,by omega,e⟩) ?post)
  case fin=>
   rintro c f ⟨rfl,l,o,rfl,h1,h2,h3,h4⟩;exact⟨rfl,l,o,rfl,h1,h3,h4,.inl (by omega)⟩
  case step=>
   rintro x c f _ hx ⟨rfl,l,o,rfl,h1,h2,h3,h4⟩;dsimp only;by_cases g:o>=n-hint
   ·rw[if_pos g];exact B15 ⟨rfl,l,o,rfl,h1,h3,h4,.inl g⟩
   ·rw[if_neg g];show wpS _ _ _ _ (gbey left b a base (hint+o) >>= _) _ _;refine B14 (qI7 hk p ha (by omega) ?_)
    dsimp only;cases e2:qAK left b a base (hint+o) with
    |false=>
     rw[if_pos (by rfl)]
     exact B15 ⟨rfl,l,o,rfl,h1,h3,h4,.inr e2⟩
    |true=>
     rw[if_neg (by simp)]
     exact B15 ⟨rfl,o,2*o+1,rfl,by omega,by omega,by omega,e2⟩
  case post=>
   rintro c f ⟨rfl,l,o,rfl,h1,h3,h4,h5⟩;dsimp only;have y:∀i,i<hint+l+1->qAK left b a base i=true:=λi v=>t i (hint+l) (by omega) h3 h4
   have z:∀i,hint+min o (n-hint)<=i->i<n->qAK left b a base i=false:=λi v u=>by
    rcases h5 with h5|h5
    ·omega
    ·exact m (hint+o) i (by omega) u h5
   refine B14 (B36 (B26 (I:=fun x c d=>d=f/\∃ l r,c=(none,l,r)/\l<=r/\r<=n/\r - l<=n - x/\(∀ i,i<l->qAK left b a base i=true)/\∀ i,r<=i->i<n->qAK left b a base i=false)
    (Q:=λc d=>d=f/\∃l,c=(none,l,l)/\l<=n/\(∀i,i<l->qAK left b a base i=true)/\∀i,l<=i->i<n->qAK left b a base i=false) ?bstep ?bfin ⟨rfl,hint+l+1,hint+min o (n-hint),rfl,by omega,by omega,by omega,y,z⟩) ?bpost)
   case bfin=>
    rintro c d ⟨rfl,l,r,rfl,h1,h2,h3,h4,h5⟩;have:l=r:=by omega
    subst this;exact⟨rfl,l,rfl,h2,h4,h5⟩
   case bpost=>
    rintro c d ⟨rfl,l,rfl,h1,h2,h3⟩;exact B15 (h l h1 h2 h3)
   case bstep=>
    rintro x c d _ hx ⟨rfl,l,r,rfl,h1,h2,h3,h4,h5⟩;dsimp only;by_cases g:l>=r
    ·rw[if_pos g];have:l=r:=by omega
     subst this;exact B15 ⟨rfl,l,rfl,h2,h4,h5⟩
    ·rw[if_neg g];show wpS _ _ _ _ (gbey left b a base (l+(r-l)/2) >>= _) _ _;refine B14 (qI7 hk p ha (by omega) ?_)
     dsimp only;cases e9:qAK left b a base (l+(r-l)/2) with
     |true=>
      rw[if_pos rfl];exact B15 ⟨rfl,_,_,rfl,by omega,h2,by omega,λi v=>t i _ (by omega) (by omega) e9,h5⟩
     |false=>
      rw[if_neg B1];exact B15 ⟨rfl,_,_,rfl,by omega,by omega,by omega,h4,λi v u=>m _ i v u e9⟩
 |false=>
  rw [if_neg B1];refine B14 (B36 (B26 (I:=fun x c f=>f=st/\∃ l o,c=(none,l,o)/\l<o/\x+1<=o/\l<=hint/\qAK left b a base (hint - l)=false)
   (Q:=λc f=>f=st/\∃l o,c=(none,l,o)/\l<o/\l<=hint/\qAK left b a base (hint-l)=false/\(o>=hint+1\/qAK left b a base (hint-o)=true)) ?step ?fin ⟨rfl,0,1,rfl,by omega,by omega,by omega,e⟩) ?post)
  case fin=>
   rintro c f ⟨rfl,l,o,rfl,h1,h2,h3,h4⟩;exact⟨rfl,l,o,rfl,h1,h3,h4,.inl (by omega)⟩
  case step=>
   rintro x c f _ hx ⟨rfl,l,o,rfl,h1,h2,h3,h4⟩;dsimp only;by_cases g:o>=hint+1
   ·rw[if_pos g];exact B15 ⟨rfl,l,o,rfl,h1,h3,h4,.inl g⟩
   ·rw[if_neg g];show wpS _ _ _ _ (gbey left b a base (hint-o) >>= _) _ _;refine B14 (qI7 hk p ha (by omega) ?_)
    dsimp only;cases e2:qAK left b a base (hint-o) with
    |true=>
     rw[if_pos rfl];exact B15 ⟨rfl,l,o,rfl,h1,h3,h4,.inr e2⟩
    |false=>
     rw[if_neg B1];exact B15 ⟨rfl,o,2*o+1,rfl,by omega,by omega,by omega,e2⟩
  case post=>
   rintro c f ⟨rfl,l,o,rfl,h1,h3,h4,h5⟩;dsimp only;have y:∀i,i<hint+1-min o (hint+1)->qAK left b a base i=true:=λi v=>by
    rcases h5 with h5|h5
    ·omega
    ·exact t i (hint-o) (by omega) (by omega) h5
   have z:∀ i,hint - l<=i->i<n->qAK left b a base i=false:=fun i v u=>m (hint - l) i v u h4;refine B14 (B36 (B26 (I:=fun x c d=>d=f/\∃ l r,c=(none,l,r)/\l<=r/\r<=n/\r - l<=n - x/\(∀ i,i<l->qAK left b a base i=true)/\∀ i,r<=i->i<n->qAK left b a base i=false)
    (Q:=λc d=>d=f/\∃l,c=(none,l,l)/\l<=n/\(∀i,i<l->qAK left b a base i=true)/\∀i,l<=i->i<n->qAK left b a base i=false) ?bstep ?bfin ⟨rfl,hint+1-min o (hint+1),hint-l,rfl,by omega,by omega,by omega,y,z⟩) ?bpost)
   case bfin=>
    rintro c d ⟨rfl,l,r,rfl,h1,h2,h3,h4,h5⟩;have:l=r:=by omega
    subst this;exact⟨rfl,l,rfl,h2,h4,h5⟩
   case bpost=>
    rintro c d ⟨rfl,l,rfl,h1,h2,h3⟩;exact B15 (h l h1 h2 h3)
   case bstep=>
    rintro x c d _ hx ⟨rfl,l,r,rfl,h1,h2,h3,h4,h5⟩;dsimp only;by_cases g:l>=r
    ·rw[if_pos g];have:l=r:=by omega
     subst this;exact B15 ⟨rfl,l,rfl,h2,h4,h5⟩
    ·rw[if_neg g];show wpS _ _ _ _ (gbey left b a base (l+(r-l)/2) >>= _) _ _;refine B14 (qI7 hk p ha (by omega) ?_)
     dsimp only;cases e9:qAK left b a base (l+(r-l)/2) with
     |true=>
      rw[if_pos rfl];exact B15 ⟨rfl,_,_,rfl,by omega,h2,by omega,λi v=>t i _ (by omega) (by omega) e9,h5⟩
     |false=>
      rw[if_neg B1];exact B15 ⟨rfl,_,_,rfl,by omega,by omega,by omega,h4,λi v u=>m _ i v u e9⟩
end
end L2.G
namespace L2.G
open PySem PyProof.Rows
variable[NM]
structure gMR (R:Keyed->Keyed->Prop)(all out ra rb:List Keyed):Prop where
 perm:(out++(ra++rb)).Perm all
 up:out.Pairwise R
 ua:ra.Pairwise R
 ub:rb.Pairwise R
 la:∀x∈out,∀y∈ra,R x y
 lb:∀x∈out,∀y∈rb,R x y
section
variable{R:Keyed->Keyed->Prop}{all out ra rb xs:List Keyed}
theorem gMR.symm (h:gMR R all out ra rb):gMR R all out rb ra:=⟨((List.Perm.refl out).append (y9)).trans h.perm,h.up,h.ub,h.ua,h.lb,h.la⟩
theorem gMR.takeA (h:gMR R all out (xs++ra) rb)(c:∀x∈xs,∀y∈rb,R x y):gMR R all (out++xs) ra rb:=by
 have ua:=P3.mp h.ua;refine⟨?_,P3.mpr ⟨h.up,ua.1,λx hx y a=>h.la x hx y (B4.mpr (.inl a))⟩,ua.2.1,h.ub,λx hx y a=>?_,λx hx y a=>?_⟩
 ·have e:out++xs++(ra++rb)=out++((xs++ra)++rb):=by simp[L0]
  rw[e];exact h.perm
 ·rcases B4.mp hx with hx|hx
  ·exact h.la x hx y (B4.mpr (.inr a))
  ·exact ua.2.2 x hx y a
 ·rcases B4.mp hx with hx|hx
  ·exact h.lb x hx y a
  ·exact c x hx y a
theorem gMR.takeB (h:gMR R all out ra (xs++rb))(c:∀x∈xs,∀y∈ra,R x y):gMR R all (out++xs) ra rb:=(gMR.takeA h.symm c).symm
theorem gMR.allA (h:gMR R all out ra []):(out++ra).Perm all/\(out++ra).Pairwise R:=by
 have a:gMR R all out (ra++[]) []:=by rw[K6];exact h
 have q:=a.takeA λ_ _ _ z=>nomatch z;exact⟨by have:=q.perm;simpa using this,q.up⟩
theorem gMR.allB (h:gMR R all out [] rb):(out++rb).Perm all/\(out++rb).Pairwise R:=h.symm.allA
theorem gMR.lastA {z:Keyed}(h:gMR R all out [z] rb)(c:∀y∈rb,R y z):(out++rb++[z]).Perm all/\(out++rb++[z]).Pairwise R:=by
 have a:gMR R all out [z] (rb++[]):=by rw[K6];exact h
 exact(a.takeB λx b y d=>by rw[A6.mp d];exact c x b).allA
end
abbrev grUp (x y:Keyed):Prop:=gkv x<=gkv y
abbrev grDn (x y:Keyed):Prop:=gkv y<=gkv x
def gRes (all r:List Keyed):Prop:=r.Perm all/\r.Pairwise grUp
def gSE (st st':SortSt):Prop:=kindOf st'=kindOf st/\arrOf st'=arrOf st/\B16 st'=B16 st/\failedOf st'=failedOf st
theorem gSE.refl (st:SortSt):gSE st st:=⟨rfl,rfl,rfl,rfl⟩
def gmLo:Array Keyed->Array Keyed->gSM (Array Keyed):=sortPriv% PySem.Builtin.mergeLo
def gmHi:Array Keyed->Array Keyed->gSM (Array Keyed):=sortPriv% PySem.Builtin.mergeHi
theorem qDM {l:List Keyed}{i:Nat}{x:Keyed}(h:l[i]?=some x):l.drop i=[x]++l.drop (i+1):=by
 obtain⟨a,e⟩:=A3.mp h;rw[F4 a,e]
 rfl
theorem qBZ {a:Array Keyed}{i:Nat}(h:i<a.size):∃x,a[i]?=some x/\a.toList[i]?=some x/\x∈a.toList:=⟨a[i],C8 h,by simp[h],by simp⟩
theorem qAP (a:Array Keyed)(i j:Nat):(a.extract i j).toList=(a.toList.drop i).take (j-i):=by simp
theorem qHD {l:List Keyed}{i k:Nat}:l.drop i=(l.drop i).take k++l.drop (i+k):=by
 rw[<- k6,a6]
theorem qF2 {left:Bool}{b:Keyed}{a:Array Keyed}{base n:Nat}(k:base+n<=a.size)(u:(a.toList.drop base).Pairwise grUp):∀i j,i<=j->j<n->qAK left b a base j=true->qAK left b a base i=true:=by
 intro i j h m e;by_cases c:i=j
 ·subst c;exact e
 have g:base+j<a.size:=by omega
 have d:base+i<a.size:=by omega
 have l:gkv a[base+i]<=gkv a[base+j]:=by
  have:=G2.mp u i j (by simp;omega) (by simp;omega) (by omega)
  simpa using this
 unfold qAK at e ⊢;rw[C8 g] at e;rw[C8 d];cases left with
 |true=>
  have f:decide (gkv a[base+j]<gkv b)=true:=e;show decide (gkv a[base+i]<gkv b)=true;have:=of_decide_eq_true f;exact decide_eq_true (by omega)
 |false=>
  have f:decide (gkv a[base+j]<=gkv b)=true:=e;show decide (gkv a[base+i]<=gkv b)=true;have:=of_decide_eq_true f;exact decide_eq_true (by omega)
theorem qQ4 {b:Keyed}{a:Array Keyed}{base n k:Nat}(j:k<=n)(g:base+n<=a.size)(h:∀i,i<k->qAK true b a base i=true):∀x∈(a.toList.drop base).take k,gkv x<gkv b:=by
 intro x d;obtain⟨i,c,rfl⟩:=L8 d;simp only[D8,Q8,E6] at c;have e:=h i (by omega)
 unfold qAK at e;rw[C8 (show base+i<a.size by omega)] at e
 have f:decide (gkv a[base+i]<gkv b)=true:=e;simpa using of_decide_eq_true f
theorem qQ5 {b:Keyed}{a:Array Keyed}{base n k:Nat}(j:k<=n)(g:base+n<=a.size)(h:∀i,i<k->qAK false b a base i=true):∀x∈(a.toList.drop base).take k,gkv x<=gkv b:=by
 intro x d;obtain⟨i,c,rfl⟩:=L8 d;simp only[D8,Q8,E6] at c;have e:=h i (by omega)
 unfold qAK at e;rw[C8 (show base+i<a.size by omega)] at e
 have f:decide (gkv a[base+i]<=gkv b)=true:=e;simpa using of_decide_eq_true f
theorem qN0 {b:Keyed}{a:Array Keyed}{base n k:Nat}(g:base+n<=a.size)(h:∀i,k<=i->i<n->qAK true b a base i=false):∀x∈((a.toList.drop base).take n).drop k,gkv b<=gkv x:=by
 intro x d;obtain⟨i,c,rfl⟩:=L8 d;simp only[D8,Q8,E6] at c;have e:=h (k+i) (by omega) (by omega)
 unfold qAK at e;rw[C8 (show base+(k+i)<a.size by omega)] at e
 have f:decide (gkv a[base+(k+i)]<gkv b)=false:=e;have:=of_decide_eq_false f;simp only[m7,A49,A08];omega
theorem qMZ {b:Keyed}{a:Array Keyed}{base n k:Nat}(g:base+n<=a.size)(h:∀i,k<=i->i<n->qAK false b a base i=false):∀x∈((a.toList.drop base).take n).drop k,gkv b<gkv x:=by
 intro x d;obtain⟨i,c,rfl⟩:=L8 d;simp only[D8,Q8,E6] at c;have e:=h (k+i) (by omega) (by omega)
 unfold qAK at e;rw[C8 (show base+(k+i)<a.size by omega)] at e
 have f:decide (gkv a[base+(k+i)]<=gkv b)=false:=e;have:=of_decide_eq_false f;simp only[m7,A49,A08];omega
end L2.G
namespace L2.G
open PySem PyProof.Rows
variable[NM]
theorem gifT {prog:B13}{w:World}{A:Around}{E:Aa1}{s:Shared}{α:Type}{c:Prop}[Decidable c]{x y:gSM α}{Q:α->SortSt->Prop}{st:SortSt}(h:c)(k:wpS (model prog w) A E s x Q st):wpS (model prog w) A E s (if c then x else y) Q st:=by rw[if_pos h];exact k
theorem gifF {prog:B13}{w:World}{A:Around}{E:Aa1}{s:Shared}{α:Type}{c:Prop}[Decidable c]{x y:gSM α}{Q:α->SortSt->Prop}{st:SortSt}(h:¬c)(k:wpS (model prog w) A E s y Q st):wpS (model prog w) A E s (if c then x else y) Q st:=by rw[if_neg h];exact k
theorem gtwo {α:Type}{A:Prop}{M G:α->Prop}(b:(∀o,M o->G o)->A)(a:∀o,M o->G o):A:=b a
section
variable{prog:B13}{w:World}{A:Around}{E:Aa1}{s:Shared}{κ0:B45}[LtOk prog w A s κ0]
theorem gopq {A:Prop}(h:∀G:Prop,(A->G)->G):A:=h A id
theorem gnm {prog:B13}{w:World}{A:Around}{E:Aa1}{s:Shared}{α:Type}{x:gSM α}{Q:α->SortSt->Prop}{st:SortSt}(h:∀R:α->SortSt->Prop,(∀a st,Q a st->R a st)->wpS (model prog w) A E s x R st):wpS (model prog w) A E s x Q st:=h Q λ_ _ z=>z
theorem qa5 {st:SortSt}{a b:Array Keyed}{Q:Array Keyed->SortSt->Prop}(hk:kindOf st=κ0)(ka:∀x∈a.toList,gIK x)(kb:∀x∈b.toList,gIK x)(ua:a.toList.Pairwise grUp)(ub:b.toList.Pairwise grUp)(na:0<a.size)(nb:0<b.size)
  (first:∀y,b.toList[0]?=some y->∀x∈a.toList,gkv y<=gkv x) (av:∀z,a.toList[a.size-1]?=some z->∀y∈b.toList,gkv y<=gkv z)
  (h:∀r st',gSE st st'->gRes (a.toList++b.toList) r.toList->Q r st'):wpS (model prog w) A E s (gmLo a b) Q st:=by
 have tl:(a.toList++b.toList).length=a.size+b.size:=by simp
 -- ways out
 have a0:∀(out:Array Keyed) (ia:Nat),gMR grUp (a.toList++b.toList) out.toList (a.toList.drop ia) (b.toList.drop b.size)->gRes (a.toList++b.toList) (out++a.extract ia a.size++b.extract b.size b.size).toList:=by
  intro out ia m;have e:b.toList.drop b.size=[]:=O2 (by simp)
  rw[e] at m;have q:=m.allA;have e2:(out++a.extract ia a.size++b.extract b.size b.size).toList=out.toList++a.toList.drop ia:=by
   rw[F0,F0,qAP,qAP,e,A95,K6,F3 (by simp)]
  rw[e2];exact q
 have ax:∀(out:Array Keyed) (ib:Nat),gMR grUp (a.toList++b.toList) out.toList (a.toList.drop a.size) (b.toList.drop ib)->gRes (a.toList++b.toList) (out++a.extract a.size a.size++b.extract ib b.size).toList:=by
  intro out ib m;have e:a.toList.drop a.size=[]:=O2 (by simp)
  rw[e] at m;have q:=m.allB;have e2:(out++a.extract a.size a.size++b.extract ib b.size).toList=out.toList++b.toList.drop ib:=by
   rw[F0,F0,qAP,qAP,e,A95,K6,F3 (by simp)]
  rw[e2];exact q
 have v:∀(out:Array Keyed) (ia ib:Nat),ia+1=a.size->gMR grUp (a.toList++b.toList) out.toList (a.toList.drop ia) (b.toList.drop ib)->gRes (a.toList++b.toList) (out++b.extract ib b.size++a.extract ia a.size).toList:=by
  intro out ia ib bl m;refine gopq λbh aa=>?_;obtain⟨z,_,hz,_⟩:=qBZ (a:=a) (i:=ia) (by lia)
  refine aa ?_;have e:a.toList.drop ia=[z]:=by rw[qDM hz,O2 (by simp;lia)];rfl
  rw[e] at m;have q:=m.lastA λy hy=>av z (by rw[show a.size-1=ia by lia];exact hz) y (W0 hy)
  have e2:(out++b.extract ib b.size++a.extract ia a.size).toList=out.toList++b.toList.drop ib++[z]:=by
   rw[F0,F0,qAP,qAP,e,F3 (by simp),F3 (by simp;lia)]
  rw[e2];exact q
 -- the first of b
 refine gopq λbe ad=>?_;obtain⟨y0,ba,aq,_⟩:=qBZ (a:=b) (i:=0) nb;refine ad ?_;have m0:gMR grUp (a.toList++b.toList) #[y0].toList (a.toList.drop 0) (b.toList.drop 1):=by
  have m:gMR grUp (a.toList++b.toList) [] a.toList ([y0]++b.toList.drop 1):=by
   rw[<- qDM aq];exact⟨.refl _,.nil,ua,ub,(λ_ z=>nomatch z),(λ_ z=>nomatch z)⟩
  exact m.takeB λx g y hy=>by rw[A6.mp g];exact first y0 aq y hy
 -- a step of b,a step of a
 have a2:∀{out:Array Keyed} {ia ib:Nat} {y:Keyed},gMR grUp (a.toList++b.toList) out.toList (a.toList.drop ia) (b.toList.drop ib)->b.toList[ib]?=some y->(∀x∈a.toList.drop ia,gkv y<=gkv x)->gMR grUp (a.toList++b.toList) (out.push y).toList (a.toList.drop ia) (b.toList.drop (ib+1)):=by
  intro out ia ib y m hy c;rw[qDM hy] at m;rw[T0];exact m.takeB λx g z hz=>by rw[A6.mp g];exact c z hz
 have a3:∀{out:Array Keyed} {ia ib:Nat} {x:Keyed},gMR grUp (a.toList++b.toList) out.toList (a.toList.drop ia) (b.toList.drop ib)->a.toList[ia]?=some x->(∀y∈b.toList.drop ib,gkv x<=gkv y)->gMR grUp (a.toList++b.toList) (out.push x).toList (a.toList.drop (ia+1)) (b.toList.drop ib):=by
  intro out ia ib x m g c;rw[qDM g] at m;rw[T0];exact m.takeA λz hz y hy=>by rw[A6.mp hz];exact c y hy
 have f:∀{l:List Keyed} {i:Nat} {x:Keyed},l.Pairwise grUp->l[i]?=some x->∀y∈l.drop i,gkv x<=gkv y:=by
  intro l i x u g y hy;have u':=u.sublist (V6 i l);rw[qDM g] at u' hy;rcases B4.mp hy with hy|hy
  ·rw[A6.mp hy];exact K7 _
  ·exact(P3.mp u').2.2 x (by simp) y hy
 have bk:∀{out:Array Keyed} {ia ib:Nat},gMR grUp (a.toList++b.toList) out.toList (a.toList.drop ia) (b.toList.drop ib)->ia<a.size->ib<b.size->ia+ib<a.size+b.size:=λ_ _ _=>by lia
 unfold gmLo;show wpS _ _ _ _ (liftM (rule "list.sort.merge-lo") >>= _) _ _;refine B14 (wpS_lift (B51 ⟨rfl,?_⟩));refine B14 (qB6 ba ?_);dsimp only;by_cases as:b.size=1
 ·refine gifT (by simp[as]) ?_
  refine B15 (h _ _ (.refl st) ?_);have:=a0 #[y0] 0 (by rw[as];exact m0)
  rw[as] at this ⊢;exact this
 refine gifF (by simp;lia) ?_
 by_cases bd:a.size=1
 ·refine gifT (by simp[bd]) ?_
  exact B15 (h _ _ (.refl st) (v #[y0] 0 1 (by lia) m0))
 refine gifF (by simp;lia) ?_
 refine B14 (B54 ?_);refine B14 (B36 (B26
  (I:=λx c st'=>gSE st st'/\∃(out:Array Keyed) (ia ib mg:Nat),c=(none,out,ia,ib,mg)/\gMR grUp (a.toList++b.toList) out.toList (a.toList.drop ia) (b.toList.drop ib)/\ia+1<a.size/\ib<b.size/\x+1<=ia+ib)
  (Q:=λc st'=>gSE st st'/\∃r rest,c=(some r,rest)/\gRes (a.toList++b.toList) r.toList) ?ostep ?ofin ⟨.refl st,_,0,1,_,rfl,m0,by lia,by lia,by lia⟩) ?opost)
 case opost=>
  refineλc st' ab=>gopq λb9 ah=>?_;obtain⟨d,r,rest,rfl,hr⟩:=ab;refine ah ?_;exact B15 (h r st' d hr)
 case ofin=>
  refineλc st' al=>gopq λbf ao=>?_;obtain⟨d,out,ia,ib,mg,rfl,m,h1,h2,h3⟩:=al;refine ao ?_
  lia
 case ostep=>
  refine fun x c bm _ g am=>gopq fun b8 ai=>?_;obtain ⟨d,out,ia,ib,mg,rfl,m,h1,h2,h3⟩:=am;refine ai ?_;dsimp only;refine B14 (B36 (B26
   (I:=λy c st'=>gSE st st'/\∃(out:Array Keyed) (ia' ib' ac bc:Nat),c=(none,out,ia',ib',ac,bc)/\gMR grUp (a.toList++b.toList) out.toList (a.toList.drop ia') (b.toList.drop ib')/\ia'+1<a.size/\ib'<b.size/\ia+ib+y<=ia'+ib')
   (Q:=λc st'=>gSE st st'/\((∃r rest,c=(some r,rest)/\gRes (a.toList++b.toList) r.toList)\/∃(out:Array Keyed) (ia' ib' ac bc:Nat),c=(none,out,ia',ib',ac,bc)/\gMR grUp (a.toList++b.toList) out.toList (a.toList.drop ia') (b.toList.drop ib')/\ia'+1<a.size/\ib'<b.size/\ia+ib+1<=ia'+ib')) ?istep ?ifin ⟨d,out,ia,ib,0,0,rfl,m,h1,h2,by lia⟩) ?ipost)
  case ifin=>
   refineλc st' an=>gopq λb5 ap=>?_;obtain⟨d,out,ia',ib',ac,bc,rfl,m,g1,g2,g3⟩:=an;refine ap ?_
   lia
  case istep=>
   refineλy c st' _ hy ag=>gopq λb0 a6=>?_;obtain⟨d,out,ia',ib',ac,bc,rfl,m,g1,g2,g3⟩:=ag;refine a6 ?_;dsimp only;refine gnm λR hR=>?_;refine gopq λb4 a7=>?_;obtain⟨yb,e1,a1,mb⟩:=qBZ (a:=b) (i:=ib') g2;refine a7 ?_;refine gopq λbi af=>?_;obtain⟨xa,e2,a4,ma⟩:=qBZ (a:=a) (i:=ia') (by lia)
   refine af ?_;have bg:kindOf st'=κ0:=d.1.trans hk;refine B14 (qB6 e1 (B14 (qB6 e2 (B14 (qI6 bg (kb _ mb) (ka _ ma) ?_)))));dsimp only;by_cases hw:gkv yb<gkv xa
   ·rw[decide_eq_true hw,if_pos rfl];refine B14 (qB6 e1 ?_);have m':=a2 m a1 λx g=>by have:=f ua a4 x g;lia
    by_cases t:ib'+1=b.size
    ·refine gifT (by simp[t]) ?_
     refine B15 (hR _ _ ⟨d,.inl ⟨_,_,rfl,?_⟩⟩);rw[t] at m' ⊢;exact a0 _ _ m'
    ·refine gifF (by simp;exact t) ?_
     split
     ·exact B15 (hR _ _ ⟨d,.inr ⟨_,_,_,_,_,rfl,m',g1,by lia,by lia⟩⟩)
     ·exact B15 (hR _ _ ⟨d,_,_,_,_,_,rfl,m',g1,by lia,by lia⟩)
   ·rw[decide_eq_false hw,if_neg B1];refine B14 (qB6 e2 ?_);have m':=a3 m a4 λy hy=>by have:=f ub a1 y hy;lia
    by_cases p:ia'+1+1=a.size
    ·refine gifT (by simp[p]) ?_
     exact B15 (hR _ _ ⟨d,.inl ⟨_,_,rfl,v _ _ _ p m'⟩⟩)
    ·refine gifF (by simp;exact p) ?_
     split
     ·exact B15 (hR _ _ ⟨d,.inr ⟨_,_,_,_,_,rfl,m',by lia,g2,by lia⟩⟩)
     ·exact B15 (hR _ _ ⟨d,_,_,_,_,_,rfl,m',by lia,g2,by lia⟩)
  case ipost=>
   rintro c st2 ⟨d,⟨r,rest,rfl,hr⟩|⟨out,ia1,ib1,ac,bc,rfl,m,g1,g2,g3⟩⟩
   ·exact B15 ⟨d,r,_,rfl,hr⟩
   dsimp only;refine B14 (wpS_lift (B51 ⟨rfl,?_⟩));refine B14 (B36 (B26
    (I:=λy c st'=>gSE st st'/\∃(out:Array Keyed) (ia' ib' mg ac bc:Nat),c=(none,out,ia',ib',mg,ac,bc)/\gMR grUp (a.toList++b.toList) out.toList (a.toList.drop ia') (b.toList.drop ib')/\ia'+1<a.size/\ib'<b.size/\ia1+ib1+y<=ia'+ib')
    (Q:=λc st'=>gSE st st'/\((∃r rest,c=(some r,rest)/\gRes (a.toList++b.toList) r.toList)\/∃(out:Array Keyed) (ia' ib' mg ac bc:Nat),c=(none,out,ia',ib',mg,ac,bc)/\gMR grUp (a.toList++b.toList) out.toList (a.toList.drop ia') (b.toList.drop ib')/\ia'+1<a.size/\ib'<b.size/\ia1+ib1<=ia'+ib')) ?gstep ?gfin ⟨d,out,ia1,ib1,_,ac,bc,rfl,m,g1,g2,by lia⟩) ?gpost)
   case gfin=>
    refineλc st' aj=>gopq λb2 ae=>?_;obtain⟨d,out,ia',ib',mg,ac,bc,rfl,m,q1,q2,q3⟩:=aj;refine ae ?_
    lia
   case gpost=>
    rintro c st3 ⟨d,⟨r,rest,rfl,hr⟩|⟨out,ia',ib',mg,ac,bc,rfl,m,q1,q2,q3⟩⟩
    ·exact B15 ⟨d,r,_,rfl,hr⟩
    dsimp only;refine B14 (B29 (B15 ?_));exact⟨⟨d.1,d.2.1,d.2.2.1,d.2.2.2⟩,out,ia',ib',_,rfl,m,q1,q2,by lia⟩
   case gstep=>
    refineλy c bb _ hy a5=>gopq λaz a9=>?_;obtain⟨d,out,ia',ib',mg,ac,bc,rfl,m,q1,q2,q3⟩:=a5;refine a9 ?_;dsimp only;refine gnm λR hR=>?_;refine gopq λb3 ak=>?_;obtain⟨yb,e1,a1,mb⟩:=qBZ (a:=b) (i:=ib') q2;refine ak ?_;have hm:b.toList.drop ib'=[yb]++b.toList.drop (ib'+1):=qDM a1;apply gtwo (α:=Nat) (M:=λ_=>True)
    ·intro J;by_cases au:mg>1
     ·refine gifT au ?_;refine B14 (B29 ?_);generalize mg-1=n;exact J n trivial
     ·refine gifF au ?_;refine B14 (B29 ?_);generalize mg=n;exact J n trivial
    ·intro n _;have j:gSE st bb:=d;refine B14 (qB6 e1 ?_);refine B14 (qGM (left:=false) (n:=a.size-ia') (hint:=0) (d.1.trans hk) (kb _ mb) ka (by lia) (by lia) (qF2 (by lia) (ua.sublist (V6 _ _))) λk k1 k2 k3=>?_)
     dsimp only;have b6:∀x∈a.toList.drop (ia'+k),gkv yb<=gkv x:=λx g=>by
      have q:=qMZ (base:=ia') (n:=a.size-ia') (by lia) k3 x
      rw[F3 (by simp),k6] at q
      exact j5 (q g)
     apply gtwo (α:=Array Keyed) (M:=λo=>gMR grUp (a.toList++b.toList) o.toList (a.toList.drop (ia'+k)) (b.toList.drop ib')/\ia'+k+1<a.size)
     ·intro J;by_cases k0:k>0
      ·refine gifT k0 ?_;have mk:gMR grUp (a.toList++b.toList) (out++a.extract ia' (ia'+k)).toList (a.toList.drop (ia'+k)) (b.toList.drop ib'):=by
        rw[F0,qAP,show ia'+k-ia'=k by lia]
        rw[qHD (l:=a.toList) (i:=ia') (k:=k)] at m;exact m.takeA λx g z hz=>by
         have q1:=qQ5 k1 (by lia) k2 x g
         have q2:=f ub a1 z hz;show gkv x<=gkv z
         lia
       by_cases c1:ia'+k+1=a.size
       ·refine gifT (by simp[c1]) ?_
        exact B15 (hR _ _ ⟨j,.inl ⟨_,_,rfl,v _ _ _ c1 mk⟩⟩)
       refine gifF (by simp;exact c1) ?_
       by_cases c2:ia'+k=a.size
       ·refine gifT (by simp[c2]) ?_
        refine B15 (hR _ _ ⟨j,.inl ⟨_,_,rfl,?_⟩⟩);rw[c2] at mk ⊢;exact ax _ _ mk
       refine gifF (by simp;exact c2) ?_
       generalize out++a.extract ia' (ia'+k)=o at mk ⊢;exact J o ⟨mk,by lia⟩
      ·refine gifF k0 ?_;have b1:k=0:=by lia
       subst b1;exact J out ⟨m,by lia⟩
     ·rintro o ⟨mk,kp⟩;refine B14 (qB6 e1 ?_);have m1:=a2 mk a1 b6;by_cases t:ib'+1=b.size
      ·refine gifT (by simp[t]) ?_
       refine B15 (hR _ _ ⟨j,.inl ⟨_,_,rfl,?_⟩⟩);rw[t] at m1 ⊢;exact a0 _ _ m1
      refine gifF (by simp;exact t) ?_
      refine gopq λb7 a8=>?_;obtain⟨xa,e2,a4,ma⟩:=qBZ (a:=a) (i:=ia'+k) (by lia)
      refine a8 ?_;refine B14 (qB6 e2 ?_);refine B14 (qGM (left:=true) (n:=b.size-(ib'+1)) (hint:=0) (d.1.trans hk) (ka _ ma) kb (by lia) (by lia) (qF2 (by lia) (ub.sublist (V6 _ _))) λk' j1 j2 j3=>?_)
      dsimp only;have bj:∀y∈b.toList.drop (ib'+1+k'),gkv xa<=gkv y:=λy hy=>by
       have q:=qN0 (base:=ib'+1) (n:=b.size-(ib'+1)) (by lia) j3 y
       rw[F3 (by simp),k6] at q
       exact q hy
      generalize o.push yb=o1 at m1 ⊢;apply gtwo (α:=Array Keyed) (M:=λo=>gMR grUp (a.toList++b.toList) o.toList (a.toList.drop (ia'+k)) (b.toList.drop (ib'+1+k'))/\ib'+1+k'<b.size)
      ·intro J;by_cases ay:k'>0
       ·rw[if_pos ay];have m2:gMR grUp (a.toList++b.toList) (o1++b.extract (ib'+1) (ib'+1+k')).toList (a.toList.drop (ia'+k)) (b.toList.drop (ib'+1+k')):=by
         rw[F0,qAP,show ib'+1+k'-(ib'+1)=k' by lia]
         rw[qHD (l:=b.toList) (i:=ib'+1) (k:=k')] at m1;exact m1.takeB λx g z hz=>by
          have q1:=qQ4 j1 (by lia) j2 x g
          have q2:=f ua a4 z hz;show gkv x<=gkv z
          lia
        by_cases ar:ib'+1+k'=b.size
        ·refine gifT (by simp[ar]) ?_
         refine B15 (hR _ _ ⟨j,.inl ⟨_,_,rfl,?_⟩⟩);rw[ar] at m2 ⊢;exact a0 _ _ m2
        refine gifF (by simp;exact ar) ?_
        generalize o1++b.extract (ib'+1) (ib'+1+k')=o2 at m2 ⊢;exact J o2 ⟨m2,by lia⟩
       ·rw[if_neg ay];have aw:k'=0:=by lia
        subst aw;exact J o1 ⟨m1,by lia⟩
      ·rintro o2 ⟨m2,kp'⟩;refine B14 (qB6 e2 ?_);have m3:=a3 m2 a4 bj;by_cases p:ia'+k+1+1=a.size
       ·refine gifT (by simp[p]) ?_
        exact B15 (hR _ _ ⟨j,.inl ⟨_,_,rfl,v _ _ _ p m3⟩⟩)
       refine gifF (by simp;exact p) ?_
       split
       ·exact B15 (hR _ _ ⟨j,.inr ⟨_,_,_,_,_,_,rfl,m3,by lia,by lia,by lia⟩⟩)
       ·exact B15 (hR _ _ ⟨j,_,_,_,_,_,_,rfl,m3,by lia,by lia,by lia⟩)
end
end L2.G
namespace L2.G
open PySem PyProof.Rows
variable[NM]
theorem qDU {l:List Keyed}{i:Nat}{x:Keyed}(b:0<i)(h:l[i-1]?=some x):(l.take i).reverse=[x]++(l.take (i-1)).reverse:=by
 obtain⟨j,rfl⟩:∃j,i=j+1:=⟨i-1,by lia⟩
 have a:l[j]?=some x:=h;rw[C9,a,D0,U2]
 rfl
theorem qL8 {l:List Keyed}{i j:Nat}(h:i<=j):(l.take j).reverse=((l.drop i).take (j-i)).reverse++(l.take i).reverse:=by
 rw[<- U2];congr 1;have e:=A96 (l:=l) (i:=i) (j:=j-i);rw[show i+(j-i)=j by lia] at e
 exact e
section
variable{prog:B13}{w:World}{A:Around}{E:Aa1}{s:Shared}{κ0:B45}[LtOk prog w A s κ0]
theorem qa6 {st:SortSt}{a b:Array Keyed}{Q:Array Keyed->SortSt->Prop}(hk:kindOf st=κ0)(ka:∀x∈a.toList,gIK x)(kb:∀x∈b.toList,gIK x)(ua:a.toList.Pairwise grUp)(ub:b.toList.Pairwise grUp)(na:0<a.size)(nb:0<b.size)
  (first:∀y,b.toList[0]?=some y->∀x∈a.toList,gkv y<=gkv x) (b1:∀z,a.toList[a.size-1]?=some z->∀y∈b.toList,gkv y<=gkv z)
  (h:∀r st',gSE st st'->gRes (a.toList++b.toList) r.toList->Q r st'):wpS (model prog w) A E s (gmHi a b) Q st:=by
 have a3:∀{l:List Keyed},l.Perm (a.toList++b.toList)/\l.Pairwise grDn->gRes (a.toList++b.toList) l.reverse:=λ{l} q=>⟨(m8 l).trans q.1,V2.mpr q.2⟩;have p:∀(out:Array Keyed) (nb':Nat),gMR grDn (a.toList++b.toList) out.toList (a.toList.take 0).reverse (b.toList.take nb').reverse->gRes (a.toList++b.toList) (a.extract 0 0++b.extract 0 nb'++out.reverse).toList:=by
  intro out nb' m;have q:=a3 (gMR.allB m);have e2:(a.extract 0 0++b.extract 0 nb'++out.reverse).toList=(out.toList++(b.toList.take nb').reverse).reverse:=by
   rw[F0,F0,qAP,qAP,S3,U2,A09];simp
  rw[e2];exact q
 have b5:∀(out:Array Keyed) (na':Nat),gMR grDn (a.toList++b.toList) out.toList (a.toList.take na').reverse (b.toList.take 0).reverse->gRes (a.toList++b.toList) (a.extract 0 na'++b.extract 0 0++out.reverse).toList:=by
  intro out na' m;have q:=a3 (gMR.allA m);have e2:(a.extract 0 na'++b.extract 0 0++out.reverse).toList=(out.toList++(a.toList.take na').reverse).reverse:=by
   rw[F0,F0,qAP,qAP,S3,U2,A09];simp
  rw[e2];exact q
 refine gopq λbn ag=>?_;obtain⟨y0,bt,ax,_⟩:=qBZ (a:=b) (i:=0) nb;refine ag ?_;have g:∀(out:Array Keyed) (na':Nat),gMR grDn (a.toList++b.toList) out.toList (a.toList.take na').reverse (b.toList.take 1).reverse->gRes (a.toList++b.toList) (b.extract 0 1++a.extract 0 na'++out.reverse).toList:=by
  intro out na' m;have e:(b.toList.take 1).reverse=[y0]:=by rw[qDU (by decide) ax];simp
  rw[e] at m;have q:=a3 (m.symm.lastA λy hy=>first y0 ax y (P4 (b8.mp hy)));have e1:b.toList.take 1=[y0]:=by have:=congrArg List.reverse e;simpa using this
  have e2:(b.extract 0 1++a.extract 0 na'++out.reverse).toList=(out.toList++(a.toList.take na').reverse++[y0]).reverse:=by
   rw[F0,F0,qAP,qAP,S3];simp only[W8,A57,e1];simp
  rw[e2];exact q
 refine gopq λbl ai=>?_;obtain⟨z0,bf,aw,_⟩:=qBZ (a:=a) (i:=a.size-1) (by lia)
 refine ai ?_;have m0:gMR grDn (a.toList++b.toList) #[z0].toList (a.toList.take (a.size-1)).reverse (b.toList.take b.size).reverse:=by
  have m:gMR grDn (a.toList++b.toList) [] ([z0]++(a.toList.take (a.size-1)).reverse) (b.toList.take b.size).reverse:=by
   rw[<- qDU na aw,F3 (by simp),F3 (by simp)]
   refine⟨?_,.nil,V2.mpr ua,V2.mpr ub,(λ_ z=>nomatch z),(λ_ z=>nomatch z)⟩;exact(m8 _).append (m8 _)
  exact m.takeA λx v y hy=>by rw[A6.mp v];exact b1 z0 aw y (P4 (b8.mp hy))
 have a4:∀{out:Array Keyed} {na' nb':Nat} {y:Keyed},gMR grDn (a.toList++b.toList) out.toList (a.toList.take na').reverse (b.toList.take nb').reverse->0<nb'->b.toList[nb'-1]?=some y->(∀x∈(a.toList.take na').reverse,gkv x<=gkv y)->gMR grDn (a.toList++b.toList) (out.push y).toList (a.toList.take na').reverse (b.toList.take (nb'-1)).reverse:=by
  intro out na' nb' y m h0 hy c;rw[qDU h0 hy] at m;rw[T0];exact m.takeB λx v z hz=>by rw[A6.mp v];exact c z hz
 have a6:∀{out:Array Keyed} {na' nb':Nat} {x:Keyed},gMR grDn (a.toList++b.toList) out.toList (a.toList.take na').reverse (b.toList.take nb').reverse->0<na'->a.toList[na'-1]?=some x->(∀y∈(b.toList.take nb').reverse,gkv y<=gkv x)->gMR grDn (a.toList++b.toList) (out.push x).toList (a.toList.take (na'-1)).reverse (b.toList.take nb').reverse:=by
  intro out na' nb' x m h0 v c;rw[qDU h0 v] at m;rw[T0];exact m.takeA λz hz y hy=>by rw[A6.mp hz];exact c y hy
 have a0:∀{l:List Keyed} {i:Nat} {x:Keyed},l.Pairwise grUp->0<i->l[i-1]?=some x->∀y∈(l.take i).reverse,gkv y<=gkv x:=by
  intro l i x u h0 v y hy;have u':((l.take i).reverse).Pairwise grDn:=V2.mpr (u.sublist (Z2 i l));rw[qDU h0 v] at u' hy;rcases B4.mp hy with hy|hy
  ·rw[A6.mp hy];exact K7 _
  ·exact(P3.mp u').2.2 x (by simp) y hy
 unfold gmHi;show wpS _ _ _ _ (liftM (rule "list.sort.merge-hi") >>= _) _ _;refine B14 (wpS_lift (B51 ⟨rfl,?_⟩));refine B14 (qB6 bf ?_);dsimp only;by_cases b3:a.size-1=0
 ·refine gifT (by simp[b3]) ?_
  refine B15 (h _ _ (.refl st) ?_);rw[b3] at m0 ⊢;exact p _ _ m0
 refine gifF (by simp;lia) ?_
 by_cases b4:b.size=1
 ·refine gifT (by simp[b4]) ?_
  refine B15 (h _ _ (.refl st) ?_);rw[b4] at m0 ⊢;exact g _ _ m0
 refine gifF (by simp;lia) ?_
 refine B14 (B54 ?_);refine B14 (B36 (B26
  (I:=λx c st'=>gSE st st'/\∃(na' nb':Nat) (out:Array Keyed) (mg:Nat),c=(none,na',nb',out,mg)/\gMR grDn (a.toList++b.toList) out.toList (a.toList.take na').reverse (b.toList.take nb').reverse/\(0<na'/\na'<=a.size)/\(1<nb'/\nb'<=b.size)/\na'+nb'+x+1<=a.size+b.size)
  (Q:=λc st'=>gSE st st'/\∃r rest,c=(some r,rest)/\gRes (a.toList++b.toList) r.toList) ?ostep ?ofin ⟨.refl st,_,_,_,_,rfl,m0,by lia,by lia,by lia⟩) ?opost)
 case opost=>
  refineλc st' ah=>gopq λbj am=>?_;obtain⟨d,r,rest,rfl,hr⟩:=ah;refine am ?_;exact B15 (h r st' d hr)
 case ofin=>
  refineλc st' aq=>gopq λbm au=>?_;obtain⟨d,na',nb',out,mg,rfl,m,h1,h2,h3⟩:=aq;refine au ?_
  lia
 case ostep=>
  refine fun x c bs _ v ar=>gopq fun bi an=>?_;obtain ⟨d,az,ay,out,mg,rfl,m,h1,h2,h3⟩:=ar;refine an ?_;dsimp only;refine B14 (B36 (B26
   (I:=λy c st'=>gSE st st'/\∃(na' nb':Nat) (out:Array Keyed) (ac bc:Nat),c=(none,na',nb',out,ac,bc)/\gMR grDn (a.toList++b.toList) out.toList (a.toList.take na').reverse (b.toList.take nb').reverse/\(0<na'/\na'<=a.size)/\(1<nb'/\nb'<=b.size)/\na'+nb'+y<=az+ay)
   (Q:=λc st'=>gSE st st'/\((∃r rest,c=(some r,rest)/\gRes (a.toList++b.toList) r.toList)\/∃(na' nb':Nat) (out:Array Keyed) (ac bc:Nat),c=(none,na',nb',out,ac,bc)/\gMR grDn (a.toList++b.toList) out.toList (a.toList.take na').reverse (b.toList.take nb').reverse/\(0<na'/\na'<=a.size)/\(1<nb'/\nb'<=b.size)/\na'+nb'+1<=az+ay)) ?istep ?ifin ⟨d,az,ay,out,0,0,rfl,m,h1,h2,by lia⟩) ?ipost)
  case ifin=>
   refineλc st' as=>gopq λbg av=>?_;obtain⟨d,na',nb',out,ac,bc,rfl,m,g1,g2,g3⟩:=as;refine av ?_
   lia
  case istep=>
   refineλy c st' _ hy al=>gopq λb9 ab=>?_;obtain⟨d,na',nb',out,ac,bc,rfl,m,g1,g2,g3⟩:=al;refine ab ?_;dsimp only;refine gnm λR t=>?_;refine gopq λbe ad=>?_;obtain⟨yb,e1,a8,mb⟩:=qBZ (a:=b) (i:=nb'-1) (by lia)
   refine ad ?_;refine gopq λbo ak=>?_;obtain⟨xa,e2,a7,ma⟩:=qBZ (a:=a) (i:=na'-1) (by lia)
   refine ak ?_;have br:kindOf st'=κ0:=d.1.trans hk;refine B14 (qB6 e1 (B14 (qB6 e2 (B14 (qI6 br (kb _ mb) (ka _ ma) ?_)))));dsimp only;by_cases hw:gkv yb<gkv xa
   ·rw[decide_eq_true hw,if_pos rfl];refine B14 (qB6 e2 ?_);have m':=a6 m (by lia) a7 λz hz=>by have:=a0 ub (by lia) a8 z hz;lia
    by_cases a5:na'-1=0
    ·refine gifT (by simp[a5]) ?_
     refine B15 (t _ _ ⟨d,.inl ⟨_,_,rfl,?_⟩⟩);rw[a5] at m' ⊢;exact p _ _ m'
    ·refine gifF (by simp;lia) ?_
     split
     ·exact B15 (t _ _ ⟨d,.inr ⟨_,_,_,_,_,rfl,m',by lia,by lia,by lia⟩⟩)
     ·exact B15 (t _ _ ⟨d,_,_,_,_,_,rfl,m',by lia,by lia,by lia⟩)
   ·rw[decide_eq_false hw,if_neg B1];refine B14 (qB6 e1 ?_);have m':=a4 m (by lia) a8 λz hz=>by have:=a0 ua (by lia) a7 z hz;lia
    by_cases a9:nb'-1=1
    ·refine gifT (by simp[a9]) ?_
     refine B15 (t _ _ ⟨d,.inl ⟨_,_,rfl,?_⟩⟩);rw[a9] at m' ⊢;exact g _ _ m'
    ·refine gifF (by simp;lia) ?_
     split
     ·exact B15 (t _ _ ⟨d,.inr ⟨_,_,_,_,_,rfl,m',by lia,by lia,by lia⟩⟩)
     ·exact B15 (t _ _ ⟨d,_,_,_,_,_,rfl,m',by lia,by lia,by lia⟩)
  case ipost=>
   rintro c st2 ⟨d,⟨r,rest,rfl,hr⟩|⟨na2,nb2,out,ac,bc,rfl,m,g1,g2,g3⟩⟩
   ·exact B15 ⟨d,r,_,rfl,hr⟩
   dsimp only;refine B14 (wpS_lift (B51 ⟨rfl,?_⟩));refine B14 (B36 (B26
    (I:=λy c st'=>gSE st st'/\∃(na' nb':Nat) (out:Array Keyed) (mg ac bc:Nat),c=(none,na',nb',out,mg,ac,bc)/\gMR grDn (a.toList++b.toList) out.toList (a.toList.take na').reverse (b.toList.take nb').reverse/\(0<na'/\na'<=a.size)/\(1<nb'/\nb'<=b.size)/\na'+nb'+y<=na2+nb2)
    (Q:=λc st'=>gSE st st'/\((∃r rest,c=(some r,rest)/\gRes (a.toList++b.toList) r.toList)\/∃(na' nb':Nat) (out:Array Keyed) (mg ac bc:Nat),c=(none,na',nb',out,mg,ac,bc)/\gMR grDn (a.toList++b.toList) out.toList (a.toList.take na').reverse (b.toList.take nb').reverse/\(0<na'/\na'<=a.size)/\(1<nb'/\nb'<=b.size)/\na'+nb'<=na2+nb2)) ?gstep ?gfin ⟨d,na2,nb2,out,_,ac,bc,rfl,m,g1,g2,by lia⟩) ?gpost)
   case gfin=>
    refineλc st' ao=>gopq λbb aj=>?_;obtain⟨d,na',nb',out,mg,ac,bc,rfl,m,q1,q2,q3⟩:=ao;refine aj ?_
    lia
   case gpost=>
    rintro c st3 ⟨d,⟨r,rest,rfl,hr⟩|⟨na',nb',out,mg,ac,bc,rfl,m,q1,q2,q3⟩⟩
    ·exact B15 ⟨d,r,_,rfl,hr⟩
    dsimp only;refine B14 (B29 (B15 ?_));exact⟨⟨d.1,d.2.1,d.2.2.1,d.2.2.2⟩,na',nb',out,_,rfl,m,q1,q2,by lia⟩
   case gstep=>
    refineλy c bk _ hy aa=>gopq λb7 af=>?_;obtain⟨d,na',nb',out,mg,ac,bc,rfl,m,q1,q2,q3⟩:=aa;refine af ?_;dsimp only;refine gnm λR t=>?_;refine gopq λbd ap=>?_;obtain⟨yb,e1,a8,mb⟩:=qBZ (a:=b) (i:=nb'-1) (by lia)
    refine ap ?_;apply gtwo (α:=Nat) (M:=λ_=>True)
    ·intro J;by_cases b0:mg>1
     ·refine gifT b0 ?_;refine B14 (B29 ?_);generalize mg-1=n;exact J n trivial
     ·refine gifF b0 ?_;refine B14 (B29 ?_);generalize mg=n;exact J n trivial
    ·intro n _;have f:gSE st bk:=d;refine B14 (qB6 e1 ?_);refine B14 (qGM (left:=false) (base:=0) (n:=na') (hint:=na'-1) (d.1.trans hk) (kb _ mb) ka (by lia) (by lia) (qF2 (by lia) ua) λk k1 k2 k3=>?_)
     dsimp only;have bq:∀x∈(a.toList.take k).reverse,gkv x<=gkv yb:=λx v=>qQ5 (base:=0) k1 (by lia) k2 x (by simpa using v)
     apply gtwo (α:=Array Keyed) (M:=λo=>gMR grDn (a.toList++b.toList) o.toList (a.toList.take k).reverse (b.toList.take nb').reverse/\0<k)
     ·intro J;by_cases k0:na'-k>0
      ·refine gifT k0 ?_;have mk:gMR grDn (a.toList++b.toList) (out++(a.extract k na').reverse).toList (a.toList.take k).reverse (b.toList.take nb').reverse:=by
        rw[F0,S3,qAP];rw[qL8 (l:=a.toList) (i:=k) (j:=na') (by lia)] at m
        exact m.takeA λx v z hz=>by
         have q1:=qMZ (base:=0) (n:=na') (by lia) k3 x (by rw[W8,A80];exact b8.mp v)
         have q2:=a0 ub (by lia) a8 z hz
         show gkv z<=gkv x
         lia
       by_cases c1:k=0
       ·refine gifT (by simp[c1]) ?_
        refine B15 (t _ _ ⟨f,.inl ⟨_,_,rfl,?_⟩⟩);subst c1;exact p _ _ mk
       refine gifF (by simp;exact c1) ?_
       generalize out++(a.extract k na').reverse=o at mk ⊢;exact J o ⟨mk,by lia⟩
      ·refine gifF k0 ?_;have ba:k=na':=by lia
       subst ba;exact J out ⟨m,by lia⟩
     ·rintro o ⟨mk,kp⟩;refine B14 (qB6 e1 ?_);have m1:=a4 mk (by lia) a8 bq
      by_cases a9:nb'-1=1
      ·refine gifT (by simp[a9]) ?_
       refine B15 (t _ _ ⟨f,.inl ⟨_,_,rfl,?_⟩⟩);rw[a9] at m1 ⊢;exact g _ _ m1
      refine gifF (by simp;lia) ?_
      refine gopq λbh ae=>?_;obtain⟨xa,e2,a7,ma⟩:=qBZ (a:=a) (i:=k-1) (by lia)
      refine ae ?_;refine B14 (qB6 e2 ?_);refine B14 (qGM (left:=true) (base:=0) (n:=nb'-1) (hint:=nb'-1-1) (d.1.trans hk) (ka _ ma) kb (by lia) (by lia) (qF2 (by lia) ub) λk' j1 j2 j3=>?_)
      dsimp only;have bp:∀y∈(b.toList.take k').reverse,gkv y<=gkv xa:=λy hy=>by
       have q:=qQ4 (base:=0) j1 (by lia) j2 y (by simpa using hy)
       lia
      generalize o.push yb=o1 at m1 ⊢;apply gtwo (α:=Array Keyed) (M:=λo=>gMR grDn (a.toList++b.toList) o.toList (a.toList.take k).reverse (b.toList.take k').reverse/\1<k')
      ·intro J;by_cases b6:nb'-1-k'>0
       ·rw[if_pos b6];have m2:gMR grDn (a.toList++b.toList) (o1++(b.extract k' (nb'-1)).reverse).toList (a.toList.take (k)).reverse (b.toList.take k').reverse:=by
         rw[F0,S3,qAP];rw[qL8 (l:=b.toList) (i:=k') (j:=nb'-1) (by lia)] at m1
         exact m1.takeB λx v z hz=>by
          have q1:=qN0 (base:=0) (n:=nb'-1) (by lia) j3 x (by rw[W8,A80];exact b8.mp v)
          have q2:=a0 ua (by lia) a7 z hz
          show gkv z<=gkv x
          lia
        by_cases a1:k'=1
        ·refine gifT (by simp[a1]) ?_
         refine B15 (t _ _ ⟨f,.inl ⟨_,_,rfl,?_⟩⟩);subst a1;exact g _ _ m2
        refine gifF (by simp;exact a1) ?_
        by_cases a2:k'=0
        ·refine gifT (by simp[a2]) ?_
         refine B15 (t _ _ ⟨f,.inl ⟨_,_,rfl,?_⟩⟩);subst a2;exact b5 _ _ m2
        refine gifF (by simp;exact a2) ?_
        generalize o1++(b.extract k' (nb'-1)).reverse=o2 at m2 ⊢;exact J o2 ⟨m2,by lia⟩
       ·rw[if_neg b6];have b2:k'=nb'-1:=by lia
        subst b2;exact J o1 ⟨m1,by lia⟩
      ·rintro o2 ⟨m2,kp'⟩;refine B14 (qB6 e2 ?_);have m3:=a6 m2 (by lia) a7 bp
       by_cases a5:k-1=0
       ·refine gifT (by simp[a5]) ?_
        refine B15 (t _ _ ⟨f,.inl ⟨_,_,rfl,?_⟩⟩);rw[a5] at m3 ⊢;exact p _ _ m3
       refine gifF (by simp;lia) ?_
       split
       ·exact B15 (t _ _ ⟨f,.inr ⟨_,_,_,_,_,_,rfl,m3,by lia,by lia,by lia⟩⟩)
       ·exact B15 (t _ _ ⟨f,_,_,_,_,_,_,rfl,m3,by lia,by lia,by lia⟩)
end
end L2.G
namespace L2.G
open PySem PyProof.Rows
variable[NM]
theorem qQ3 (b:Nat):∀(r:List Keyed) (k:Nat) (xs:Array Keyed),b+k+r.length<=xs.size->((r.zipIdx k).foldl (λa (p:Keyed×Nat)=>a.setIfInBounds (b+p.2) p.1) xs).toList=xs.toList.take (b+k)++r++xs.toList.drop (b+k+r.length)
 |[],k,xs,_=>by simp
 |p::r,k,xs,h=>by
  have hl:b+k<xs.toList.length:=by simp at h ⊢;lia
  rw[List.zipIdx_cons,w6,qQ3 b r (k+1) _ (by simp at h ⊢;lia)]
  simp only[f8,C5];have e1:(xs.toList.set (b+k) p).take (b+(k+1))=xs.toList.take (b+k)++[p]:=by
   rw[<- A35,C9,List.take_set_of_le (A7 _),Q4 hl]
   rfl
  have e2:(xs.toList.set (b+k) p).drop (b+(k+1)+r.length)=xs.toList.drop (b+k+(r.length+1)):=by
   rw[List.drop_set_of_lt (by lia)]
   congr 1
   lia
  rw[e1,e2];simp
def gSeg (xs:Array Keyed)(lo hi:Nat):Prop:=∀i j,lo<=i->i<=j->j<hi->gK xs i<=gK xs j
theorem qXL {xs:Array Keyed}{i:Nat}(h:i<xs.size):gK xs i=gkv (xs[i]'h):=qdE h
theorem qLA {xs:Array Keyed}{i:Nat}{x:Keyed}(h:xs[i]?=some x):gK xs i=gkv x:=by
 unfold gK;rw[h]
 rfl
theorem qI8 {left:Bool}{b:Keyed}{a:Array Keyed}{base i:Nat}(h:base+i<a.size):qAK left b a base i=if left=true then decide (gK a (base+i)<gkv b) else decide (gK a (base+i)<=gkv b):=by
 unfold qAK;rw[C8 h,qXL h]
theorem qJ8 {left:Bool}{b:Keyed}{a:Array Keyed}{base n:Nat}(d:base+n<=a.size)(u:gSeg a base (base+n)):∀i j,i<=j->j<n->qAK left b a base j=true->qAK left b a base i=true:=by
 intro i j c g e;have f:=u (base+i) (base+j) (by lia) (by lia) (by lia)
 rw[qI8 (by lia)] at e ⊢
 cases left with
 |true=>
  have:=of_decide_eq_true e;exact decide_eq_true (by lia)
 |false=>
  have:=of_decide_eq_true e;exact decide_eq_true (by lia)
theorem qQ0 {xs:Array Keyed}{lo hi:Nat}(h:hi<=xs.size)(u:gSeg xs lo hi):(xs.extract lo hi).toList.Pairwise grUp:=by
 rw[G2];intro i j a b f;have e:(xs.extract lo hi).size=hi-lo:=by simp;lia
 have c:i<hi-lo:=by simp at a;lia
 have d:j<hi-lo:=by simp at b;lia
 have:=u (lo+i) (lo+j) (by lia) (by lia) (by lia)
 rw[qXL (by lia),qXL (by lia)] at this
 simpa using this
theorem qGN {xs:Array Keyed}{lo hi:Nat}{x:Keyed}(m:x∈(xs.extract lo hi).toList):∃j,lo<=j/\j<hi/\j<xs.size/\gK xs j=gkv x:=by
 obtain⟨i,a,e⟩:=L8 m;have b:i<hi-lo/\i<xs.size-lo:=by simp at a;lia
 refine⟨lo+i,by lia,by lia,by lia,?_⟩
 rw[qXL (by lia),<- e]
 simp
theorem qXJ {xs:Array Keyed}{lo hi i:Nat}{x:Keyed}(m:(xs.extract lo hi).toList[i]?=some x):gK xs (lo+i)=gkv x:=by
 obtain⟨a,e⟩:=A3.mp m;have b:i<hi-lo/\i<xs.size-lo:=by simp at a;lia
 rw[qXL (by lia),<- e]
 simp
theorem qfT {xs a:Array Keyed}{b:Nat}{r:List Keyed}(e:a.toList=xs.toList.take b++r++xs.toList.drop (b+r.length))(g:b+r.length<=xs.size)(j:Nat):
  (j<b\/b+r.length<=j->gK a j=gK xs j)/\(b<=j->j<b+r.length->∃x,r[j-b]?=some x/\gK a j=gkv x):=by
 have c:(xs.toList.take b).length=b:=by simp;lia
 constructor
 ·intro hj;apply qGO;rw[<- F6,<- F6,e,L0];rcases hj with hj|hj
  ·rw[R8 (by lia),P0 hj]
  ·rw[G4 (by lia),c,G4 (by lia),A36]
   congr 1
   lia
 ·intro d f;refine⟨r[j-b]'(by lia),A4 _,qLA ?_⟩
  rw[<- F6,e,L0,G4 (by lia),c,R8 (by lia)]
  exact A4 _
section
variable{prog:B13}{w:World}{A:Around}{E:Aa1}{s:Shared}{κ0:B45}[LtOk prog w A s κ0]
theorem qa4 {st a:SortSt}{Q:PUnit->SortSt->Prop}(h:Q ⟨⟩ a):wpS (model prog w) A E s (set a:StateT SortSt Sem PUnit) Q st:=by
 unfold wpS;rw[StateT.run_set];exact B11 ⟨rfl,h⟩
structure gSG (κ0:B45)(a₀:Array Keyed)(st:SortSt):Prop where
 perm:(arrOf st).Perm a₀
 kind:kindOf st=κ0
 failed:failedOf st=none
theorem gSG.size {a₀:Array Keyed}{st:SortSt}(h:gSG κ0 a₀ st):(arrOf st).size=a₀.size:=h.perm.size_eq
theorem gSG.ik {a₀:Array Keyed}{st:SortSt}(h:gSG κ0 a₀ st)(b:qC3 a₀):∀x∈(arrOf st).toList,gIK x:=λx a=>b x ((V7.mp h.perm).mem_iff.mp a)
theorem qa7 {a₀:Array Keyed}{st:SortSt}{i b d p t q:Nat}{o u:List (Nat×Nat×Nat)}{Q:Bool->SortSt->Prop}(h0:qC3 a₀)(g:gSG κ0 a₀ st)
  (hp:(B16 st).toList=o++(b,d,p)::(b+d,t,q)::u) (hi:i=o.length) (ad:0<d) (ah:0<t) (hsz:b+d+t<=a₀.size)
  (ua:gSeg (arrOf st) b (b+d)) (ub:gSeg (arrOf st) (b+d) (b+d+t))
  (h:∀st',gSG κ0 a₀ st'->(B16 st').toList=o++(b,d+t,p)::u->gSeg (arrOf st') b (b+d+t)->(∀k,k<b\/b+d+t<=k->gK (arrOf st') k=gK (arrOf st) k)->Q true st'):
  wpS (model prog w) A E s (mergeAt' i) Q st:=by
 have p1:(B16 st)[i]?=some (b,d,p):=by
  rw[<- F6,hp,hi,G4 (A7 _),A58]
  rfl
 have p2:(B16 st)[i+1]?=some (b+d,t,q):=by
  rw[<- F6,hp,hi,G4 (by lia),show o.length+1-o.length=1 by lia]
  rfl
 have p3:(((B16 st).setIfInBounds i (b,d+t,p)).eraseIdxIfInBounds (i+1)).toList=o++(b,d+t,p)::u:=by
  rw[Array.toList_eraseIdxIfInBounds,f8,hp,hi];rw[List.set_append_right _ _ (A7 _),A58,List.eraseIdx_append_of_length_le (by lia),show o.length+1-o.length=1 by lia]
  rfl
 have size:=g.size;have ik:=g.ik h0;unfold mergeAt';refine B14 (B54 ?_);dsimp only;rw[p1,p2];dsimp only;obtain⟨kb,a9,_,ac⟩:=qBZ (a:=arrOf st) (i:=b+d) (by lia)
 have ai:gK (arrOf st) (b+d)=gkv kb:=qLA a9;refine B14 (qa4 (B14 (qB6 a9 ?_)));have g1:gSG κ0 a₀ (setPending st (((B16 st).setIfInBounds i (b,d+t,p)).eraseIdxIfInBounds (i+1))):=⟨g.perm,g.kind,g.failed⟩;show wpS _ _ _ _ (qaB false kb (arrOf st) b d 0 >>= _) _ _;refine B14 (qGM g1.kind (ik kb ac) ik (by lia) ad (qJ8 (by lia) ua) λk hk h1 h2=>?_)
 have a1:∀j,b<=j->j<b+k->gK (arrOf st) j<=gkv kb:=λj n l=>by
  have e:=h1 (j-b) (by lia)
  rw[qI8 (by lia),show b+(j-b)=j by lia] at e
  exact of_decide_eq_true e
 have a2:∀j,b+k<=j->j<b+d->gkv kb<gK (arrOf st) j:=λj n l=>by
  have e:=h2 (j-b) (by lia) (by lia)
  rw[qI8 (by lia),show b+(j-b)=j by lia] at e
  have:=of_decide_eq_false e
  lia
 dsimp only;by_cases ek:d-k=0
 ·refine gifT (by simpa using ek) ?_
  refine B15 (h _ g1 p3 (λi j n f l=>?_) λ_ _=>rfl);show gK (arrOf st) i<=gK (arrOf st) j;by_cases c1:j<b+d
  ·exact ua i j n f c1
  ·by_cases c2:i<b+d
   ·have q1:=a1 i n (by lia)
    have q2:=ub (b+d) j (by lia) (by lia) l
    lia
   ·exact ub i j (by lia) f l
 refine gifF (by simpa using ek) ?_
 rw[show b+k+(d-k)-1=b+d-1 by lia]
 obtain⟨kz,ab,_,af⟩:=qBZ (a:=arrOf st) (i:=b+d-1) (by lia)
 have ag:gK (arrOf st) (b+d-1)=gkv kz:=qLA ab;refine B14 (qB6 ab ?_);show wpS _ _ _ _ (qaB true kz (arrOf st) (b+d) t (t-1) >>= _) _ _;refine B14 (qGM g1.kind (ik kz af) ik (by lia) (by lia) (qJ8 (by lia) ub) λm hm h3 h4=>?_)
 have b1:∀j,b+d<=j->j<b+d+m->gK (arrOf st) j<gkv kz:=λj n l=>by
  have e:=h3 (j-(b+d)) (by lia)
  rw[qI8 (by lia),show b+d+(j-(b+d))=j by lia] at e
  exact of_decide_eq_true e
 have b2:∀j,b+d+m<=j->j<b+d+t->gkv kz<=gK (arrOf st) j:=λj n l=>by
  have e:=h4 (j-(b+d)) (by lia) (by lia)
  rw[qI8 (by lia),show b+d+(j-(b+d))=j by lia] at e
  have:=of_decide_eq_false e
  lia
 dsimp only;by_cases em:m=0
 ·refine gifT (by simpa using em) ?_
  refine B15 (h _ g1 p3 (λi j n f l=>?_) λ_ _=>rfl);show gK (arrOf st) i<=gK (arrOf st) j;by_cases c1:j<b+d
  ·exact ua i j n f c1
  ·by_cases c2:i<b+d
   ·have q1:=ua i (b+d-1) n (by lia) (by lia)
    have q2:=b2 j (by lia) l
    lia
   ·exact ub i j (by lia) f l
 refine gifF (by simpa using em) ?_
 have sx:((arrOf st).extract (b+k) (b+d)).size=d-k:=by simp;lia
 have sy:((arrOf st).extract (b+d) (b+d+m)).size=m:=by simp;lia
 have ux:=qQ0 (xs:=arrOf st) (lo:=b+k) (hi:=b+d) (by lia) λi j n f l=>ua i j (by lia) f l
 have uy:=qQ0 (xs:=arrOf st) (lo:=b+d) (hi:=b+d+m) (by lia) λi j n f l=>ub i j n f (by lia)
 have kx:∀x∈((arrOf st).extract (b+k) (b+d)).toList,gIK x:=λx hx=>ik x (by rw[qAP] at hx;exact W0 (P4 hx))
 have ky:∀x∈((arrOf st).extract (b+d) (b+d+m)).toList,gIK x:=λx hx=>ik x (by rw[qAP] at hx;exact W0 (P4 hx))
 have aa:∀y,((arrOf st).extract (b+d) (b+d+m)).toList[0]?=some y->∀x∈((arrOf st).extract (b+k) (b+d)).toList,gkv y<=gkv x:=by
  intro y hy x hx;have e:=qXJ hy;obtain⟨j,v,j2,_,ej⟩:=qGN hx;have:=a2 j v j2;rw[A59] at e
  lia
 have a7:∀z,((arrOf st).extract (b+k) (b+d)).toList[((arrOf st).extract (b+k) (b+d)).size-1]?=some z->∀y∈((arrOf st).extract (b+d) (b+d+m)).toList,gkv y<=gkv z:=by
  intro z hz y hy;have e:=qXJ hz;obtain⟨j,v,j2,_,ej⟩:=qGN hy;have:=b1 j v j2;rw[sx,show b+k+(d-k-1)=b+d-1 by lia] at e
  lia
 have a8:∀(r:Array Keyed) (st2:SortSt),gSE (setPending st (((B16 st).setIfInBounds i (b,d+t,p)).eraseIdxIfInBounds (i+1))) st2->gRes (((arrOf st).extract (b+k) (b+d)).toList++((arrOf st).extract (b+d) (b+d+m)).toList) r.toList->
   Q true (setArr st2 (r.toList.zipIdx.foldl (λa (p:Keyed×Nat)=>a.setIfInBounds (b+k+p.2) p.1) (arrOf st2))):=by
  rintro r st2 ⟨q1,q2,q3,q4⟩ ⟨rp,ru⟩;have a4:arrOf st2=arrOf st:=q2;have rl:r.toList.length=d-k+m:=by
   rw[rp.length_eq,B7,E6,E6,sx,sy]
  have e:=qQ3 (b+k) r.toList 0 (arrOf st2) (by rw[a4,rl];lia)
  rw[A59,a4] at e;have LK:=qfT e (by rw[rl];lia)
  have e0:(arrOf st).toList=(arrOf st).toList.take (b+k)++(((arrOf st).extract (b+k) (b+d)).toList++((arrOf st).extract (b+d) (b+d+m)).toList)++(arrOf st).toList.drop (b+k+r.toList.length):=by
   rw[qAP,qAP,rl,show b+d-(b+k)=d-k by lia,show b+d+m-(b+d)=m by lia]
   have t1:(arrOf st).toList.drop (b+d)=((arrOf st).toList.drop (b+k)).drop (d-k):=by rw[k6];congr 1;lia
   have t2:(arrOf st).toList.drop (b+k)=((arrOf st).toList.drop (b+k)).take (d-k+m)++(arrOf st).toList.drop (b+k+(d-k+m)):=qHD;rw[t1,<- A96,L0,<- t2,a6]
  have gp:(r.toList.zipIdx.foldl (λa (p:Keyed×Nat)=>a.setIfInBounds (b+k+p.2) p.1) (arrOf st)).Perm (arrOf st):=by
   rw[V7,e]
   conv=>rhs;rw[e0]
   exact(y8 _ rp).append_right _
  have a5:∀x∈r.toList,∀i,b<=i->i<b+k->gK (arrOf st) i<=gkv x:=by
   intro x hx i n hi;rcases B4.mp (rp.mem_iff.mp hx) with hx|hx
   ·obtain⟨j,v,j2,_,ej⟩:=qGN hx;rw[<- ej];exact ua i j n (by lia) j2
   ·obtain⟨j,v,j2,_,ej⟩:=qGN hx;have z1:=a1 i n hi;have z2:=ub (b+d) j (by lia) v (by lia)
    lia
  have a0:∀x∈r.toList,∀j,b+d+m<=j->j<b+d+t->gkv x<=gK (arrOf st) j:=by
   intro x hx j n l;rcases B4.mp (rp.mem_iff.mp hx) with hx|hx
   ·obtain⟨i,v,j2,_,ej⟩:=qGN hx;have z1:=ua i (b+d-1) (by lia) (by lia) (by lia)
    have z2:=b2 j n l
    lia
   ·obtain⟨i,v,j2,_,ej⟩:=qGN hx;rw[<- ej];exact ub i j v (by lia) l
  rw[a4];refine h _ ⟨gp.trans g.perm,q1.trans g.kind,q4.trans g.failed⟩ ((congrArg A54 q3).trans p3) ?_ λj l=>(LK j).1 (by rw[rl];lia)
  intro i j n f l;show gK (r.toList.zipIdx.foldl (λa (p:Keyed×Nat)=>a.setIfInBounds (b+k+p.2) p.1) (arrOf st)) i<=gK (r.toList.zipIdx.foldl (λa (p:Keyed×Nat)=>a.setIfInBounds (b+k+p.2) p.1) (arrOf st)) j;have K1:∀j,j<b+k\/b+k+(d-k+m)<=j->gK (r.toList.zipIdx.foldl (λa (p:Keyed×Nat)=>a.setIfInBounds (b+k+p.2) p.1) (arrOf st)) j=gK (arrOf st) j:=λj l=>(LK j).1 (by rw[rl];exact l)
  have K2:∀j,b+k<=j->j<b+k+(d-k+m)->∃x,r.toList[j-(b+k)]?=some x/\gK (r.toList.zipIdx.foldl (λa (p:Keyed×Nat)=>a.setIfInBounds (b+k+p.2) p.1) (arrOf st)) j=gkv x:=λj h1 h2=>(LK j).2 h1 (by rw[rl];exact h2)
  by_cases c1:i<b+k
  ·rw[K1 i (.inl c1)];by_cases c2:j<b+k
   ·rw[K1 j (.inl c2)];exact ua i j n f (by lia)
   ·by_cases c3:j<b+k+(d-k+m)
    ·obtain⟨x,ex,a3⟩:=K2 j (by lia) c3
     rw[a3];exact a5 x (A9 ex) i n c1
    ·rw[K1 j (.inr (by lia))]
     have z1:=a1 i n c1;have z2:=ub (b+d) j (by lia) (by lia) l
     lia
  ·by_cases c2:i<b+k+(d-k+m)
   ·obtain⟨x,ex,a3⟩:=K2 i (by lia) c2
    rw[a3];by_cases c3:j<b+k+(d-k+m)
    ·obtain⟨y,ey,ae⟩:=K2 j (by lia) c3
     rw[ae];by_cases c4:i=j
     ·rw[c4] at ex;rw[ex] at ey;cases ey;exact K7 _
     ·obtain⟨x1,x2⟩:=A3.mp ex;obtain⟨y1,y2⟩:=A3.mp ey;have:=G2.mp ru (i-(b+k)) (j-(b+k)) x1 y1 (by lia)
      rw[x2,y2] at this;exact this
    ·rw[K1 j (.inr (by lia))]
     exact a0 x (A9 ex) j (by lia) l
   ·rw[K1 i (.inr (by lia)),K1 j (.inr (by lia))]
    exact ub i j (by lia) f l
 by_cases c:d-k<=m
 ·refine gifT c ?_;show wpS _ _ _ _ (gmLo ((arrOf st).extract (b+k) (b+d)) ((arrOf st).extract (b+d) (b+d+m)) >>= _) _ _;refine B14 (qa5 g1.kind kx ky ux uy (by rw[sx];lia) (by rw[sy];lia) aa a7 λr st2 se rs=>?_)
  refine B14 (B29 (B14 (B54 (B15 ?_))));have e:(failedOf st2).isNone=true:=by rw[se.2.2.2,g1.failed];rfl
  show Q (failedOf st2).isNone _;rw[e];exact a8 r st2 se rs
 ·refine gifF c ?_;show wpS _ _ _ _ (gmHi ((arrOf st).extract (b+k) (b+d)) ((arrOf st).extract (b+d) (b+d+m)) >>= _) _ _;refine B14 (qa6 g1.kind kx ky ux uy (by rw[sx];lia) (by rw[sy];lia) aa a7 λr st2 se rs=>?_)
  refine B14 (B29 (B14 (B54 (B15 ?_))));have e:(failedOf st2).isNone=true:=by rw[se.2.2.2,g1.failed];rfl
  show Q (failedOf st2).isNone _;rw[e];exact a8 r st2 se rs
end
end L2.G
namespace L2.G
open PySem PyProof.Rows
variable[NM]
def gOut (xs ys:Array Keyed)(lo hi:Nat):Prop:=∀k,k<lo\/hi<=k->gK ys k=gK xs k
theorem gOut.refl (xs:Array Keyed)(lo hi:Nat):gOut xs xs lo hi:=λ_ _=>rfl
theorem gOut.trans {xs a zs:Array Keyed}{lo hi:Nat}(d:gOut xs a lo hi)(c:gOut a zs lo hi):gOut xs zs lo hi:=λk b=>(c k b).trans (d k b)
theorem gOut.wide {xs e:Array Keyed}{lo hi d c:Nat}(h:gOut xs e lo hi)(a:d<=lo)(b:hi<=c):gOut xs e d c:=λk f=>h k (by lia)
theorem gSG.lay {κ0:B45}{a₀:Array Keyed}{st:SortSt}(g:gSG κ0 a₀ st){a:Array Keyed}(p:a.Perm (arrOf st)):gSG κ0 a₀ (setArr st a):=⟨p.trans g.perm,g.kind,g.failed⟩
theorem qRS {xs:Array Keyed}{i j:Nat}(a:j<=xs.size):gOut xs (mirror xs i j ((j-i)/2)) i j:=λk b=>by rw[qIA a,if_neg (by lia)]
section
variable{prog:B13}{w:World}{A:Around}{E:Aa1}{s:Shared}{κ0:B45}[LtOk prog w A s κ0]{a₀:Array Keyed}
theorem qI5 {st:SortSt}{i j:Nat}{Q:Option Bool->SortSt->Prop}(e:qC3 a₀)(g:gSG κ0 a₀ st)(hi:i<a₀.size)(k:j<a₀.size)(h:Q (some (decide (gK (arrOf st) i<gK (arrOf st) j))) st):wpS (model prog w) A E s (ltAt' i j) Q st:=by
 have a:i<(arrOf st).size:=by rw[g.size];exact hi
 have b:j<(arrOf st).size:=by rw[g.size];exact k
 obtain⟨x,d,_,f⟩:=qBZ a;obtain⟨y,c,_,l⟩:=qBZ b;rw[qLA d,qLA c] at h;rw[ltAt'_eq];refine B14 (B54 ?_);exact B14 (qB6 d (B14 (qB6 c (qI6 g.kind (g.ik e x f) (g.ik e y l) h))))
theorem qaA {st:SortSt}{lo n f:Nat}{Q:Bool->SortSt->Prop}(h0:qC3 a₀)(g:gSG κ0 a₀ st)(hn:lo+n<=a₀.size)(z:f<=n)(u:gSeg (arrOf st) lo (lo+f))
  (h:∀st2,gSG κ0 a₀ st2->B16 st2=B16 st->gSeg (arrOf st2) lo (lo+n)->gOut (arrOf st) (arrOf st2) lo (lo+n)->Q true st2):wpS (model prog w) A E s (binarySort' lo n f) Q st:=by
 rw [binarySort'_eq];refine B14 (B36 (B26 (I:=fun k c st2=>c=(none,())/\gSG κ0 a₀ st2/\B16 st2=B16 st/\gSeg (arrOf st2) lo (lo+min k n)/\gOut (arrOf st) (arrOf st2) lo (lo+n))
  (Q:=λc st2=>c=(none,())/\gSG κ0 a₀ st2/\B16 st2=B16 st/\gSeg (arrOf st2) lo (lo+n)/\gOut (arrOf st) (arrOf st2) lo (lo+n)) ?step ?fin ?init) ?post)
 case post=>
  rintro c st2 ⟨rfl,g2,pe,u2,o2⟩;exact B15 (h st2 g2 pe u2 o2)
 case init=>
  refine⟨rfl,g,rfl,λi j q o hj=>?_,.refl _ _ _⟩;by_cases p:f=0
  ·rw[show i=j by lia]
   exact K7 _
  ·exact u i j q o (by lia)
 case fin=>
  rintro c st2 ⟨hc,g2,pe,u2,o2⟩;rw[show min (max (max f 1) n) n=n by lia] at u2
  exact⟨hc,g2,pe,u2,o2⟩
 case step=>
  rintro k c st2 hak hkn ⟨rfl,g2,pe,u2,o2⟩;rw[show min k n=k by lia] at u2
  have t:lo+k<a₀.size:=by lia
  refine B14 (B36 (B26 (I:=fun x c a=>a=st2/\∃ l r,c=(none,l,r)/\l<=r/\r<=k/\r - l<=k - x/\
    (∀i,lo<=i->i<lo+l->gK (arrOf st2) i<=gK (arrOf st2) (lo+k))/\(∀i,lo+r<=i->i<lo+k->gK (arrOf st2) (lo+k)<gK (arrOf st2) i))
   (Q:=fun c a=>a=st2/\∃ l r,c=(none,l,r)/\l<=k/\
    (∀i,lo<=i->i<lo+l->gK (arrOf st2) i<=gK (arrOf st2) (lo+k))/\(∀i,lo+l<=i->i<lo+k->gK (arrOf st2) (lo+k)<gK (arrOf st2) i)) ?istep ?ifin ?iinit) ?ipost)
  case iinit=>exact⟨rfl,0,k,rfl,by lia,by lia,by lia,λi _ y=>by lia,λi p v=>by lia⟩
  case ifin=>
   rintro c a ⟨rfl,l,r,rfl,hlr,hrk,hm,ha,hb⟩;have e:l=r:=by lia
   rw[<- e] at hb hrk;exact⟨rfl,l,r,rfl,hrk,ha,hb⟩
  case istep=>
   rintro x c a _ hxk ⟨rfl,l,r,rfl,hlr,hrk,hm,ha,hb⟩;dsimp only;by_cases m:l>=r
   ·refine gifT m ?_;have e:l=r:=by lia
    rw[<- e] at hb hrk;exact B15 ⟨rfl,l,r,rfl,hrk,ha,hb⟩
   ·refine gifF m ?_;refine B14 (qI5 h0 g2 t (by lia) ?_)
    by_cases b:gK (arrOf a) (lo+k)<gK (arrOf a) (lo+(l+r)/2)
    ·rw[decide_eq_true b];dsimp only;refine gifT rfl ?_;refine B15 ⟨rfl,l,(l+r)/2,rfl,by lia,by lia,by lia,ha,λi p v=>?_⟩
     have:=u2 (lo+(l+r)/2) i (by lia) p v
     lia
    ·rw[decide_eq_false b];dsimp only;rw[if_neg B1];refine B15 ⟨rfl,(l+r)/2+1,r,rfl,by lia,by lia,by lia,λi h3 p=>?_,hb⟩
     have:=u2 i (lo+(l+r)/2) h3 (by lia) (by lia)
     lia
  case ipost=>
   rintro c a ⟨rfl,l,r,rfl,hlk,ha,hb⟩;have d:lo+k<(arrOf a).size:=by rw[g2.size];exact t
   show wpS _ _ _ _ (moveDown' (lo+k) (lo+l) >>= λ_=>pure (L7 (none,()))) _ _;rw[moveDown'_eq];refine B14 (B29 (B15 ⟨rfl,g2.lay (bubble_perm _ _ _),pe,?_,o2.trans ?_⟩))
   ·rw[show min (k+1) n=k+1 by lia]
    intro i j q o hj;show gK (bubble (arrOf a) (lo+k) (lo+k-(lo+l))) i<=gK (bubble (arrOf a) (lo+k) (lo+k-(lo+l))) j;rw[qLB d (by lia),qLB d (by lia),show lo+k-(lo+k-(lo+l))=lo+l by lia]
    repeat' split
    all_goals first
     |(exfalso;lia)
     |exact K7 _
     |exact ha _ (by lia) (by lia)
     |exact j5 (hb _ (by lia) (by lia))
     |exact u2 _ _ (by lia) (by lia) (by lia)
   ·intro i y;show gK (bubble (arrOf a) (lo+k) (lo+k-(lo+l))) i=gK (arrOf a) i;rw[qLB d (by lia),if_neg (by lia),if_neg (by lia)]
abbrev gCUp:=Option (Option Nat)×Nat
abbrev gCDn:=Option (Option Nat)×Nat×Nat
noncomputable def gupL (lo a m:Nat):gSM gCUp:=
 forIn [a:m] ((none,a):gCUp) λ_ c=>do
  let t <- ltAt' (lo+c.snd) (lo+c.snd-1)
  match t with
  |some less=>if less=true then pure (Z8 (none,c.snd)) else pure (L7 (none,c.snd+1))
  |_=>pure (Z8 (some none,c.snd))
noncomputable def qXH (lo n m:Nat):gSM (Option Nat):=do
 reverseSlice' lo (lo+n)
 let c <- gupL lo n m
 match c.fst with
 |some r=>pure r
 |none=>pure (some c.snd)
noncomputable def gdnL (lo n m:Nat):gSM gCDn:=
 forIn [n:m] ((none,n,0):gCDn) λ_ c=>do
  let t <- ltAt' (lo+c.snd.fst) (lo+c.snd.fst-1)
  match t with
  |some less=>
   if less=true then
    if c.snd.snd>0 then do
     reverseSlice' (lo+c.snd.fst-(c.snd.snd+1)) (lo+c.snd.fst)
     pure (L7 (none,c.snd.fst+1,0))
    else pure (L7 (none,c.snd.fst+1,0))
   else do
    let t <- ltAt' (lo+c.snd.fst-1) (lo+c.snd.fst)
    match t with
    |some more=>
     if more=true then pure (Z8 (none,c.snd.fst,c.snd.snd))
     else pure (L7 (none,c.snd.fst+1,c.snd.snd+1))
    |_=>pure (Z8 (some none,c.snd.fst,c.snd.snd))
  |_=>pure (Z8 (some none,c.snd.fst,c.snd.snd))
noncomputable def gdnP (lo n m:Nat):gSM (Option Nat):=do
 liftM (rule "list.sort.descending-run")
 let c <- gdnL lo (n+1) m
 match c.fst with
 |some r=>pure r
 |none=>
  if c.snd.snd>0 then do
   reverseSlice' (lo+c.snd.fst-(c.snd.snd+1)) (lo+c.snd.fst)
   qXH lo c.snd.fst m
  else qXH lo c.snd.fst m
theorem qBA {α β:Type}{x y:gSM α}{f g:α->gSM β}(h:x=y)(k:∀a,f a=g a):(x >>= f)=(y >>= g):=by rw[h,show f=g from funext k]
theorem qXI (lo m:Nat):countRun' lo m=(do
  let c <- gupL lo 1 m
  match c.fst with
  |some r=>pure r
  |none=>
   if(c.snd==m)=true then pure (some c.snd)
   else if c.snd>1 then do
    let t <- ltAt' lo (lo+c.snd-1)
    match t with
    |some rose=>if rose=true then pure (some c.snd) else do
      reverseSlice' lo (lo+c.snd)
      gdnP lo c.snd m
    |_=>pure none
   else gdnP lo c.snd m):=by
 rw[countRun'_eq];unfold gdnP qXH gdnL gupL;refine qBA rfl λc=>?_;obtain⟨r,n⟩:=c;cases r with
 |some r=>rfl
 |none=>
  have f:∀c3:gCUp,(match c3.fst with|some r=>pure r|none=>pure (some c3.snd):gSM (Option Nat))=(match c3.fst with|some r=>pure r|none=>pure (some c3.snd)):=λ_=>rfl
  dsimp only
  split
  ·rfl
  ·split
   ·refine qBA rfl λx=>?_;cases x with
    |none=>rfl
    |some rose=>
     dsimp only
     split
     ·rfl
     ·refine qBA rfl λ_=>qBA rfl λ_=>qBA rfl λd=>?_;obtain⟨b,g,h⟩:=d;cases b with
      |some b=>rfl
      |none=>
       dsimp only
       split
       ·refine qBA rfl λ_=>qBA rfl λ_=>qBA rfl λc3=>?_;obtain⟨a,e⟩:=c3;cases a<;>rfl
       ·refine qBA rfl λ_=>qBA rfl λc3=>?_;obtain⟨a,e⟩:=c3;cases a<;>rfl
   ·refine qBA rfl λ_=>qBA rfl λd=>?_;obtain⟨b,g,h⟩:=d;cases b with
    |some b=>rfl
    |none=>
     dsimp only
     split
     ·refine qBA rfl λ_=>qBA rfl λ_=>qBA rfl λc3=>?_;obtain⟨a,e⟩:=c3;cases a<;>rfl
     ·refine qBA rfl λ_=>qBA rfl λc3=>?_;obtain⟨a,e⟩:=c3;cases a<;>rfl
def gFal (xs:Array Keyed)(lo hi:Nat):Prop:=∀i j,lo<=i->i<=j->j<hi->gK xs j<=gK xs i
theorem qTE {st:SortSt}{lo a m:Nat}{Q:gCUp->SortSt->Prop}(o:qC3 a₀)(g:gSG κ0 a₀ st)(t:lo+m<=a₀.size)(r:1<=a)(k:a<=m)(u:gSeg (arrOf st) lo (lo+a))
  (h:∀n,a<=n->n<=m->gSeg (arrOf st) lo (lo+n)->(n=m\/gK (arrOf st) (lo+n)<gK (arrOf st) (lo+n-1))->Q (none,n) st):wpS (model prog w) A E s (gupL lo a m) Q st:=by
 unfold gupL;refine B26 (I:=λx c b=>b=st/\c=(none,x)/\gSeg (arrOf st) lo (lo+x)) ?step ?fin ⟨rfl,rfl,u⟩
 case fin=>
  rintro c b ⟨rfl,rfl,u2⟩;rw[show max a m=m by lia] at u2 ⊢
  exact h m k (A7 _) u2 (.inl rfl)
 case step=>
  rintro x c b hax hxn ⟨rfl,rfl,u2⟩;dsimp only;refine B14 (qI5 o g (by lia) (by lia) ?_)
  by_cases d:gK (arrOf b) (lo+x)<gK (arrOf b) (lo+x-1)
  ·rw[decide_eq_true d];dsimp only;refine gifT rfl ?_;exact B15 (h x hax (by lia) u2 (.inr d))
  ·rw[decide_eq_false d];dsimp only;rw[if_neg B1];refine B15 ⟨rfl,rfl,λi j l f v=>?_⟩;by_cases e:j<lo+x
   ·exact u2 i j l f e
   ·have p:j=lo+x:=by lia
    rw[p];by_cases q:i=lo+x
    ·rw[q];exact K7 _
    ·have:=u2 i (lo+x-1) l (by lia) (by lia)
     lia
theorem qPZ {st:SortSt}{lo n m:Nat}{Q:Option Nat->SortSt->Prop}(o:qC3 a₀)(g:gSG κ0 a₀ st)(f:lo+m<=a₀.size)(l:1<=n)(c:n<=m)(u:gFal (arrOf st) lo (lo+n))
  (h:∀k st2,gSG κ0 a₀ st2->B16 st2=B16 st->1<=k->k<=m->gSeg (arrOf st2) lo (lo+k)->gOut (arrOf st) (arrOf st2) lo (lo+m)->Q (some k) st2):wpS (model prog w) A E s (qXH lo n m) Q st:=by
 unfold qXH;have a:lo+n<=(arrOf st).size:=by rw[g.size];lia
 rw[B80];refine B14 (B29 ?_);have d:gSG κ0 a₀ (setArr st (mirror (arrOf st) lo (lo+n) ((lo+n-lo)/2))):=g.lay (mirror_perm _ _ _ _);refine B14 (qTE o d f l c ?_ λk e b p _=>B15 (h k _ d rfl (by lia) b p ((qRS a).wide (A7 _) (by lia))))
 intro i j r q t;show gK (mirror (arrOf st) lo (lo+n) ((lo+n-lo)/2)) i<=gK (mirror (arrOf st) lo (lo+n) ((lo+n-lo)/2)) j;rw[qIA a,qIA a,if_pos (by lia),if_pos (by lia)]
 exact u _ _ (by lia) (by lia) (by lia)
theorem qa8 {st:SortSt}{lo n m:Nat}{Q:gCDn->SortSt->Prop}(h0:qC3 a₀)(g:gSG κ0 a₀ st)(hm:lo+m<=a₀.size)(t:1<=n)(z:n<=m)(u:gFal (arrOf st) lo (lo+n))
  (h:∀k e st2,gSG κ0 a₀ st2->B16 st2=B16 st->n<=k->k<=m->gFal (arrOf st2) lo (lo+k)->e+1<=k->(∀i,lo+k-(e+1)<=i->i<lo+k->gK (arrOf st2) i=gK (arrOf st2) (lo+k-1))->gOut (arrOf st) (arrOf st2) lo (lo+m)->Q (none,k,e) st2):
  wpS (model prog w) A E s (gdnL lo n m) Q st:=by
 unfold gdnL;refine B26 (I:=fun x c st2=>∃ e,c=(none,x,e)/\gSG κ0 a₀ st2/\B16 st2=B16 st/\gFal (arrOf st2) lo (lo+x)/\e+1<=x/\
   (∀i,lo+x-(e+1)<=i->i<lo+x->gK (arrOf st2) i=gK (arrOf st2) (lo+x-1))/\gOut (arrOf st) (arrOf st2) lo (lo+m)) ?step ?fin ⟨0,rfl,g,rfl,u,by lia,λi t v=>by congr 1;lia,.refl _ _ _⟩
 case fin=>
  rintro c st2 ⟨e,rfl,g2,pe,u2,hq,he,o2⟩;rw[show max n m=m by lia] at u2 hq he ⊢
  exact h m e st2 g2 pe z (A7 _) u2 hq he o2
 case step=>
  rintro x c st2 hax hxn ⟨e,rfl,g2,pe,u2,hq,he,o2⟩;dsimp only;have q:lo+x<=(arrOf st2).size:=by rw[g2.size];lia
  refine B14 (qI5 h0 g2 (by lia) (by lia) ?_)
  by_cases d:gK (arrOf st2) (lo+x)<gK (arrOf st2) (lo+x-1)
  ·rw[decide_eq_true d];dsimp only;refine gifT rfl ?_;have b:∀ys:Array Keyed,(∀k,gK ys k=gK (arrOf st2) k)->gFal ys lo (lo+(x+1)):=by
    intro ys hk i j o l hj;rw[hk,hk];by_cases f:j<lo+x
    ·exact u2 i j o l f
    ·have y:j=lo+x:=by lia
     rw[y];by_cases r:i=lo+x
     ·rw[r];exact K7 _
     ·have:=u2 i (lo+x-1) o (by lia) (by lia)
      lia
   by_cases a:e>0
   ·rw[if_pos a,B80];refine B14 (B29 (B15 ⟨0,rfl,g2.lay (mirror_perm _ _ _ _),pe,b _ (qAX q he),by lia,λi t v=>by congr 1;lia,o2.trans ?_⟩))
    exactλk _=>qAX q he k
   ·refine gifF a ?_;exact B15 ⟨0,rfl,g2,pe,b _ (λ_=>rfl),by lia,λi t v=>by congr 1;lia,o2⟩
  ·rw[decide_eq_false d];dsimp only;rw[if_neg B1];refine B14 (qI5 h0 g2 (by lia) (by lia) ?_)
   by_cases p:gK (arrOf st2) (lo+x-1)<gK (arrOf st2) (lo+x)
   ·rw[decide_eq_true p];dsimp only;refine gifT rfl ?_;exact B15 (h x e st2 g2 pe hax (by lia) u2 hq he o2)
   ·rw[decide_eq_false p];dsimp only;rw[if_neg B1];have ex:gK (arrOf st2) (lo+x)=gK (arrOf st2) (lo+x-1):=by lia
    refine B15 ⟨e+1,rfl,g2,pe,λi j o l hj=>?_,by lia,λi t v=>?_,o2⟩
    ·by_cases f:j<lo+x
     ·exact u2 i j o l f
     ·have y:j=lo+x:=by lia
      rw[y];by_cases r:i=lo+x
      ·rw[r];exact K7 _
      ·rw[ex];exact u2 i (lo+x-1) o (by lia) (by lia)
    ·rw[show lo+(x+1)-1=lo+x by lia]
     by_cases r:i=lo+x
     ·rw[r]
     ·rw[ex];exact he i (by lia) (by lia)
theorem qTF {st:SortSt}{lo n m:Nat}{Q:Option Nat->SortSt->Prop}(t:qC3 a₀)(g:gSG κ0 a₀ st)(l:lo+m<=a₀.size)(p:n+1<=m)(u:gFal (arrOf st) lo (lo+(n+1)))
  (h:∀k st2,gSG κ0 a₀ st2->B16 st2=B16 st->1<=k->k<=m->gSeg (arrOf st2) lo (lo+k)->gOut (arrOf st) (arrOf st2) lo (lo+m)->Q (some k) st2):wpS (model prog w) A E s (gdnP lo n m) Q st:=by
 unfold gdnP;refine B14 (wpS_lift (B51 ⟨rfl,?_⟩));refine B14 (qa8 t g l (by lia) p u λk e st2 g2 pe a0 f u2 hq r o2=>?_)
 dsimp only;have c:lo+k<=(arrOf st2).size:=by rw[g2.size];lia
 by_cases a:e>0
 ·rw[if_pos a,B80];refine B14 (B29 (qPZ t (g2.lay (mirror_perm _ _ _ _)) l (by lia) f ?_ λy b q d z o v o3=>h y b q (d.trans pe) z o v ?_))
  ·intro i j hl x hj;show gK (mirror (arrOf st2) _ _ _) j<=gK (mirror (arrOf st2) _ _ _) i;rw[qAX c r,qAX c r];exact u2 i j hl x hj
  ·exact o2.trans (gOut.trans (λk _=>qAX c r k) o3)
 ·refine gifF a ?_;exact qPZ t g2 l (by lia) f u2 λy b q d z o v o3=>h y b q (d.trans pe) z o v (o2.trans o3)
theorem qa9 {st:SortSt}{lo m:Nat}{Q:Option Nat->SortSt->Prop}(t:qC3 a₀)(g:gSG κ0 a₀ st)(v:lo+m<=a₀.size)(h1:1<=m)
  (h:∀k st2,gSG κ0 a₀ st2->B16 st2=B16 st->1<=k->k<=m->gSeg (arrOf st2) lo (lo+k)->gOut (arrOf st) (arrOf st2) lo (lo+m)->Q (some k) st2):wpS (model prog w) A E s (countRun' lo m) Q st:=by
 rw[qXI];refine B14 (qTE t g v (A7 1) h1 (λi j d q z=>by rw[show i=j by lia];exact K7 _) λn o r u or=>?_)
 dsimp only;by_cases e:n=m
 ·refine gifT (by simpa using e) ?_
  exact B15 (h n st g rfl o r u (.refl _ _ _))
 ·refine gifF (by simpa using e) ?_
  have f:gK (arrOf st) (lo+n)<gK (arrOf st) (lo+n-1):=or.resolve_left e;by_cases p:n>1
  ·refine gifT p ?_;refine B14 (qI5 t g (by lia) (by lia) ?_)
   by_cases b:gK (arrOf st) lo<gK (arrOf st) (lo+n-1)
   ·rw[decide_eq_true b];dsimp only;refine gifT rfl ?_;exact B15 (h n st g rfl o r u (.refl _ _ _))
   ·rw[decide_eq_false b];dsimp only;rw[if_neg B1,B80];have c:lo+n<=(arrOf st).size:=by rw[g.size];lia
    have a:∀k,lo<=k->k<lo+n->gK (arrOf st) k=gK (arrOf st) (lo+n-1):=by
     intro k d hk;have a1:=u lo k (by lia) d hk
     have a2:=u k (lo+n-1) d (by lia) (by lia)
     lia
    refine B14 (B29 (qTF t (g.lay (mirror_perm _ _ _ _)) v (by lia) ?_ λk st2 g2 pe a1 a2 u2 o2=>h k st2 g2 pe a1 a2 u2 (gOut.trans (λk _=>qAX c a k) o2)))
    intro i j d q z;show gK (mirror (arrOf st) _ _ _) j<=gK (mirror (arrOf st) _ _ _) i;rw[qAX c a,qAX c a];by_cases y:j<lo+n
    ·rw[a i d (by lia),a j (by lia) y]
     exact K7 _
    ·have x:j=lo+n:=by lia
     rw[x];by_cases l:i=lo+n
     ·rw[l];exact K7 _
     ·rw[a i d (by lia)]
      exact j5 f
  ·refine gifF p ?_;have e1:n=1:=by lia
   rw[e1] at f;rw[e1];refine qTF t g v (by lia) ?_ h
   intro i j d q z;by_cases l:i=j
   ·rw[l];exact K7 _
   ·have l:i=lo:=by lia
    have x:j=lo+1:=by lia
    rw[l,x];exact j5 f
end
end L2.G
namespace L2.G
open PySem PyProof.Rows
variable[NM]
def qDH (xs:Array Keyed):List (Nat×Nat×Nat)->Nat->Nat->Prop
 |[],a,b=>a=b
 |r::rs,a,b=>r.1=a/\0<r.2.1/\gSeg xs a (a+r.2.1)/\qDH xs rs (a+r.2.1) b
theorem qJX {xs:Array Keyed}:∀{l:List (Nat×Nat×Nat)} {a b:Nat},qDH xs l a b->a+l.length<=b
 |[],a,b,h=>by
  have:a=b:=h;simp
  lia
 |r::rs,a,b,h=>by
  have:=qJX h.2.2.2;have:=h.2.1;simp
  lia
theorem gruns_app {xs:Array Keyed}:∀{l m:List (Nat×Nat×Nat)} {a b:Nat},qDH xs (l++m) a b↔∃c,qDH xs l a c/\qDH xs m c b
 |[],m,a,b=>⟨λh=>⟨a,rfl,h⟩,λ⟨c,e,h⟩=>by cases(show a=c from e);exact h⟩
 |r::rs,m,a,b=>by
  constructor
  ·rintro⟨h1,h2,h3,h4⟩;obtain⟨c,q1,q2⟩:=gruns_app.mp h4;exact⟨c,⟨h1,h2,h3,q1⟩,q2⟩
  ·rintro⟨c,⟨h1,h2,h3,q1⟩,q2⟩;exact⟨h1,h2,h3,gruns_app.mpr ⟨c,q1,q2⟩⟩
theorem qL9 {xs ys:Array Keyed}:∀{l:List (Nat×Nat×Nat)} {a b:Nat},(∀k,a<=k->k<b->gK ys k=gK xs k)->qDH xs l a b->qDH ys l a b
 |[],a,b,_,h=>h
 |r::rs,a,b,e,h=>by
  have le:=qJX h.2.2.2;refine⟨h.1,h.2.1,λi j hl hij hj=>?_,qL9 (λk h1 h2=>e k (by lia) h2) h.2.2.2⟩
  rw[e i hl (by lia),e j (by lia) (by lia)]
  exact h.2.2.1 i j hl hij hj
theorem qXG {α:Type}:∀{l:List α} {i:Nat},i+1<l.length->∃pre x y post,l=pre++x::y::post/\pre.length=i
 |[],_,h=>by simp at h
 |[x],_,h=>by simp at h
 |x::y::r,0,_=>⟨[],x,y,r,rfl,rfl⟩
 |x::y::r,i+1,h=>by
  obtain⟨pre,a,b,post,e,el⟩:=qXG (l:=y::r) (i:=i) (by simp at h ⊢;lia)
  exact⟨x::pre,a,b,post,by rw[e];rfl,by simp[el]⟩
section
variable{prog:B13}{w:World}{A:Around}{E:Aa1}{s:Shared}{κ0:B45}[LtOk prog w A s κ0]{a₀:Array Keyed}
theorem qIT {st:SortSt}{i b:Nat}{Q:Bool->SortSt->Prop}(h0:qC3 a₀)(g:gSG κ0 a₀ st)(r:qDH (arrOf st) (B16 st).toList 0 b)(hb:b<=a₀.size)(hi:i+1<(B16 st).size)
  (h:∀st2,gSG κ0 a₀ st2->qDH (arrOf st2) (B16 st2).toList 0 b->(B16 st2).size+1=(B16 st).size->(∀k,b<=k->gK (arrOf st2) k=gK (arrOf st) k)->Q true st2):wpS (model prog w) A E s (mergeAt' i) Q st:=by
 obtain⟨a0,⟨f,n,p⟩,⟨sb,m,q⟩,a,e,el⟩:=qXG (l:=(B16 st).toList) (i:=i) (by simpa using hi)
 rw[e] at r;obtain⟨c,r1,r2⟩:=gruns_app.mp r;obtain⟨v,t,x,y1,y2,y,j⟩:=r2;dsimp only at v t x y1 y2 y j;subst v;subst y1;have le:=qJX j;refine qa7 h0 g e el.symm t y2 (by lia) x y λst2 g2 z u o=>h st2 g2 ?_ ?_ λk d=>o k (.inr (by lia))
 ·rw[z];refine gruns_app.mpr ⟨f,qL9 (λk _ d=>o k (.inl d)) r1,rfl,by show 0<n+m;lia,?_,?_⟩
  ·show gSeg _ f (f+(n+m));rw[<- A35];exact u
  ·show qDH _ a (f+(n+m)) b;rw[<- A35];exact qL9 (λk d _=>o k (.inr d)) j
 ·have l1:=congrArg R7 z;have l2:=congrArg R7 e;simp at l1 l2
  lia
theorem qQ2 (f:Nat×Nat×Nat->Nat×Nat×Nat)(y:Nat×Nat×Nat):∀l:List (Nat×Nat×Nat),(l++[y]).modify l.length f=l++[f y]
 |[]=>rfl
 |z::l=>by
  show z::(l++[y]).modify l.length f=z::(l++[f y]);rw[qQ2 f y l]
theorem qQ1 {xs:Array Keyed}{p:Array (Nat×Nat×Nat)}{b pw:Nat}{f:Nat×Nat×Nat->Nat×Nat×Nat}(d:∀y,(f y).1=y.1/\(f y).2.1=y.2.1)(r:qDH xs p.toList 0 b):qDH xs (p.modify (p.size-1) f).toList 0 b:=by
 rw[Array.toList_modify,<- E6];generalize p.toList=l at r;rcases List.eq_nil_or_concat l with e|⟨l',y,e⟩
 ·rw[e] at r ⊢;exact r
 ·rw[e] at r ⊢;rw[List.concat_eq_append] at r ⊢;obtain⟨c,k,m⟩:=gruns_app.mp r;rw[B7,F1,A34,qQ2];refine gruns_app.mpr ⟨c,k,?_⟩;obtain⟨g,h,n,j⟩:=m;have i:=(d y).1;have a:=(d y).2;refine⟨i.trans g,by rw[a];exact h,by rw[a];exact n,by rw[a];exact j⟩
theorem qXF {st:SortSt}{Q:Unit->SortSt->Prop}(h0:qC3 a₀)(g:gSG κ0 a₀ st)(hp:B16 st=#[])(h:∀st2,gSG κ0 a₀ st2->qI9 (arrOf st2) a₀.size->Q () st2):wpS (model prog w) A E s sortRuns' Q st:=by
 rw [sortRuns'_eq];refine B14 (B54 ?_);dsimp only;rw [g.size];refine B14 (B36 (B26
  (I:=λx c st2=>∃lo,c=(none,lo)/\x<=lo/\lo<=a₀.size/\gSG κ0 a₀ st2/\qDH (arrOf st2) (B16 st2).toList 0 lo)
  (Q:=λc st2=>c.1=none/\gSG κ0 a₀ st2/\qDH (arrOf st2) (B16 st2).toList 0 a₀.size) ?step ?fin ⟨0,rfl,A7 _,E7 _,g,by rw[hp];rfl⟩) ?post)
 case fin=>
  rintro c st2 ⟨lo,rfl,h1,h2,g2,r2⟩;have e:lo=a₀.size:=by lia
  rw[e] at r2;exact⟨rfl,g2,r2⟩
 case post=>
  rintro ⟨c,lo⟩ st2 ⟨e,g2,r2⟩;cases (show c=none from e);dsimp only;have le:=qJX r2;refine B14 (B36 (B26 (I:=fun x c b=>c=(none,())/\gSG κ0 a₀ b/\qDH (arrOf b) (B16 b).toList 0 a₀.size/\(B16 b).size+x<=a₀.size)
   (Q:=λc b=>c=(none,())/\gSG κ0 a₀ b/\qDH (arrOf b) (B16 b).toList 0 a₀.size/\(B16 b).size<=1) ?_ ?_ ⟨rfl,g2,r2,by simpa using le⟩) ?_)
  ·rintro x c b _ _ ⟨rfl,g3,r3,le3⟩;refine B14 (B54 ?_);by_cases y:(B16 b).size<=1
   ·rw[if_pos y];exact B15 ⟨rfl,g3,r3,y⟩
   ·rw[if_neg y];refine B14 (qIT h0 g3 r3 (A7 _) ?_ λm g4 r4 l4 _=>?_)
    ·repeat' split
     all_goals lia
    ·rw[if_neg (by simp)]
     exact B15 ⟨rfl,g4,r4,by lia⟩
  ·rintro c b ⟨e,g3,r3,le3⟩;exact⟨e,g3,r3,by lia⟩
  ·rintro c b ⟨rfl,g3,r3,le3⟩;refine B15 (h b g3 ?_);have l3:(B16 b).toList.length<=1:=by simpa using le3
   generalize (B16 b).toList=l at r3 l3
   match l,r3,l3 with
   |[],r3,_=>
    have e:0=a₀.size:=r3;intro i j _ o
    lia
   |[r],r3,_=>
    have e:0+r.2.1=a₀.size:=r3.2.2.2;intro i j f o;exact r3.2.2.1 i j (E7 _) f (by lia)
   |_::_::_,_,l3=>simp at l3
 case step=>
  rintro x c st2 _ hx ⟨lo,rfl,hxl,hlo,g2,r2⟩;dsimp only;by_cases y:lo>=a₀.size
  ·rw[if_pos y];have e:lo=a₀.size:=by lia
   rw[e] at r2;exact B15 ⟨rfl,g2,r2⟩
  rw[if_neg y];refine B14 (qa9 h0 g2 (by lia) (by lia) λk b g3 a2 k1 k2 u3 o3=>?_)
  have r3:qDH (arrOf b) (B16 b).toList 0 lo:=by
   rw[a2];exact qL9 (λj _ o=>o3 j (.inl o)) r2
  dsimp only;have d:∀(st5:SortSt) (n:Nat),gSG κ0 a₀ st5->1<=n->lo+n<=a₀.size->gSeg (arrOf st5) lo (lo+n)->qDH (arrOf st5) (B16 st5).toList 0 lo->
    gSG κ0 a₀ (setPending st5 ((B16 st5).push (lo,n,0)))/\qDH (arrOf st5) ((B16 st5).push (lo,n,0)).toList 0 (lo+n):=by
   intro st5 n g5 h1 h2 u5 r5;refine⟨⟨g5.perm,g5.kind,g5.failed⟩,?_⟩;rw[T0];exact gruns_app.mpr ⟨lo,r5,rfl,h1,u5,rfl⟩
  by_cases c2:k<minRun' a₀.size a₀.size 0
  ·rw[if_pos c2];refine B14 (wpS_lift (B51 ⟨rfl,?_⟩));refine B14 (qaA h0 g3 (by lia) (by lia) u3 λm g4 a1 u4 o4=>?_)
   have r4:qDH (arrOf m) (B16 m).toList 0 lo:=by
    rw[a1];exact qL9 (λj _ o=>o4 j (.inl o)) r3
   rw[if_neg (by simp)]
   refine B14 (B54 ?_);cases eb:(B16 m).back? with
   |none=>
    dsimp only;refine B14 (B29 (B15 ?_));obtain⟨u,v⟩:=d m (min (a₀.size-lo) (minRun' a₀.size a₀.size 0)) g4 (by lia) (by lia) u4 r4
    exact⟨_,rfl,by lia,by lia,u,v⟩
   |some t=>
    obtain ⟨s1,p,q1⟩:=t;dsimp only;refine B14 (B36 (B26 (I:=fun _ c a=>c=(none,())/\gSG κ0 a₀ a/\qDH (arrOf a) (B16 a).toList 0 lo/\gSeg (arrOf a) lo (lo+(min (a₀.size - lo) (minRun' a₀.size a₀.size 0))))
     (Q:=λc a=>c=(none,())/\gSG κ0 a₀ a/\qDH (arrOf a) (B16 a).toList 0 lo/\gSeg (arrOf a) lo (lo+(min (a₀.size-lo) (minRun' a₀.size a₀.size 0)))) ?_ (λ_ _ q=>q) ⟨rfl,g4,r4,u4⟩) ?_)
    ·rintro x c a _ _ ⟨rfl,g6,r6,u6⟩;refine B14 (B54 ?_);by_cases c7:(B16 a).size>1
     ·rw[if_pos c7];cases ep:(B16 a)[(B16 a).size-2]? with
      |none=>
       dsimp only;exact B15 ⟨rfl,g6,r6,u6⟩
      |some t=>
       obtain⟨s2,n2,a0⟩:=t;dsimp only
       split
       ·exact B15 ⟨rfl,g6,r6,u6⟩
       ·refine B14 (qIT h0 g6 r6 (by lia) (by lia) λa3 g7 r7 _ z=>?_)
        rw[if_neg (by simp)]
        refine B15 ⟨rfl,g7,r7,λi j hl f o=>?_⟩;rw[z i hl,z j (by lia)]
        exact u6 i j hl f o
     ·rw[if_neg c7];exact B15 ⟨rfl,g6,r6,u6⟩
    ·rintro c a ⟨rfl,g6,r6,u6⟩;dsimp only;refine B14 (B29 (B14 (B29 (B15 ?_))));obtain⟨u,v⟩:=d (setPending a ((B16 a).modify ((B16 a).size-1) λx=>(x.fst,x.2.fst,power' a₀.size (2*s1+p) (2*s1+p+p+(min (a₀.size-lo) (minRun' a₀.size a₀.size 0))) a₀.size))) (min (a₀.size-lo) (minRun' a₀.size a₀.size 0)) ⟨g6.perm,g6.kind,g6.failed⟩ (by lia) (by lia) u6 (qQ1 (pw:=0) (λ_=>⟨rfl,rfl⟩) r6)
     exact⟨_,rfl,by lia,by lia,u,v⟩
  ·rw[if_neg c2];refine B14 (B54 ?_);cases eb:(B16 b).back? with
   |none=>
    dsimp only;refine B14 (B29 (B15 ?_));obtain⟨u,v⟩:=d b k g3 (by lia) (by lia) u3 r3
    exact⟨_,rfl,by lia,by lia,u,v⟩
   |some t=>
    obtain ⟨s1,p,q1⟩:=t;dsimp only;refine B14 (B36 (B26 (I:=fun _ c a=>c=(none,())/\gSG κ0 a₀ a/\qDH (arrOf a) (B16 a).toList 0 lo/\gSeg (arrOf a) lo (lo+k))
     (Q:=λc a=>c=(none,())/\gSG κ0 a₀ a/\qDH (arrOf a) (B16 a).toList 0 lo/\gSeg (arrOf a) lo (lo+k)) ?_ (λ_ _ q=>q) ⟨rfl,g3,r3,u3⟩) ?_)
    ·rintro x c a _ _ ⟨rfl,g6,r6,u6⟩;refine B14 (B54 ?_);by_cases c7:(B16 a).size>1
     ·rw[if_pos c7];cases ep:(B16 a)[(B16 a).size-2]? with
      |none=>
       dsimp only;exact B15 ⟨rfl,g6,r6,u6⟩
      |some t=>
       obtain⟨s2,n2,a0⟩:=t;dsimp only
       split
       ·exact B15 ⟨rfl,g6,r6,u6⟩
       ·refine B14 (qIT h0 g6 r6 (by lia) (by lia) λa3 g7 r7 _ z=>?_)
        rw[if_neg (by simp)]
        refine B15 ⟨rfl,g7,r7,λi j hl f o=>?_⟩;rw[z i hl,z j (by lia)]
        exact u6 i j hl f o
     ·rw[if_neg c7];exact B15 ⟨rfl,g6,r6,u6⟩
    ·rintro c a ⟨rfl,g6,r6,u6⟩;dsimp only;refine B14 (B29 (B14 (B29 (B15 ?_))));obtain⟨u,v⟩:=d (setPending a ((B16 a).modify ((B16 a).size-1) λx=>(x.fst,x.2.fst,power' a₀.size (2*s1+p) (2*s1+p+p+k) a₀.size))) k ⟨g6.perm,g6.kind,g6.failed⟩ (by lia) (by lia) u6 (qQ1 (pw:=0) (λ_=>⟨rfl,rfl⟩) r6)
     exact⟨_,rfl,by lia,by lia,u,v⟩
end
end L2.G
namespace L2
open PySem PySem.Spec PyProof.Rows
variable{X:Cx}
theorem qRQ:∀{vs:List Value} {ns:List Int},vs.length=ns.length->(∀(i:Nat) (v:Value),vs[i]?=some v->∃n t,ns[i]?=some n/\v=.int n t)->B20 vs ns
 |[],[],_,_=>.nil
 |[],_::_,h,_=>by simp at h
 |_::_,[],h,_=>by simp at h
 |v::vs,n::ns,h,f=>by
  obtain⟨m,t,e1,e2⟩:=f 0 v rfl;cases(show n=m from B0 e1);rw[e2];exact .cons _ _ (qRQ (by simpa using h) λi u hu=>by simpa using f (i+1) u (by simpa using hu))
theorem qX5 {κ:Type}:∀{Af:List (κ×V)} {vs:List (κ×Value)},KV Af vs->Af.map (·.1)=vs.map (·.1):=by
 intro Af vs r;unfold KV at r
 induction r with
 |nil=>rfl
 |cons h t ih=>rw[C7,C7,ih,h.1]
noncomputable def Itd (lo:Int)(n:Nat):It:=⟨λi _=>i<n,λi H x a=>a=H/\x=.int (lo-i),λi _=>n<=i⟩
theorem qVE {P:B13}{w:World}{K:Ab1}{tg:Expr}(c:Addr)(lo:Int)(n:Nat):Turn P w K tg (Itd lo n) [c] c (λi h=>IsRangeIter h c (lo+(i:Nat)*(-1)) ((n:Int)-(i:Nat)) (-1)) where
 mem:=A6.mpr rfl
 obj:=λi h a b d=>by
  cases A6.mp d;exact⟨_,a,λv z=>nomatch(show A18 _=A73 v from z)⟩
 keep:=λi h j a k=>k c (A6.mpr rfl) _ a
 item:=by
  intro X l x y p i Ab s σ H E I g a hg;subst l x y;obtain⟨r,m,f2,q,f4,u⟩:=g c (A6.mpr rfl);refine(Walks.range (prog:=X.prog) (w:=X.w) (I.ok.hd p) c lo (-1) n).item i s _ _ hg a λv j tk hv f kk=>?_;obtain⟨t,rfl⟩:=hv;have I1:Inv X Ab σ H {s with heap:=j,toks:=tk}:=I.turned (λb o d e=>kk b o (by simpa using d) e) r m q f4 u
  refine⟨_,rfl,qRT (s:={s with heap:=j,toks:=tk}) (n:="range_iterator") f rfl rfl (by decide) ⟨.int (lo-i),H,I1,⟨t,?_⟩,⟨rfl,rfl⟩,f,λb d=>(g b d).1⟩⟩
  rw[show lo+(i:Int)*(-1)=lo-i by lia]
 done:=by
  intro X l x y p i Ab s σ H E I g a hg;subst l x y;obtain⟨r,m,f2,q,f4,u⟩:=g c (A6.mpr rfl);have a0:n<=i:=hg;exact wpAny_pyNext_range_end (I.ok.hd p) a (by lia) λj eb=>⟨rfl,I.turned (t':=s.toks) (λb o d e=>eb b o d e) r m q f4 u⟩
 self:=λ_ _ _ _ _ a h=>wpAny_pyIter_rangeiter a h
def qhD (ta:TA):TI:=λσ H R=>ta σ H λvs H1=>∃i j:Int,vs=[.int i,.int j,.int (-1)]/\(-(2^62)<=i/\i<2^62/\-(2^62)<=j/\j<2^62)/\R (Itd i (i-j).toNat) H1
theorem qW8 {x a b c:Expr} {n:TA} {p pos:Pos} (hg:Gl X "range") (v:X.mg "range" = none) (ha:PA X [a,b,c] n) (hs:B17 [a,b,c] X.env=[(false,eval a X.env),(false,eval b X.env),(false,eval c X.env)]:=by rfl)
  (f:B17 [b,c] X.env=[(false,eval b X.env),(false,eval c X.env)]:=by rfl):PI X x (.Call (.Name "range" p) [a,b,c] [] pos) (qhD n):=by
 intro t s σ H R I h;refine Call_ (qI1 I hg v boot_range (K3 (thn (ha pos t s σ H _ I h) λus s1 ⟨vs,H1,I1,r1,q1⟩=>?_) (by rw[hs,f]) (by rw[f];rfl)))
 obtain⟨i,j,e,⟨q1,q2,w,z⟩,q⟩:=q1;subst e;obtain⟨u1,d,rfl,⟨g,rfl⟩,r2⟩:∃u d,us=u::d/\RelV (.int i) u/\Vals [.int j,.int (-1)] d:=by cases r1 with|cons r d=>exact⟨_,_,rfl,r,d⟩
 obtain⟨u2,u3,rfl,⟨l,rfl⟩,⟨k,rfl⟩⟩:=qQY r2;refine call_range_3 (by decide) ?_ (E9 (Y4 (by lia)))
 refine wpAny_pyIter_range (B03 ..) (PySem.W.small_down q1 q2 w z) ?_;have m:Inv X t σ H1 {s1 with heap:=s1.heap.push {cls:=.type "range",data:=.fields #[.int i g,.int j l,.int (-1) k]},toks:=s1.toks}:=I1.kept λb o e=>A5 _ e;refine⟨(s1.heap.push {cls:=.type "range",data:=.fields #[.int i g,.int j l,.int (-1) k]}).objs.size,[(s1.heap.push {cls:=.type "range",data:=.fields #[.int i g,.int j l,.int (-1) k]}).objs.size],_,_,H1,rfl,
  m.kept (t':=s1.toks) λb o e=>A5 _ e,qVE _ i (i-j).toNat,?_,λb y=>?_,q⟩
 ·have e1:i+((0:Nat):Int)*(-1)=i:=by simp
  have e2:(((i-j).toNat:Nat):Int)-((0:Nat):Int)=P8 i j (-1):=by rw[PySem.W.rangeSize_downNat];simp
  show IsRangeIter _ _ (i+((0:Nat):Int)*(-1)) ((((i-j).toNat:Nat):Int)-((0:Nat):Int)) (-1);rw[e1,e2];exact B3 _ rfl
 ·cases A6.mp y;exact m.fpOk (A7 _) (m.hok.fresh (A7 _))
theorem qTH {lo:Int}{n:Nat}{g:TG}{a:TS}{D:Ends}{σ:St}{H:Hp}(Pv:Nat->St->Hp->Prop)(h:Pv 0 σ H)
  (b:∀i σ H,i<n->Pv i σ H->g (.int (lo-i)) σ H λσ2 H2=>a {D with nx:=Pv (i+1),ct:=Pv (i+1),bk:=D.nx} σ2 H2) (c:∀σ H,Pv n σ H->D.nx σ H):
  ForG (Itd lo n) g a D σ H:=by
 refine⟨λi m σ H=>m=n-i/\i<=n/\Pv i σ H,⟨n,by simp,E7 _,h⟩,λi m σ H ⟨e,hi,p⟩=>?_⟩
 rcases j6 i n with hlt|hge
 ·refine .inr ⟨hlt,Pv (i+1),λσ' d f=>⟨n-(i+1),by lia,rfl,hlt,f⟩,λx d y=>?_⟩
  rw[y.1,y.2];exact b i σ H hlt p
 ·have j:i=n:=by lia
  rw[j] at p;exact .inl ⟨hge,c σ H p⟩
open PySem.AutoSeq1 in
noncomputable def topI (b:Int)(l:List Int):Int:=l.foldl (λb x=>if x>b then x else b) b
theorem qK8:∀(l:List Int) (b:Int),b<=topI b l/\(∀x∈l,x<=topI b l)/\(topI b l=b\/topI b l∈l)
 |[],b=>⟨K7 _,(λ_ z=>nomatch z),.inl rfl⟩
 |y::l,b=>by
  obtain⟨h1,h2,h3⟩:=qK8 l (if y>b then y else b)
  have e:topI b (y::l)=topI (if y>b then y else b) l:=rfl
  rw[e];have hb:b<=(if y>b then y else b)/\y<=(if y>b then y else b):=by split<;>omega
  refine⟨by omega,λx hx=>?_,?_⟩
  ·rcases B8.mp hx with hx|hx
   ·omega
   ·exact h2 x hx
  ·rcases h3 with h3|h3
   ·split at h3
    ·rw[if_pos (by assumption)]
     exact .inr (by rw[h3];exact E4)
    ·rw[if_neg (by assumption)]
     exact .inl h3
   ·exact .inr (A8 _ h3)
section
variable{prog:B13}{w:World}{A:Around}{R:Result->Shared->Prop}{I:Addr}{fp wr:List Addr}{n:Nat}{P:Nat->Value->Prop}{St:Nat->Heap->Prop}
theorem qd2 (W:Walks prog w A.in1 I fp wr n P St)(kw:List (Str×Value))(ns:List Int)(hn:ns.length=n)(a4:∀i v,P i v->∃t,v=.int (ns.getD i 0) t)(S:Addr)(a1:S∉fp):
  ∀(k j:Nat) (s:Shared) (b:Int) (t:Tok) (c:Nat),n-j=k->j<=n->St j s.heap->s.heap.get? S=some {cls:=.type "list",dict:=none,data:=.seq #[.int b t,.int b t] c,slots:=#[]}->
  (∀t' h' tk,(∀x o,x∉wr->x≠S->s.heap.get? x=some o->h'.get? x=some o)->R (.ok (.ret (.int (topI b (ns.drop j)) t'))) {s with heap:=h',toks:=tk})->
  B43 (model prog w) A (.builtin "max.loop" ⟨[.ref I,.none,.ref S],kw⟩) R s:=by
 have a0:S∉wr:=λh=>a1 (W.sub _ h);have f:(toString "max" ++ toString ".loop" : String) = "max.loop":=by decide
 intro k
 induction k with
 |zero=>
  intro j s b t c hk hj st hS g;have e:j=n:=by omega
  refine B34 t5 ?_;rw[J4 R3 _];show wpAny _ A.in1 (seqItems? (.ref S) >>= _) _ _ s;refine B10 (B44 hS rfl ?_);show wpAny _ A.in1 (tryCatch (pyNext (.ref I)) _ >>= _) _ _ s;refine B10 (B31 (W.done s _ _ (e▸st) λh' tk d=>?_));show wpAny _ A.in1 (updateSeq S (λ_=>#[]) >>= _) _ _ _;refine B10 (B56 (d S _ a0 hS) rfl (B10 (B59 (B11 ?_))));rw[t8 (by omega)] at g
  exact g t _ tk λx o l a ex=>(D3 _ _ (J6 a)).trans (d x o l ex)
 |succ k ih=>
  intro j s b t c hk hj st hS g;have q:j<n:=by omega
  refine B34 t5 ?_;rw[J4 R3 _];show wpAny _ A.in1 (seqItems? (.ref S) >>= _) _ _ s;refine B10 (B44 hS rfl ?_);show wpAny _ A.in1 (tryCatch (pyNext (.ref I)) _ >>= _) _ _ s;refine B10 (B31 (W.item j s _ _ q st λv h' tk hP a2 d=>?_));have p:=d S _ a0 hS;obtain⟨u,rfl⟩:=a4 j v hP;have ed:ns.drop j=ns.getD j 0::ns.drop (j+1):=by
   have a3:j<ns.length:=by omega
   rw[F4 a3,O1,A4 a3]
   rfl
  rw[ed] at g;generalize ns.getD j 0=y at g hP ⊢;show wpAny _ A.in1 (tryCatch (B60 [W2 y u,W2 y u] (richCompare .Gt (.int y u) (.int b t) >>= _)) _ >>= _) _ _ _;refine B10 (B31 (B25 (B10 (richCompare_gives (op:=.Gt) (typeIs_int _ _ u) (typeIs_int _ _ t) F.slot_int_gt F.entry_int_gt (F.args_int_gt_2 _ _) (gives_int_gt _ _ u t) (λx=>nomatch x) ?_))));refine B10 (B25 (B28 (B10 (B59 (B11 ?_)))));by_cases hb:y>b
  ·rw[decide_eq_true hb,if_pos rfl];have et:topI b (y::ns.drop (j+1))=topI y (ns.drop (j+1)):=by show topI (if y>b then y else b) _=_;rw[if_pos hb]
   rw[et] at g;refine B10 (B56 p rfl (B10 (B59 ?_)));rw[f];refine B11 ⟨B35 R3 _,ih (j+1) _ y u _ (by omega) q (W.frame _ _ _ a2 λx l o ex=>?_) (F7 _ p rfl) λt' h2 m r=>?_⟩
   ·exact(D3 _ _ (λz:S=x=>a1 (by rw[z];exact l))).trans ex
   ·exact g t' h2 m λx o l a ex=>r x o l a ((D3 _ _ (J6 a)).trans (d x o l ex))
  ·rw[decide_eq_false hb,if_neg B1];have et:topI b (y::ns.drop (j+1))=topI b (ns.drop (j+1)):=by show topI (if y>b then y else b) _=_;rw[if_neg hb]
   rw[et] at g;refine B10 (B59 ?_);rw[f];exact B11 ⟨B35 R3 _,ih (j+1) _ b t c (by omega) q a2 p λt' h2 m r=>g t' h2 m λx o l a ex=>r x o l a (d x o l ex)⟩
theorem qWW (W:Walks prog w A.in1 I fp wr n P St)(kw:List (Str×Value))(ns:List Int)(l:ns.length=n)(b:∀i v,P i v->∃t,v=.int (ns.getD i 0) t)(S:Addr)(d:S∉fp){s:Shared}{c:Nat}(st:St 0 s.heap)
  (hS:s.heap.get? S=some {cls:=.type "list",dict:=none,data:=.seq #[] c,slots:=#[]})
  (h1:∀y r,ns=y::r->∀t' h' tk,(∀x o,x∉wr->x≠S->s.heap.get? x=some o->h'.get? x=some o)->R (.ok (.ret (.int (topI y r) t'))) {s with heap:=h',toks:=tk})
  (h2:ns=[]->∃nm dv,kw=[(nm,dv)]/\∀h' tk,(∀x o,x∉wr->x≠S->s.heap.get? x=some o->h'.get? x=some o)->R (.ok (.ret dv)) {s with heap:=h',toks:=tk}):
  B43 (model prog w) A (.builtin "max.loop" ⟨[.ref I,.none,.ref S],kw⟩) R s:=by
 have m:S∉wr:=λh=>d (W.sub _ h);have e:(toString "max" ++ toString ".loop" : String) = "max.loop":=by decide
 refine B34 t5 ?_;rw[J4 R3 _];show wpAny _ A.in1 (seqItems? (.ref S) >>= _) _ _ s;refine B10 (B44 hS rfl ?_);show wpAny _ A.in1 (tryCatch (pyNext (.ref I)) _ >>= _) _ _ s;cases ns with
 |nil=>
  obtain⟨nm,dv,rfl,h3⟩:=h2 rfl;refine B10 (B31 (W.done s _ _ (l▸st) λh' tk a=>?_));show wpAny _ A.in1 (rule _ >>= λ_=>ret dv) _ _ _;exact B10 (B51 (B11 (h3 _ tk λx o f _ k=>a x o f k)))
 |cons y r=>
  refine B10 (B31 (W.item 0 s _ _ (by rw[<- l];simp) st λv h' tk hP q a=>?_))
  have j:=a S _ m hS;obtain⟨u,rfl⟩:=b 0 v hP;show wpAny _ A.in1 (updateSeq S (λ_=>#[W2 y u,W2 y u]) >>= _) _ _ _;refine B10 (B56 j rfl ?_);rw[e];refine B11 ⟨B35 R3 _,qd2 W kw (y::r) l b S d _ 1 _ y u _ rfl (by rw[<- l];simp) (W.frame _ _ _ q λx f o k=>?_) (F7 _ j rfl) λt' h2 p a0=>?_⟩
  ·exact(D3 _ _ (λz:S=x=>d (by rw[z];exact f))).trans k
  ·exact h1 y r rfl t' h2 p λx o f g k=>a0 x o f g ((D3 _ _ (J6 g)).trans (a x o f k))
end
section
variable{prog:B13}{w:World}{A:Around}{E:Aa1}{s:Shared}
theorem qJB {id:String}{b:Builtin}{a:List Value}{c:List (Str×Value)}{Q:Aa1}(j:builtinKind id=none)(l:plainId id=true)(m:entryFor table id=some b)(i:argsOk id ⟨a,c⟩)
  (k:wpAny (model prog w) A.in1 (b ⟨a,c⟩) (λfin s'=>∃c',fin=.again c'/\c'.quiet=true/\B43 (model prog w) A c' (λr s'=>∃v,r=.ok (.ret v)/\Q v s') s') E s):wpAny (model prog w) A (call (.builtin id) a c) Q E s:=by
 refine B70 (codeAny_call_builtin l m ?_);have d:=B18 k (Q':=fun fin s'=>match fin with
   |.done f=>(match(Except.ok f:Result) with|.ok (.ret v)=>Q v s'|.ok _=>False|.error e=>E e s')
   |.again c'=>c'.quiet=true/\B43 (model prog w) A c' (λr s'=>match r with|.ok (.ret v)=>Q v s'|.ok _=>False|.error e=>E e s') s')
  (λfin s' ⟨c',e,h1,d⟩=>by subst e;exact⟨h1,B46 d λr s' ⟨v,e,q⟩=>by subst e;exact q⟩) λ_ _ h=>h
 simp only[checkBuiltinCall,j];cases sg:Manifest.signature? id with
 |none=>exact B11 d
 |some sig=>
  have g:Bind.checkArgs id sig ⟨a,c⟩=pure ():=by simpa only[argsOk,sg] using i
  simp only[g];exact B11 d
end
noncomputable def topD (dv:Option Int):List Int->Option Int
 |[]=>dv
 |y::r=>some (topI y r)
theorem qd3 {Ab:Aa2}{s:Shared}{σ:St}{H:Hp}{Q:VK}{p:Addr}{ns:List Int}{k:List (Str×Value)}{dv:Option Int}(hc:X.calm=true)(I:Inv X Ab σ H s)(hq:SqL X.K H p (ns.map V.int))
  (ok:argsOk "max" ⟨[.ref p],k⟩) (l:Option Value) (hb:Q2 "max" ["key","default"] 0 ⟨[],k⟩=pure [none,l]) (a0:l=none/\dv=none\/∃d t,l=some (.int d t)/\dv=some d)
  (m:Int) (j:topD dv ns=some m) (q:Q (.int m) H):wpAny (model X.prog X.w) X.A (call (.builtin "max") [.ref p] k) (EP X Ab σ Q) X.xe s:=by
 obtain⟨x,rv,pl,hz⟩:=I.list hq;have z:=pl.isList;have h:p<s.heap.objs.size:=by obtain⟨_,e,_⟩:=z;exact B5 e
 have a:=rv.length;rw[A0] at a;have ia:=qF0 rv;have g:(toString "max" ++ toString ".loop" : String) = "max.loop":=by decide
 refine qJB F.kind_max F.plain_max F.entry_max ok ?_;show wpAny _ _ (Q2 "max" ["key","default"] 0 ⟨[],k⟩ >>= _) _ _ s;refine B10 (B65 hb ?_);refine B10 (B11 ?_);refine B10 (B37 z ?_);refine B10 (B21 ?_);rw[g];have w0:X.A.in1.handled=none:=I.ok.hd hc;refine B11 ⟨_,rfl,B35 R3 _,?_⟩;refine qWW (A88 w0 _ p (D5 h) x.toArray) _ ns (by simpa using a) (λi v hv=>?_) _ ?_ (c:=0) ?_ (B3 _ rfl) ?_ ?_
 ·exact A77 ia i v (by simpa using hv)
 ·simp only[U5,B8,t6,or_false,not_or];exact⟨b7 _,U8 (S9 h)⟩
 ·exact⟨⟨_,A5 _ (B3 _ rfl),rfl,rfl⟩,(z.push _).push _⟩
 ·intro y r e t' h' n u;subst e;cases j;refine⟨_,rfl,.int _,H,I.kept (t':=n) λb o f=>u b o ?_ ?_ (A5 _ (A5 _ f)),⟨t',rfl⟩,q⟩
  ·simp only[B8,t6,or_false];exact D5 (B5 f)
  ·rw[U5];exact D5 (S9 (B5 f))
 ·intro e;subst e;rcases a0 with⟨_,e2⟩|⟨d,t,rfl,rfl⟩
  ·rw[e2] at j;cases j
  ·cases j;refine⟨_,_,rfl,λh' n u=>⟨_,rfl,.int _,H,I.kept (t':=n) λb o f=>u b o ?_ ?_ (A5 _ (A5 _ f)),⟨t,rfl⟩,q⟩⟩
   ·simp only[B8,t6,or_false];exact D5 (B5 f)
   ·rw[U5];exact D5 (S9 (B5 f))
theorem qYD (c:X.calm=true):qDX X (.builtin "max") (λxs H Q=>∃p ns m,xs=[.ref p]/\SqL X.K H p (ns.map V.int)/\topD none ns=some m/\Q (.int m) H):=by
 intro f s σ H xs e Q I r h;obtain⟨p,ns,m,rfl,d,a,q⟩:=h;obtain⟨u,rfl,b⟩:=qFF r;cases b;exact qd3 c I d (F.args_max1 _) none rfl (.inl ⟨rfl,rfl⟩) m a q
theorem qT3 {α β:Type}{F:α->β->Prop}:∀{l₁:List α} {l₂:List β} {i:Nat} {a:α},Paired F l₁ l₂->l₁[i]?=some a->∃b,l₂[i]?=some b/\F a b
 |_,_,_,_,.nil,e=>by simp at e
 |_,_,0,_,.cons r _,e=>by simp at e;subst e;exact⟨_,rfl,r⟩
 |_,_,i+1,a,.cons _ t,e=>by
  obtain⟨b,h1,h2⟩:=qT3 (i:=i) (a:=a) t (by simpa using e)
  exact⟨b,by simpa using h1,h2⟩
theorem qV2 (hc:X.calm=true):qDX X (.type "list") (λxs H Q=>∃(d:Addr) (Af:List (Key×V)) (ns:List Int),xs=[.ref d]/\H d=some (.dK Af)/\Af.map (·.1)=ns.map E8/\∀l,H l=none->Q (.ref l) (Ag H l (.lst (ns.map V.int)))):=by
 intro Ab s σ H xs us Q I r h;obtain⟨d,Af,ns,rfl,hq,p,q⟩:=h;obtain⟨u,rfl,rx⟩:=qFF r;cases rx;obtain⟨y,hd,vs,c,dd⟩:=qaL I.hok hq;obtain⟨ep,da⟩:=dd.dictAt;have m:vs.length=Af.length:=c.length.symm;have w:ns.length=Af.length:=by
  have:=congrArg R7 p;simpa using this.symm
 refine PySem.W.kdl_call (A64 (ep:=ep) hd) (I.ok.hd hc) da (by rw[m];exact y) λh' tk f z e j b=>?_
 obtain⟨l1,l2⟩:=b;have ia:B20 f.toList ns:=by
  refine qRQ (by rw[E6,l1,m,w]) λi v hv=>?_
  obtain⟨k,x,e1,e2⟩:=l2 i v (by rw[<- F6];exact hv)
  have g:(Af.map (·.1))[i]?=some k:=by rw[qX5 c,B6,e1];rfl
  rw[p,B6] at g;cases en:ns[i]? with
  |none=>rw[en] at g;cases g
  |some n=>
   rw[en] at g;cases g;obtain⟨t,e3⟩:=l6 (k:=n) (v:=v) e2;exact⟨n,t,rfl,e3⟩
 refine⟨.ref s.heap.objs.size,_,I.laid (a:=s.heap.objs.size) (o:=.lst (ns.map V.int)) (t':=tk) e (A7 _) ⟨by rw[A0,w];exact y,f.toList,z,qFJ ia,by simpa using j⟩,rfl,q _ (I.hok.fresh (A7 _))⟩
theorem qd9 {A:Around}{s:Shared}{zs:List Int}{a vs:List Value}(c:Vals (zs.map V.int) a)(m:Vals (zs.map V.int) vs):∀j (j1:j<a.toArray.size) (j2:j<vs.toArray.size),SeqAt.EqAt A s a.toArray[j] vs.toArray[j] true:=by
 intro j j1 j2;have d:=c.length;rw[A0] at d;have o:j<zs.length:=by simp at j1;lia
 have b:(zs.map V.int)[j]?=some (.int zs[j]):=by rw[B6,A4 o];rfl
 obtain⟨u,e,t,n⟩:=c.get b;obtain⟨v,l,f,g⟩:=m.get b;have k:a.toArray[j]=u:=by
  rw[S4];exact(A3.mp e).2
 have i:vs.toArray[j]=v:=by
  rw[S4];exact(A3.mp l).2
 rw[k,i,n,g];have h:=X9 (A:=A) (s:=s) zs[j] t zs[j] f;rw[beq_self_eq_true] at h;exact h
def qgW (K:Ab1):R2:=λx y H Q=>∃a b xs ys,x=.ref a/\y=.ref b/\SqT K H a xs/\SqT K H b ys/\ys≠[]/\xs.length+ys.length<=B12/\(xs=[]->Q (.ref b) H)/\(xs≠[]->∀p,H p=none->Q (.ref p) (Ag H p (.tup (xs++ys))))
theorem qWM:OpR X (B42 .Add) (qgW X.K):=by
 intro Ab s σ H x y v u Q I o m h;obtain⟨a,b,xs,ys,rfl,rfl,t,q,hy,hz,q1,q2⟩:=h;by_cases i:xs=[]
 ·subst i;cases o;cases m;obtain⟨a0,r1,p1,_⟩:=I.tuple t;obtain⟨e,r2,p2,_⟩:=I.tuple q;cases r1;obtain⟨⟨a1,dd,r,sl⟩,w,l,n,hd⟩:=id p1;obtain⟨⟨p,j,k,g⟩,d,c,n2,f⟩:=id p2;simp only at l hd c f;subst l hd c f;exact concat_meets ⟨_,w,rfl⟩ ⟨_,d,rfl⟩ B78 seq_tuple_add U7 U0 (S6 _ _) (tuple_addW0 a b #[] e.toArray n n2 dd j sl g rfl) ⟨w,d,.ref b,H,I,rfl,q1 rfl⟩
 ·exact qWL Ab s σ H (.ref a) (.ref b) v u Q I o m ⟨a,b,xs,ys,rfl,rfl,t,q,i,hz,λz=>absurd z hy,λ_=>q2 i⟩
theorem qTG {K:Ab1}{a:Addr}{xs:List V}{g:TG}{d:TS}{D:Ends}{σ0:St}{H0:Hp}(Pv:Nat->St->Hp->Prop)(o:Pv 0 σ0 H0)(f:∀i σ H,i<=xs.length->Pv i σ H->SqL K H a xs)
  (h:∀i x σ H T,xs[i]?=some x->Pv i σ H->H T=none->g (.ref T) σ (Ag H T (.tup [.int (i:Int),x])) λσ2 H2=>d {D with nx:=Pv (i+1),ct:=Pv (i+1),bk:=D.nx} σ2 H2)
  (j:∀σ H,Pv xs.length σ H->D.nx σ H):
  ∃W:Nat->Nat->St->Hp->Prop,(∃m,W 0 m σ0 H0)/\∀i m σ H,W i m σ H->
   ((Ite K a).stop i H/\D.nx σ H)\/((Ite K a).go i H/\∃N:St->Hp->Prop,(∀σ' H',N σ' H'->∃m',m'<m/\W (i+1) m' σ' H')/\∀x H',(Ite K a).yld i H x H'->g x σ H' λσ2 H2=>d {D with nx:=N,ct:=N,bk:=D.nx} σ2 H2):=by
 refine⟨λi m σ H=>m=xs.length-i/\i<=xs.length/\Pv i σ H,⟨xs.length,by simp,E7 _,o⟩,?_⟩
 rintro i m σ H ⟨rfl,hi,q⟩;have c:=f i σ H hi q;by_cases b:i<xs.length
 ·refine .inr ⟨⟨xs,xs[i],c,by simp[b]⟩,Pv (i+1),λσ' H' n=>⟨xs.length-(i+1),by lia,rfl,b,n⟩,λv H' y=>?_⟩
  obtain⟨T,x,k,l,p,y⟩:=y;subst l p;exact h i x σ H T (y xs c) q k
 ·have e:i=xs.length:=by lia
  subst e;exact .inl ⟨⟨xs,c,A7 _⟩,j σ H q⟩
open PySem
noncomputable def g5:Nat->Nat
 |0=>0
 |n+1=>5*g5 n+1
structure TabG (byText:Bool×Bool)(t:B57)(n:Nat):Prop where
 pow:∃k,3<=k/\t.mask+1=2^k
 dum:t.dummies=#[]
 plain:t.plain=byText.2
 led:t.led=!byText.1
 size:t.place.size=n
 up:t.place.toList.Pairwise (·<·)
 le:∀j∈t.place.toList,j<=t.mask
structure Own (N:Nat)(L:List Nat)(owner:Array (Option Nat)):Prop where
 size:owner.size=N
 nd:L.Nodup
 lt:∀j∈L,j<N
 at_:∀(m j:Nat),L[m]?=some j->owner[j]?=some (some m)
 no:∀j,j<N->j∉L->owner[j]?=some none
def qgU (K:Ab1):R2:=λx y H Q=>∃a b xs ys,x=.ref a/\y=.ref b/\SqT K H a xs/\SqT K H b ys/\((xs≠[]/\H a=some (.tup xs))\/(ys≠[]/\H b=some (.tup ys)))/\xs.length+ys.length<=B12/\∀p H',Same H H'->H' p=some (.tup (xs++ys))->Q (.ref p) H'
theorem qcU:OpR X (B42 .Add) (qgU X.K):=by
 intro m s σ H x y v u Q I i l h;obtain⟨a,b,c,d,rfl,rfl,g,j,n,k,q⟩:=h;have f:∀p,H p=none->Q (.ref p) (Ag H p (.tup (c++d))):=λp r=>q p _ (λb u e=>by rw[qA9 (qA6 e r)];exact e) qA1
 rcases n with⟨o,t⟩|⟨hy,w⟩
 ·exact qWL m s σ H (.ref a) (.ref b) v u Q I i l ⟨a,b,c,d,rfl,rfl,g,j,o,k,λz=>q a H (λ_ _ e=>e) (by rw[z,K6];exact t),λ_=>f⟩
 ·exact qWM m s σ H (.ref a) (.ref b) v u Q I i l ⟨a,b,c,d,rfl,rfl,g,j,hy,k,λz=>q b H (λ_ _ e=>e) (by rw[z];exact w),λ_=>f⟩
structure Ex (B:Heap)(l:List Env)(e:Addr)(cls:Value)(dd:Option Addr)(nt:Bool)(h:Heap):Prop where
 stays:B.StaysIn h
 new:B.get? e=none
 frames:h.FunFrames B l
 rec_:∃(oe:Obj) (vs:Array Value) (x1:Value),h.get? e=some oe/\oe.cls=cls/\oe.dict=dd/\oe.data=.fields vs/\vs[1]?=some x1/\
  ((x1=.none/\nt=false)\/∃(T:Addr) (oT:Obj) (ts:Array Value) (x3:Value),x1=.ref T/\B.get? T=none/\T≠e/\h.get? T=some oT/\oT.data=.fields ts/\ts[3]?=some x3)
theorem Ex.tail {B:Heap}{env:Env}{l:List Env}{e:Addr}{a:Value}{c:Option Addr}{b:Bool}{h:Heap}(x:Ex B (env::l) e a c b h):Ex B l e a c b h:=⟨x.stays,x.new,x.frames.2.2,x.rec_⟩
section
variable{M:Model}{A:Around}{E:Aa1}{s:Shared}{B:Heap}{env:Env}{outer l:List Env}{L e:Addr}{cls:Value}{dd:Option Addr}{nt:Bool}{Q:Unit->Shared->Prop}
theorem qTJ {t:Obj}{vs:Array Value}{p:Value}{m:Bool}(a5:A.frames=some (env::outer))(hl:s.heap.FunFrames B (env::outer))(hf:env.frame=some L)
  (he:s.heap.get? e=some t) (a1:B.StaysIn s.heap) (z:B.get? e=none) (hd:t.data=.fields vs) (hsz:1<vs.size)
  (h:∀h',Ex B (env::outer) e t.cls t.dict true h'->s.heap.UpToSlots h'->Q () {s with heap:=h'}):
  wpAny M A (do let a <- frameOf env;let pl <- entryPlaceOf L m;let b <- A22 p a .none (rawInt L) .none pl;setField (.ref e) 1 b) Q E s:=by
 have w:e∉(env::outer).filterMap (·.frame):=λhm=>by
  obtain⟨_,o,ho,i⟩:=hl.mem hm;rw[he] at ho
  injection ho with ho
  subst ho;exact i vs hd
 refine B10 (wpAny_frameOf_fun a5 hl hf λj n=>?_);refine B10 (wpAny_entryPlaceOf λpl a3=>?_);unfold A22 newFields;refine B10 (B21 ?_ (a3.sizeOk5 _ _ _ _ _));have y:j.get? e=some t:=(n.2.1 e w).trans he;have v:B.StaysIn j:=λb o g=>(n.2.1 b λhm=>by rw[(hl.mem hm).1] at g;cases g).trans (a1 b o g)
 generalize ht:({cls:=.type "traceback",dict:=none,data:=.fields ([p,.ref L,.none,rawInt L,.none]++(if pl.isEmpty then E5 6 L4 else pl)).toArray}:Obj)=r
 have a9:∃ts:Array Value,r.data=.fields ts/\∃x3,ts[3]?=some x3:=by
  subst ht;exact⟨_,rfl,rawInt L,by simp⟩
 have a2:r.isFreed=false:=by subst ht;rfl
 have x:=A5 (h:=j) r y;refine B33 x hd hsz ?_;have a0:j.objs.size≠e:=U8 (B5 y);have u:=L3 hd (·.setIfInBounds 1 (C4 j.objs.size));have a4:=F7 (P9 (·.setIfInBounds 1 (C4 j.objs.size))) x (R5 u);have a8:=(D3 (j.push r) (P9 (·.setIfInBounds 1 (C4 j.objs.size))) (J6 a0)).trans (B3 j a2);have l:∀b o,b≠e->j.get? b=some o->((j.push r).update e (P9 (·.setIfInBounds 1 (C4 j.objs.size)))).get? b=some o:=λb o a7 k=>by
  rw[D3 _ _ (J6 a7)];exact A5 _ k
 have f:∀b o,s.heap.get? b=some o->(∀vs,o.data≠.fields vs)->b≠e:=λb o k i q=>by
  rw[q,he] at k
  injection k with k
  subst k;exact i vs hd
 obtain⟨ts,aa,x3,a6⟩:=a9;refine h _ ⟨λb o g=>l b o (λq=>by rw[q,z] at g;cases g) (v b o g),z,hl.of_keeps λb o k i=>?_,?_⟩ λb o k i=>?_
 ·obtain⟨sl,hs⟩:=n.2.2 b o k;exact⟨_,l b _ (f b o k i) hs,rfl⟩
 ·refine⟨_,_,_,a4,Z6 _ _,?_,u,?_,.inr ⟨j.objs.size,r,ts,x3,rfl,v.fresh,a0,a8,aa,a6⟩⟩
  ·obtain⟨c,d,dt,sl⟩:=t;cases dt<;>rfl
  ·simp[hsz]
 ·obtain⟨sl,hs⟩:=n.2.2 b o k;exact⟨sl,l b _ (f b o k i) hs⟩
theorem qS0 (m:A.frames=some (env::outer))(u:env.frame=some L)(x:Ex B (env::outer) e cls dd nt s.heap)(h:∀h',Ex B (env::outer) e cls dd true h'->s.heap.UpToSlots h'->Q () {s with heap:=h'}):
  wpAny M A (noteFrame (.ref e) env) Q E s:=by
 obtain⟨oe,n,y,p,rfl,rfl,t,v,hx⟩:=x.rec_;have k:1<n.size:=(Q6.mp v).1;unfold noteFrame;simp only[u];refine B10 (B58 p t v ?_);rcases hx with⟨rfl,_⟩|⟨T,oT,z,x3,rfl,j,l,r,g,w⟩
 ·rw[if_neg (by decide)]
  exact qTJ m x.frames u p x.stays x.new t k h
 ·rw[if_pos (show(C4 T != L4)=true from by simp)]
  refine B10 (B58 r g w ?_);refine wpAny_ite_split (λ_=>?_) (λ_=>?_)
  ·exact B11 (h _ ⟨x.stays,x.new,x.frames,oe,n,_,p,rfl,rfl,t,v,.inr ⟨T,oT,z,x3,rfl,j,l,r,g,w⟩⟩ (B05 _))
  ·refine B10 (B33 r g (Q6.mp w).1 ?_);have c:∀b,b≠T->(s.heap.update T (P9 (·.setIfInBounds 3 L4))).get? b=s.heap.get? b:=λb f=>D3 _ _ (J6 f);have a:∀b o,s.heap.get? b=some o->(∀n,o.data≠.fields n)->b≠T:=λb o f d q=>by
    rw[q,r] at f
    injection f with f
    subst f;exact d z g
   refine qTJ m (x.frames.of_keeps λb o f d=>⟨o,(c b (a b o f d)).trans f,rfl⟩) u ((c e (J6 l)).trans p)
    (λb o i=>(c b λq=>by rw[q,j] at i;cases i).trans (x.stays b o i)) x.new t k
    λh' y x2=>h h' y λb o f d=>x2 b o ((c b (a b o f d)).trans f) d
theorem qG0 {f:Option Addr}(x:Ex B l e cls dd true s.heap)(h:∀h',Ex B l e cls dd true h'->s.heap.UpToSlots h'->Q () {s with heap:=h'}):wpAny M A (setFlight (.ref e) f) Q E s:=by
 obtain⟨oe,p,x1,u,rfl,rfl,w,t,y⟩:=x.rec_;rcases y with⟨_,z⟩|⟨T,oT,v,x3,rfl,m,n,r,i,h3⟩
 ·cases z
 have j:3<v.size:=(Q6.mp h3).1;unfold setFlight;refine B10 (B58 u w t ?_);rw[if_pos (show(C4 T != L4)=true from by simp)]
 have c:∀b,b≠T->(s.heap.update T (P9 (·.setIfInBounds 3 (f.elim L4 λf=>rawInt f)))).get? b=s.heap.get? b:=λb d=>D3 _ _ (J6 d);have a:∀b o,s.heap.get? b=some o->(∀p,o.data≠.fields p)->b≠T:=λb o d g q=>by
  rw[q,r] at d
  injection d with d
  subst d;exact g v i
 refine B33 r i j (h _ ⟨fun b o k=>(c b fun q=>by rw [q,m] at k;cases k).trans (x.stays b o k),x.new,
  x.frames.of_keeps λb o d g=>⟨o,(c b (a b o d g)).trans d,rfl⟩,oe,p,_,(c e (J6 n)).trans u,rfl,rfl,w,t,.inr ⟨T,_,_,f.elim L4 (λf=>rawInt f),rfl,m,n,F7 _ r (R5 (L3 i _)),L3 i _,by simp[j]⟩⟩
  λb o d g=>⟨o.slots,(c b (a b o d g)).trans d⟩)
theorem qaF (a:A.frames=some (env::outer))(b:env.frame=some L)(x:Ex B (env::outer) e cls dd nt s.heap)(h:∀h',Ex B outer e cls dd true h'->s.heap.UpToSlots h'->Q () {s with heap:=h'}):
  wpAny M A (leaving env (.ref e)) Q E s:=by
 unfold leaving;refine B10 (qS0 a b x λg j c=>?_);exact qG0 (s:={s with heap:=g}) j λi f d=>h i f.tail (c.trans d)
theorem qdM (x:Ex B l e cls dd true s.heap)(h:∀h',Ex B l e cls dd true h'->s.heap.UpToSlots h'->E (.ref e) {s with heap:=h'}):cameBackBy M A env E (.ref e) s:=by
 obtain⟨o,m,p,g,_,_,b,d,a⟩:=x.rec_;rcases a with⟨_,z⟩|⟨T,j,q,n,rfl,c,i,k,f,r⟩
 ·cases z
 unfold cameBackBy;refine B10 (B58 g b d ?_);rw[if_neg (show¬((C4 T==L4)=true) from by simp)]
 exact qG0 x h
end
theorem ObjOk.has {P:B13}{w:World}{H:Hp}{h:Heap}{a:Addr}{o:HO}(x:ObjOk P w H h a o):∃u,h.get? a=some u:=by
 cases o with
 |lst xs=>obtain⟨_,_,_,_,e⟩:=x;exact⟨_,e⟩
 |tup xs=>obtain⟨_,_,_,b,e,_⟩:=x;exact⟨_,e⟩
 |dK Af=>obtain⟨_,_,_,_,o,_,_,e,_⟩:=x;exact⟨_,e⟩
 |dT Af=>obtain⟨_,_,_,_,o,_,_,e,_⟩:=x;exact⟨_,e⟩
 |set S n=>obtain⟨o,_,_,_,e,_⟩:=x;exact⟨_,e⟩
 |ins C dx fs=>obtain⟨_,_,_,e,_⟩:=x;exact⟨_,e⟩
 |own y=>obtain⟨_,e⟩:=x;exact⟨_,e⟩
 |xd fs=>obtain⟨_,⟨_,_,_,e,_⟩,_⟩:=x;exact⟨_,e⟩
 |rng lo hi=>obtain⟨_,_,_,e⟩:=x;exact⟨_,e⟩
 |frz b u=>exact⟨_,x.1⟩
 |tbl t=>
  cases t with
  |tab q=>obtain⟨_,e,_⟩:=x;exact⟨_,e⟩
  |cod q=>obtain⟨c,o,_,_,e,g,_⟩:=x;cases e;exact⟨_,g⟩
 |met f y=>exact⟨_,show h.get? a=some (Z0 (.ref f) (.ref y)) from x⟩
 |ext φ=>exact x.2.1
def Kp (outer:List Env)(H':Hp)(h0:Heap)(b:Addr):Prop:=(∃o,H' b=some o)\/((∃o,h0.get? b=some o)/\b∉frs outer)
structure XD (P:B13)(w:World)(outer l:List Env)(H:Hp)(h0:Heap)(e:Addr)(cls:Value)(dd:Option Addr)(H':Hp)(B:Heap)(nt:Bool)(h:Heap):Prop where
 un:Un (frs outer) [] H H' h0 h
 hok:HOk P w H' h
 ex:Ex B l e cls dd nt h
 kp:∀b o,h.get? b=some o->Kp outer H' h0 b->B.get? b=some o
 ne:H' e=none
 ge:h0.objs.size<=e
theorem XD.step {P:B13}{w:World}{c l l':List Env}{H:Hp}{y:Heap}{e:Addr}{d:Value}{dd:Option Addr}{H':Hp}{B:Heap}{nt p:Bool}{h h':Heap}(x:XD P w c l H y e d dd H' B nt h)
  (ex:Ex B l' e d dd p h') (u:h.UpToSlots h') (hs:∀b∈frs c,b∈frs l):XD P w c l' H y e d dd H' B p h':=by
 have t:∀b o,h.get? b=some o->Kp c H' y b->h'.get? b=some o:=λb o q k=>ex.stays b o (x.kp b o q k);have g:∀b,Kp c H' y b->∃o,h.get? b=some o:=λb k=>by
  rcases k with⟨o,q⟩|⟨⟨o,q⟩,_⟩
  ·exact(x.hok b o q).has
  ·exact x.un.there b o q (by simp)
 have fr:∀b o,h.get? b=some o->b∈frs c->∃sl,h'.get? b=some {o with slots:=sl}:=λb o q m=>by
  obtain⟨_,o',s,hd⟩:=x.ex.frames.mem (hs b m);rw[q] at s;cases s;exact u b o q hd
 refine⟨⟨λb o q n nf j=>t b o (x.un.keep b o q n nf j) (.inr ⟨⟨o,q⟩,nf⟩),λb o q n m j=>?_,x.un.free,λb o q j=>?_,x.un.tups,x.un.frzs,x.un.tbls⟩,λa o q=>?_,ex,λb o q k=>?_,x.ne,x.ge⟩
 ·obtain⟨sl,f⟩:=x.un.slot b o q n m j;obtain⟨a0,q2⟩:=fr b _ f m;exact⟨a0,q2⟩
 ·obtain⟨i,f⟩:=x.un.there b o q j;by_cases m:b∈frs c
  ·obtain⟨sl,q2⟩:=fr b i f m;exact⟨_,q2⟩
  ·exact⟨i,t b i f (.inr ⟨⟨o,q⟩,m⟩)⟩
 ·refine(x.hok a o q).stay (λb v hb r=>t b v r ?_) (λ_ z=>z) λ_ _ z=>z;rcases hb with rfl|hb
  ·exact .inl ⟨o,q⟩
  ·exact .inl ⟨_,hb⟩
 ·obtain⟨i,f⟩:=g b k;have:=t b i f k;rw[q] at this;cases this;exact x.kp b o f k
def CX1 (P:B13)(w:World):CXT:=λouter H s E ev s'=>∃(e:Addr) (cls:Value) (dd:Option Addr) (H':Hp) (B:Heap) (nt:Bool),ev=.ref e/\s'.os=s.os/\B69 s'.gens/\XD P w outer outer H s.heap e cls dd H' B nt s'.heap/\E cls dd H'
def XP (X:Cx)(G:XK)(ev:Value)(s':Shared):Prop:=X.A.frames=some X.stack/\∃(e:Addr) (cls:Value) (dd:Option Addr) (H':Hp) (B:Heap) (nt:Bool),ev=.ref e/\s'.os=X.s₀.os/\B69 s'.gens/\XD X.prog X.w X.outer X.stack X.H₀ X.s₀.heap e cls dd H' B nt s'.heap/\G cls dd H'
section
variable{X:Cx}{E:XK}{G:XK}{Ab:Aa2}{σ:St}{H:Hp}{s s':Shared}
theorem PassesOwn.xp (a:X.stack=X.env::X.outer)(d:X.env.frame=some X.env.locals):PassesOwn (model X.prog X.w) X.A X.env (XP X G):=by
 rintro ev s1 ⟨hfr,e,cls,dd,H',B,nt,rfl,ho,hg,x,g⟩;have i:∀b∈frs X.outer,b∈frs X.stack:=λb h=>by
  rw[a];unfold frs at h ⊢;rw[F9,d];exact A8 _ h
 have c:=x.ex;rw[a] at c;unfold notedBy;refine qS0 (hfr.trans (by rw[a])) d c λl m j=>?_
 refine qdM (s:={s1 with heap:=l}) m λn f k=>?_;rw[<- a] at f;exact⟨hfr,e,cls,dd,H',B,true,rfl,ho,hg,x.step f (j.trans k) i,g⟩
theorem qgY (l:X.stack=X.env::X.outer)(m:X.env.frame=some X.env.locals)(a:X.ex=[]):qN6 (CX1 X.prog X.w) (X.wish (XP X G)) G:=by
 rintro Ab σ H s ev s1 I ⟨e,cls,dd,H',B,nt,rfl,ho,hg,x,g⟩;have I:=I.unwish;have d:Inv X Ab σ H' s1:=I.call' ho x.un x.hok hg λb j=>absurd j (by simp)
 refine⟨I.ok.frames,e,cls,dd,H',B,nt,rfl,d.os,hg,⟨?_,x.hok,x.ex,λb o q k=>x.kp b o q ?_,x.ne,E3 I.sz x.ge⟩,g⟩
 ·have:=d.base;rw[a] at this;exact this
 ·rcases k with k|⟨⟨u,hu⟩,nf⟩
  ·exact .inl k
  ·obtain⟨f,c⟩:=I.base.there b u hu (by rw[a];simp)
   refine .inr ⟨⟨f,c⟩,λh=>?_⟩;rcases B8.mp (I.stkSub b h) with z|z
   ·have:=B5 hu;have i:=I.ok.above;rw[z] at this;exact absurd this (A89.mpr i)
   ·exact nf z
end
section
variable{P:B13}{w:World}{K:Ab1}{mg:Ab0}{base:Heap}
theorem qgB {N:List Str}{d:Str}{c:Scope}{f:Addr}{cd:Value}{A:Around}{a:List Env}{s:Shared}{H:Hp}{E:XK}{j:Value}{s':Shared}
  (q:XP (cxOf (CX1 P w) P w K mg base N d c f cd A a s H E) E j s'):(cxOf (CX1 P w) P w K mg base N d c f cd A a s H E).xe j s':=by
 obtain⟨h,e,i,k,m,B,t,rfl,n,o,x,g⟩:=q;refine qaF (L:=s.heap.objs.size) h rfl x.ex λu p l=>?_;exact⟨e,i,k,m,B,true,rfl,n,o,x.step p l λb r=>A8 _ r,g⟩
noncomputable abbrev cxX (P:B13)(w:World)(K:Ab1)(mg:Ab0)(base:Heap)(N:List Str)(d:Str)(c:Scope)(f:Addr)(cd:Value)(A:Around)(a:List Env)(s:Shared)(H:Hp)(E:XK):Cx:=
 (cxOf (CX1 P w) P w K mg base N d c f cd A a s H E).wish (XP (cxOf (CX1 P w) P w K mg base N d c f cd A a s H E) E)
theorem Fun.okX {x a:Str}{st:Stmt}{f:Addr}{g:B22}{N ps:List Str}{k:Nat}{sp:Sp}(F:Fun K x a st f g)(S:FnScope N ps (qA7 st))(d:∀vs H Q E,sp vs H Q E->vs.length=ps.length)
  (b:∀ (cdv:Value) (A:Around) (outer:List Env) (s:Shared) (H:Hp) (vs:List V) (Q:VK) (E:XK),Room k (A.deeper (envOfC a (qA7 st) s.heap.objs.size f cdv))->sp vs H Q E->
   ∃t,PSs (cxX P w K mg base N a (qA7 st) f cdv A outer s H E) (qAL st) t/\t {nx:=λ_ H'=>Q .non H',rt:=Q} (start N vs) H):FnOk P w K mg base (CX1 P w) (k+1) f g ps sp:=by
 obtain⟨u,od,kV,i,v,z,cdv,ct,m,rfl,p,c⟩:=F.ex;refine qdI p c S d λA outer s H vs Q E o e=>?_;obtain⟨t,h,q⟩:=b cdv A outer s H vs Q E o e;exact⟨t,λl n σ r D I j=>B18 (h l n σ r D (I.wish _) j) (λ_ _ q=>q.unwish) λev y q=>qgB q,q⟩
theorem qf8 {N:List Str}{c:Str}{b:Scope}{f:Addr}{cd:Value}{A:Around}{a:List Env}{s:Shared}{H:Hp}{E:XK}:qN6 (CX1 P w) (cxX P w K mg base N c b f cd A a s H E) E:=qgY rfl rfl rfl
theorem own1 {N:List Str}{c:Str}{b:Scope}{f:Addr}{cd:Value}{A:Around}{a:List Env}{s:Shared}{H:Hp}{E:XK}:PassesOwn (model (cxX P w K mg base N c b f cd A a s H E).prog (cxX P w K mg base N c b f cd A a s H E).w) (cxX P w K mg base N c b f cd A a s H E).A (cxX P w K mg base N c b f cd A a s H E).env (cxX P w K mg base N c b f cd A a s H E).xe:=
 PassesOwn.xp (X:=cxOf (CX1 P w) P w K mg base N c b f cd A a s H E) rfl rfl
end
def ExcO (e:Addr)(cls:Value)(dd:Option Addr):HO:=.ext λh=>∃(oe:Obj) (vs:Array Value),h.get? e=some oe/\oe.cls=cls/\oe.dict=dd/\oe.data=.fields vs
theorem qdL {P:B13}{w:World}{H:Hp}{h:Heap}{e:Addr}{g:Value}{i:Option Addr}{f:Obj}{vs:Array Value}(j:h.get? e=some f)(m:f.cls=g)(n:f.dict=i)(l:f.data=.fields vs):ObjOk P w H h e (ExcO e g i):=
 ⟨⟨f,vs,j,m,n,l⟩,⟨f,j⟩,λ_ _ ⟨o,ws,a,b,c,d⟩ k=>⟨o,ws,k _ a,b,c,d⟩⟩
noncomputable abbrev Cx.held (X:Cx)(ev:Value):Cx:={X with A:=X.A.mark (some ev),calm:=false}
section
variable{X:Cx}{Ab:Aa2}{σ:St}{H:Hp}{s:Shared}{ev:Value}
theorem Inv.held (I:Inv X Ab σ H s)(a:Value):Inv (X.held a) Ab σ H s:=
 ⟨⟨I.ok.mod,I.ok.kind,I.ok.glob,I.ok.blt,I.ok.above,I.ok.inj,I.ok.has,I.ok.cab,(λz=>nomatch z),I.ok.frames,I.ok.stk,I.ok.exf,I.ok.bs,I.ok.bsz,I.ok.noex,I.ok.exfs,I.ok.funs,I.ok.frf⟩,I.os,I.bare,I.base,I.loc,I.cell,I.free,I.freeC,I.pin,I.hok,I.len⟩
theorem Inv.unheld (a:X.Ok)(I:Inv (X.held ev) Ab σ H s):Inv X Ab σ H s:=⟨a,I.os,I.bare,I.base,I.loc,I.cell,I.free,I.freeC,I.pin,I.hok,I.len⟩
theorem Inv.goes {M:Model}{A:Around}{E:Aa1}{j:Nat}{n:Str}{pos:Pos}{Q:Unit->Shared->Prop}(I:Inv X Ab σ H s)(hN:X.N.Nodup)(hj:X.N[j]?=some n)(t:X.env.scope.names.lookup n=some .local)
  (h:∀s',Inv X Ab (σ.set j none) H s'->Q () s'):wpAny M A (do bindName X.env n .none;unbindBehindTheSuite X.env n pos) Q E s:=by
 refine B10 (wpAny_bindName (qDZ (v:=.non) I hN hj (.inl t) rfl (λs1 a=>?_) (.inr t)));unfold unbindBehindTheSuite;refine wpAny_onRaise ?_;obtain⟨m,hn,w⟩:=id a.loc;have i:j<σ.length:=by rw[I.len];exact(A3.mp hj).1
 have hv:∃v,m n=some v:=by
  obtain⟨u,_,z|⟨z,_⟩⟩:=w j n .non hj (by rw[Q4 i]) (.inl t)
  ·exact⟨u,z.2⟩
  ·have:X.env.scope.names.lookup n=some .cell\/X.env.scope.names.lookup n=some .free:=z;rw[t] at this;rcases this with z|z<;>cases z
 obtain⟨v,hv⟩:=hv;have l:(X.env.scope.kind == .class||(X.env.scope.kind == .module&&X.env.locals != X.env.globals))=false:=by rw[I.ok.kind];rfl
 refine wpAny_unbindName_local t hn hv l λh' u x f=>h _ ?_;obtain⟨oL,es,ep,a3,r⟩:=id hn;obtain⟨a2,_,_,a1,_⟩:=id x;have lo:∀b ob,X.s₀.heap.get? b=some ob->b≠X.env.locals:=λb ob e=>D5 (E1 (B5 e) I.ok.above);refine⟨a.ok,a.os,a.bare,⟨λb o e n' hb hx=>?_,λb o e n' hb hx=>?_,a.base.free,λb o e hx=>?_,a.base.tups,a.base.frzs,a.base.tbls⟩,⟨_,x,λk y v' d e2 e3=>?_⟩,λy c e=>?_,a.free,a.freeC,λp hp=>?_,λb ob e=>?_,by simpa using I.len⟩
 ·exact(f.2 b (lo b o e)).trans (a.base.keep b o e n' hb hx)
 ·obtain⟨sl,d⟩:=a.base.slot b o e n' hb hx;exact⟨sl,(f.2 b (lo b o e)).trans d⟩
 ·obtain⟨o',d⟩:=a.base.there b o e hx;exact⟨o',(f.2 b (lo b o e)).trans d⟩
 ·by_cases hk:k=j
  ·subst hk;rw[Q4 i] at e2;cases e2
  ·rw[V9 (J6 hk)] at e2;obtain⟨u',r',q⟩:=w k y v' d (by rw[V9 (J6 hk)];exact e2) e3
   refine⟨u',r',?_⟩;have a0:y≠n:=λz=>hk ((List.getElem?_inj (A3.mp d).1 hN).mp (by rw[d,hj,z]))
   rcases q with⟨q1,q2⟩|⟨q1,c,q2,g⟩
   ·exact .inl ⟨q1,(if_neg a0).trans q2⟩
   ·obtain⟨oc,g,q4⟩:=g;exact .inr ⟨q1,c,q2,oc,(f.2 c (I.cne y c q2)).trans g,q4⟩
 ·obtain⟨v,oc,g,q4⟩:=a.cell y c e;exact⟨v,oc,(f.2 c (I.cne y c e)).trans g,q4⟩
 ·obtain⟨d,n1,n2,r⟩:=a.pin p hp;exact⟨(f.2 p.1 n2).trans d,n1,n2,r⟩
 ·refine(a.hok b ob e).stay (λc w' hc q=>(f.2 c ?_).trans q) (λ_ q=>q) λ_ _ q=>q;rintro rfl;rcases hc with rfl|hc
  ·rw[a.free] at e;cases e
  ·rw[a.free] at hc;cases hc
theorem Inv.lands {Q:Unit->Shared->Prop}{EE:Aa1}{E:XK}{G:XK}{H1:Hp}{s1 d:Shared}(I:Inv X Ab σ H1 s1)(a:X.stack=X.env::X.outer)(j:X.env.frame=some X.env.locals)(q:CX1 X.prog X.w X.stack H1 s1 G ev d)
  (h:∀e cls dd H2 B s3,ev=.ref e->Inv X Ab σ H2 s3->XD X.prog X.w X.stack X.stack H1 s1.heap e cls dd H2 B true s3.heap->G cls dd H2->Q () s3):
  wpAny (model X.prog X.w) X.A (noteFrame ev X.env) (λ_ s3=>wpAny (model X.prog X.w) X.A (setFlight ev none) Q EE s3) EE d:=by
 obtain⟨e,cls,dd,H2,B,t,rfl,n,o,x,g⟩:=q;have c:=x.ex;rw[a] at c;refine qS0 (I.ok.frames.trans (by rw[a])) j c λr m p=>?_
 refine qG0 (s:={d with heap:=r}) m λk i l=>?_;rw[<- a] at i;have y:=x.step i (p.trans l) λb f=>f;exact h e cls dd H2 B _ rfl (I.call' (s':={d with heap:=k}) n y.un y.hok o λb f=>absurd f (by simp)) y g
theorem Inv.caught {H1 H2:Hp}{h:Heap}{e:Addr}{a:Value}{g:Option Addr}{B:Heap}{i:Bool}(I:Inv X Ab σ H2 s)(I0:∃s1,Inv X Ab σ H1 s1/\s1.heap=h)(x:XD X.prog X.w X.stack X.stack H1 h e a g H2 B i s.heap):Inv X Ab σ (Ag H2 e (ExcO e a g)) s:=by
 obtain⟨s1,d,rfl⟩:=I0;obtain⟨oe,vs,x1,j,u,t,l,_⟩:=x.ex.rec_;have f:∀b ob,s1.heap.get? b=some ob->b≠e:=λb ob q=>D5 (E1 (B5 q) x.ge);refine I.track x.ne (E3 d.sz x.ge) (λz=>?_) (λy c q z=>?_) (λp k z=>?_) (qdL j u t l)
 ·obtain⟨m,⟨o,_,_,n,_⟩,_⟩:=d.loc;exact f _ _ n z.symm
 ·obtain⟨v,oc,r,_⟩:=d.cell y c q;exact f _ _ r z
 ·exact f _ _ (d.pin p k).1 z
end
def Ends.off (D:Ends):Option Nat->Ends
 |none=>D
 |some j=>{nx:=λσ H=>D.nx (σ.set j none) H,rt:=D.rt,bk:=λσ H=>D.bk (σ.set j none) H,ct:=λσ H=>D.ct (σ.set j none) H}
noncomputable def onE (σ:St)(e:Addr):Option Nat->St
 |none=>σ
 |some j=>σ.set j (some (.ref e))
def qgC (K:Ab1)(i:Nat)(ta:TA)(sp:Sp)(dvs:List V)(c:Value)(j:Option Nat)(th:TS):TS:=λD σ H=>ta σ H λvs H1=>
 sp (vs++dvs) H1 (λv H2=>D.nx (σ.set i (some v)) H2) λcls dd H2=>A15 K cls c=some true/\∀e,H2 e=none->th (D.off j) (onE σ e j) (Ag H2 e (ExcO e cls dd))
theorem SP.back {Ab:Aa2}{D:Ends}{f:Flow}{s':Shared}{c:Value}(b:X.Ok)(h:SP (X.held c).nox Ab D f s'):SP X Ab D f s':=by
 cases f with
 |next=>obtain⟨σ',a,I,q⟩:=h;exact⟨σ',a,I.unwish.unheld b,q⟩
 |brk=>obtain⟨σ',a,I,q⟩:=h;exact⟨σ',a,I.unwish.unheld b,q⟩
 |cont=>obtain⟨σ',a,I,q⟩:=h;exact⟨σ',a,I.unwish.unheld b,q⟩
 |ret u=>obtain⟨v,σ',a,I,r,q⟩:=h;exact⟨v,σ',a,I.unwish.unheld b,r,q⟩
theorem qcH {i:Nat}{x fn cn:Str}{a:Expr}{as:List Expr}{px pf pc pa pC ph pt:Pos}{b₀:Stmt}{l:List Stmt}{ta:TA}{th:TS}{c:Value}{nm:Option Str}{j:Option Nat}{k:Nat}{f:Addr}{fd:B22}{ps:List Str}{sp:Sp}{p:List V}{ds:List Value}
  (a7:X.stack=X.env::X.outer) (a5:X.env.frame=some X.env.locals) (hN:X.N.Nodup) (hi:X.N[i]?=some x) (hx:Loc X.env.scope x)
  (F:FnOk X.prog X.w X.K X.mg X.base (CX1 X.prog X.w) k f fd ps sp) (hr:Room k X.A) (hg:Gl X fn) (hm:X.mg fn=some (.ref f)) (hk:G8 X.K (.ref f)=true) (t:Binds X.K fd ps ds) (hd:Vals p ds)
  (ha:PA X.nox (a::as) ta) (a6:Gl X cn) (a9:X.mg cn=some c)
  (hj:match j,nm with|none,none=>True|some j,some n=>X.N[j]?=some n/\X.env.scope.names.lookup n=some .local|_,_=>False)
  (hh:∀ev,PSs (X.held ev).nox (b₀::l) th)
  (hs:swapsWith (.Call (.Name fn pf) (a::as) [] pc) (some (.Name x px)) pa.line X.env=pure false:=by rfl) (a8:X.fn x=true\/X.env.scope.names.lookup x=some .local:=by first|exact .inl rfl|exact .inr rfl|assumption)
  (ab:(fn==("__debug__" : Str))=false:=by decide) (a4:(cn==("__debug__" : Str))=false:=by decide)
  (he:B17 (a::as) X.env=(false,eval a X.env)::B17 as X.env:=by rfl) (aa:(backTo pc (B17 as X.env)).any (·.1)=false:=by rfl):
  PS X (.Try [.Assign [.Name x px] (.Call (.Name fn pf) (a::as) [] pc) pa] [.ExceptHandler (some (.Name cn pC)) nm (b₀::l) ph] [] [] pt) (qgC X.K i ta sp p c j th):=by
 intro Ab s σ H D I h;rw[arm_exec_Try];refine B10 (B40 ?_);refine wpAny_tryStmt_except ?_;refine wpAny_execs_cons ?_;refine wpAny_Assign_Name ?_ hs;refine B47 (qO1 I hg hm ?_ ab);refine i8 (h₀:=X.base) I.ok.mod.kin hk (B18 (ha pc Ab s σ H _ (I.wish _) h) (λus s1 ⟨vs,H1,I1,r,q⟩=>?_) λ_ _ z=>z.elim) he aa;have I1:=I1.unwish;refine⟨I1.kIn,?_⟩;have r2:Vals (vs++p) (us++ds):=r.append hd;have hl:(us++ds).length=ps.length:=by rw[<- r2.length];exact F.len _ _ _ _ q
 refine B70 (B46 (F.run X.A X.stack s1 H1 ⟨us,[]⟩ (us++ds) (vs++p) _ _ hr I1.env0 (t s1 us I1.kIn hl) r2 q) λa3 s2 hq=>?_);cases a3 with
 |ok fl=>
  cases fl with
  |ret u=>
   obtain⟨v,H2,I2,rv,q2⟩:=I1.after hq;refine qDZ I2 hN hi hx rv (λs3 o=>?_) a8;exact B55 (B55 ⟨_,H2,o,q2⟩)
  |next=>exact L9 hq
  |brk=>exact L9 hq
  |cont=>exact L9 hq
 |error ev=>
  refine I1.lands (E:=λ_ _ _=>True) a7 a5 hq λe cls dd H2 B s3 ee o y g=>?_;subst ee;obtain⟨hc,g⟩:=g;obtain⟨oe,ad,ac,a1,a2,_⟩:=y.ex.rec_;have LT:PySem.W.Looks (model X.prog X.w) s3.heap (typeOf (.ref e)) cls:=by
   subst a2;exact(X1 a1).andThen .now
  refine wpAny_handleBy_cons (codeAny_handlers_test ?_) (by intro z;cases z)
  have J3:=o.held (.ref e);refine qO1 J3 a6 a9 ?_ a4;refine(PySem.W.exm_one o.kIn LT hc).here ?_;have a0:=o.ok;cases nm with
  |none=>
   cases j with
   |some j=>exact hj.elim
   |none=>
    refine codeAny_handlers_suite (qG0 y.ex λh4 x4 u4=>?_);have y4:=y.step x4 u4 λb t=>t;have I4:Inv X Ab σ H2 {s3 with heap:=h4}:=I1.call' (s':={s3 with heap:=h4}) (o.os.trans I1.os.symm) y4.un y4.hok o.bare λb t=>absurd t (by simp)
    have I5:=I4.caught ⟨s1,I1,rfl⟩ y4;exact B18 (hh (.ref e) Ab _ σ _ D ((I5.held _).wish _) (g e y.ne)) (λfl s5 q5=>SP.back a0 q5) λ_ _ z=>z.elim
  |some n=>
   cases j with
   |none=>exact hj.elim
   |some j=>
    obtain⟨m,d⟩:=hj;refine codeAny_handlers_suite_as (qG0 y.ex λh4 x4 u4=>?_);have y4:=y.step x4 u4 λb t=>t;have I4:Inv X Ab σ H2 {s3 with heap:=h4}:=I1.call' (s':={s3 with heap:=h4}) (o.os.trans I1.os.symm) y4.un y4.hok o.bare λb t=>absurd t (by simp)
    have I5:=I4.caught ⟨s1,I1,rfl⟩ y4;refine qDZ (v:=.ref e) I5 hN m (.inl d) rfl (λs6 I6=>?_) (.inr d);refine B18 (hh (.ref e) Ab _ _ _ _ ((I6.held _).wish _) (g e y.ne)) (λfl s5 q5=>?_) λ_ _ z=>z.elim;have q5:=SP.back a0 q5;cases fl with
    |next=>obtain⟨σ7,H7,I7,q7⟩:=q5;exact I7.goes hN m d λs8 I8=>⟨_,H7,I8,q7⟩
    |brk=>obtain⟨σ7,H7,I7,q7⟩:=q5;exact I7.goes hN m d λs8 I8=>⟨_,H7,I8,q7⟩
    |cont=>obtain⟨σ7,H7,I7,q7⟩:=q5;exact I7.goes hN m d λs8 I8=>⟨_,H7,I8,q7⟩
    |ret u=>obtain⟨v7,σ7,H7,I7,r7,q7⟩:=q5;exact I7.goes hN m d λs8 I8=>⟨v7,_,H7,I8,r7,q7⟩
noncomputable def bmV:List Value:=[.type "ValueError",.type "Exception",.type "BaseException",.type "object"]
noncomputable def xcIn (K:Ab1)(C:Addr)(init:Option Value):Bool:=match K.lookup C with
 | some ⟨.type "type",_,.cls cd,sl⟩=>(match cd.mro,sl.toList with
  |.ref C'::bm,[_,_,_,_,some (.builtin n),_]=>C'==C&&n == "ValueError.__new__" && !cd.hasDel&&cd.hasDict&&PySem.W.tailIn K bmV bm&&PySem.W.nsOkIn K cd.ns&&V3 K cd.ns "__init__" == some init
  |_,_=>false)
 |_=>false
structure XCls (K:Ab1)(C:Addr)(init:Option Value):Prop where
 cls:xcIn K C init=true
 set:G1 K (.ref C) "__setattr__" = some (some (.builtin "object.__setattr__"))
 kp:G8 K (.ref C)=true
theorem qUH {K:Ab1}{h:Heap}{N:Addr}{mg:Ab0}{n:Str}{v:Value}(X:K.In h)(G:h.Ns N mg)(e:V3 K N n=some (some v)):mg n=some v:=by
 obtain⟨o,g,i,f,b,_,a⟩:=G;unfold V3 at e
 split at e
 ·rename_i c d es' n' sl q
  have:=X _ _ q;rw[f] at this;cases this;cases b
  split at e
  ·rename_i en he
   cases e;rw[<- a];unfold nsFind findBy;rw[<- A30,he]
   rfl
  ·split at e
   ·cases e
   ·cases e
 ·cases e
theorem qRA {h:Heap} {b:List Value} (a:Value) (T:OwnTail h bmV b):refuseLoop a "__setattr__" b=pure ():=by
 induction T with
 |base=>exact m9.passes a
 |own _ _ _ _ ih=>rw[refuseLoop_ref];exact ih
theorem qYT {K:Ab1}{h:Heap}{C:Addr}{a:Option Value}(X:K.In h)(q:xcIn K C a=true):∃(bm:List Value) (N:Addr) (nm qn:Str) (bs:List Value) (sn:List Str) (sub:List Value) (ab:Bool) (col:Option Bool) (dd:Option Addr) (k0 k1 k2 k3 k5:Option Value) (mN:Ab0),
  h.get? C=some (excClassObj nm qn C N bs bm true sn sub ab col dd k0 k1 k2 k3 k5 "ValueError.__new__")/\h.Ns N mN/\mN "__init__" = a/\OwnTail h bmV bm:=by
 unfold xcIn at q
 split at q
 ·rename_i dd cd sl ho
  split at q
  ·rename_i C' bm k0 k1 k2 k3 n k5 hm hs
   simp only[D6,beq_iff_eq,Z7] at q;obtain⟨⟨⟨⟨⟨⟨rfl,rfl⟩,c⟩,e⟩,j⟩,b⟩,d⟩:=q;obtain⟨nm,bs,g,k,qn,m,sn,sub,ab,col,i⟩:=cd;dsimp only at hm c b d e;subst hm c e;have f:sl=#[k0,k1,k2,k3,some (.builtin "ValueError.__new__"),k5]:=by
    obtain⟨l⟩:=sl;simp only at hs;rw[hs]
   subst f;refine⟨bm,k,nm,qn,bs,sn,sub,ab,col,dd,k0,k1,k2,k3,k5,_,X _ _ ho,.of_isNs (A37 X b),?_,PySem.W.tail_of_in X j⟩;cases a with
   |none=>exact PySem.W.nsMap_none_of_in X b d
   |some v=>exact qUH X (.of_isNs (A37 X b)) d
  ·cases q
 ·cases q
section
variable{prog:B13}{w:World}{A:Around}{E:Aa1}{h:Heap}{g:Array B66}{d:Drawn}{t:Nat}{os:OsState}{K:Ab1}{C x:Addr}{init:Option Value}{mA:Ab0}{name:Str}{v:Value}{ns:List Str}
theorem qe5 {b:Bool}{tk:Tok}{Q:PySem.Fin->Shared->Prop}(X:K.In h)(q:xcIn K C init=true)(I:h.Inst x C mA)(hw:Within mA ns)(hsz:ns.length<=1000)
  (hq:∀ h' tk',h'.Inst x C (fun y=>if y=name then some v else mA y)->
   (∀b o,b≠x->(∀o₀ dx,h.get? x=some o₀->o₀.dict=some dx->b≠dx)->h.get? b=some o->h'.get? b=some o)->
   (∀o₀,h.get? x=some o₀->∃o₁,h'.get? x=some o₁/\o₁.cls=o₀.cls/\o₁.data=o₀.data/\o₁.slots=o₀.slots/\(∀dx,o₀.dict=some dx->o₁.dict=some dx)/\(o₀.dict=none->o₁.dict=some h.objs.size))->Q (.done (.ret .none)) ⟨h',g,d,tk',os⟩):
  wpAny (model prog w) A (Y2 (.ref x) (.ref C) (.str name tk) name v b) Q E ⟨h,g,d,t,os⟩:=by
 obtain⟨bm,N,nm,qn,bs,sn,ac,ab,ad,dd,k0,k1,k2,k3,k5,mN,hC,hn,_,T⟩:=qYT X q;obtain⟨o,i,hc,n,hd⟩:=I;unfold Y2
 repeat (first|(with_reducible refine B50 i ?_;rw[hc])|wp_step)
 rcases hd with⟨u,a6⟩|⟨dx,f,l,a0⟩
 ·rw[u,if_neg (by simp[typeHasDict])]
  split
  ·rename_i hcd
   cases hcd
  split
  ·rename_i c hcd
   exact absurd hcd (n c)
  ·have s:(h.push {cls:=.type "dict",data:=.dict #[]}).get? x=some o:=A5 _ i;have j:x≠h.objs.size:=D5 (B5 i);refine B10 (wpAny_alloc' ?_);refine B10 (wpAny_update' s ?_);refine B11 ?_;have a1:((h.push {cls:=.type "dict",data:=.dict #[]}).update x λo=>{cls:=o.cls,dict:=some h.objs.size,data:=o.data,slots:=o.slots}).get? h.objs.size
     = some {cls:=.type "dict",data:=.dict #[]}:=
    (d9 _ _ _ _ j.symm).trans (Heap.get?_push_at rfl rfl)
   have a2:((h.push {cls:=.type "dict",data:=.dict #[]}).update x λo=>{cls:=o.cls,dict:=some h.objs.size,data:=o.data,slots:=o.slots}).Ns h.objs.size (λ_=>none):=
    ⟨_,#[],_,a1,rfl,λe he=>absurd he (by simp),λ_=>rfl⟩
   show wpAny _ _ (O9 h.objs.size (.str name tk) name v) _ _ _;unfold O9 a7;refine B10 (B11 (B10 (wpAny_nsSet1 (Heap.Ns1.of_empty a2) λh' a r=>?_)));obtain⟨oD,a8,a4,m,k,p⟩:=a.count (B06 name v Within.nil);refine B10 (wpAny_lookBehind m (by rw[k];exact pastItsLine_dict (E3 p (by rw[C5,K4,B24];lia))) ?_)
   wp_walk
   have z:h'.get? x=some {cls:=o.cls,dict:=some h.objs.size,data:=o.data,slots:=o.slots}:=?_;refine hq h' _ ⟨{cls:=o.cls,dict:=some h.objs.size,data:=o.data,slots:=o.slots},z,hc,n,.inr ⟨h.objs.size,rfl,j.symm,?_⟩⟩ (λb ob a9 _ hb=>?_)
    (λo₀ h₀=>by obtain rfl:o=o₀:=B0 (i.symm.trans h₀);exact⟨_,z,rfl,rfl,rfl,(λdx e=>by rw[u] at e;cases e),λ_=>rfl⟩)
   ·obtain⟨o',es,ep,e1,e2,e3,eu,e4⟩:=a;exact⟨o',es,ep,e1,e2,e3,eu,λy=>by rw[e4 y];by_cases hy:y=name<;>simp[hy,a6]⟩
   ·exact(r.2 b (D5 (B5 hb))).trans ((d9 _ _ _ _ a9).trans (A5 _ hb))
   ·refine(r.2 x j).trans (F7 _ s ?_);have a3:=(Heap.get?_some_iff.mp i).2;obtain⟨oc,od,aa,ae⟩:=o;cases aa<;>first|rfl|exact a3
 ·rw[f];refine B11 ?_;show wpAny _ _ (O9 dx (.str name tk) name v) _ _ _;unfold O9 a7;refine B10 (B11 (B10 (wpAny_nsSet1 a0 λh' a r=>?_)));obtain⟨oD,a8,a4,m,k,p⟩:=a.count (B06 name v hw);refine B10 (wpAny_lookBehind m (by rw[k];exact pastItsLine_dict (E3 p (by rw[C5,B24];lia))) ?_)
  wp_walk
  refine hq h' _ ⟨o,(r.2 x l.symm).trans i,hc,n,.inr ⟨dx,f,l,a⟩⟩ (λb ob _ a5 hb=>?_)
   (fun o₀ h₀=>by
    obtain rfl:o=o₀:=B0 (i.symm.trans h₀);exact⟨o,(r.2 x l.symm).trans h₀,rfl,rfl,rfl,(λ_ e=>e),λe=>by rw[f] at e;cases e⟩)
  exact(r.2 b (a5 o dx i f)).trans hb
theorem xset {Q:Unit->Shared->Prop}(X:K.In h)(c:XCls K C init)(j:G1 K (.ref C) name=some none)(I:h.Inst x C mA)(hw:Within mA ns)(hsz:ns.length<=1000)
  (hq:∀ h' tk',h'.Inst x C (fun y=>if y=name then some v else mA y)->
   (∀b o,b≠x->(∀o₀ dx,h.get? x=some o₀->o₀.dict=some dx->b≠dx)->h.get? b=some o->h'.get? b=some o)->
   (∀o₀,h.get? x=some o₀->∃o₁,h'.get? x=some o₁/\o₁.cls=o₀.cls/\o₁.data=o₀.data/\o₁.slots=o₀.slots/\(∀dx,o₀.dict=some dx->o₁.dict=some dx)/\(o₀.dict=none->o₁.dict=some h.objs.size))->Q () ⟨h',g,d,tk',os⟩):
  wpAny (model prog w) A (setAttr (.ref x) name v) Q E ⟨h,g,d,t,os⟩:=by
 obtain⟨m,N,nm,qn,bs,sn,a0,ab,a1,dd,k0,k1,k2,k3,k5,mN,l,hn,_,T⟩:=qYT X c.cls;obtain⟨o,hx,u,a2,hd⟩:=id I;have f:=m9;have i:PySem.W.Looks (model prog w) h (typeOf (.ref x)) (.ref C):=by
  rw[<- u];exact(X1 hx).andThen .now
 have n:PySem.W.Looks (model prog w) h (mroOf (.ref C)) (.ref C::m):=λA Q E s k q=>by
  obtain⟨hp,g,d,tk,os⟩:=s;exact wpAny_mroOf_exc (k _ _ l) q
 have a:PySem.W.Looks (model prog w) h (isInstance (.ref x) (.type "object")) true:=i.andThen λA Q E s k q=>by
  obtain⟨hp,g,d,tk,os⟩:=s;refine wpAny_isSubtype_exc (k _ _ l) ?_;have:(C4 C::m).contains (.type "object")=true:=by rw[A38,T.hasType (X:="object") (b:=true) (by decide +kernel),A60]
  rw[this];exact q
 refine B10 (wpAny_mkText (B10 (B10 (B10 (i _ _ _ _ (λ_ _ e=>e) (A10 X c.set _ _ _ _ (λ_ _ e=>e) (B25 ?_)))))));rw[PySem.F.store_object.slot.bind];refine B10 (B11 (B10 (B70 ?_)));refine codeAny_call_builtin f.slot.plain f.entry (@PySem.W.check_slot (model prog w) _ _ _ "object.__setattr__" "object" "__setattr__" (.ref x) [.str name t,v] [] _ f.kind f.split a (f.args (.ref x) (.str name t) v) ?_);show wpAny (model prog w) A.in1 (Builtin.«object.__setattr__» ⟨[.ref x,.str name t,v],[]⟩) _ _ ⟨h,g,d,t+1,os⟩;rw[PySem.W.osa_eq,refuse_eq];refine B10 (B10 (i.here (B10 (n.here ?_))));rw[refuseLoop_ref,qRA _ T];refine B11 (B10 (i.here (B10 ((A10 X j).here (B10 (B11 ?_))))));refine qe5 X c.cls I hw hsz λh' tk' z p r=>?_;exact B11 (B11 (hq h' tk' z p r))
end
noncomputable abbrev excObj (C t:Addr)(dd:Option Addr):Obj:={cls:=.ref C,dict:=dd,data:=.fields #[.ref t,.none,.none,.none,.bool false,.none]}
noncomputable abbrev argObj (rest:List Value):Obj:={cls:=.type "tuple",data:=.seq rest.toArray}
section
variable{prog:B13}{w:World}{A:Around}{R:Result->Shared->Prop}{h:Heap}{g:Array B66}{d:Drawn}{t:Nat}{os:OsState}{K:Ab1}{C fI:Addr}{rest:List Value}
theorem qgA (X:K.In h) (q:xcIn K C (some (.ref fI))=true) (n:PySem.W.typeIn K (.ref fI)=some (.type "function")) (c:rest.length<=B12)
  (hq:B43 (model prog w) (A.under (.builtin "type.__call__" ⟨.ref C::rest,[]⟩)) (.call (.ref fI) ⟨.ref (h.objs.size+1)::rest,[]⟩) (PySem.W.InitBack (h.objs.size+1) R) ⟨(h.push (argObj rest)).push (excObj C h.objs.size none),g,d,t,os⟩):
  B43 (model prog w) A (.call (.ref C) ⟨rest,[]⟩) R ⟨h,g,d,t,os⟩:=by
 obtain⟨bm,N,nm,qn,bs,sn,p,ab,u,dd,k0,k1,k2,k3,k5,y,a,s,l,T⟩:=qYT X q;have F:=PySem.F.excBase_ValueError;have f1:=tc_lookup;have f2:=tc_bind (.ref C);have hT:(⟨h,g,d,t,os⟩:Shared).TypeIs (.ref C) "type":=⟨_,a,rfl⟩;refine codeAny_of_tree ?_;show wpAny _ _ (callAny (.ref C) _) _ _ _
 repeat (any_goals (first|assumption|with_reducible refine B50 a ?_|wp_step))
 refine⟨rfl,?_⟩;show B43 (model prog w) A (.call (.builtin "type.__call__") ⟨.ref C::rest,[]⟩) R ⟨h,g,d,t,os⟩;refine codeAny_call_builtin_at (A39 _ (by decide +kernel)) entry_typeCall (wpAny_check_type_call_sub a ?_)
 repeat (first|with_reducible refine B50 a ?_|with_reducible refine wpAny_madeBy_exc a ?_|wp_step)
 refine codeAny_call_builtin_code (A39 _ F.quiet) (wpAny_check_new_subT F T a ?_);refine codeAny_exc_new_subT F T a ?_ c;show wpAny _ _ _ _ _ _;have j:∀b o,h.get? b=some o->((h.push (argObj rest)).push (excObj C h.objs.size none)).get? b=some o:=λb o e=>A5 _ (A5 _ e);have i:=j _ _ a;have k:((h.push (argObj rest)).push (excObj C h.objs.size none)).Ns N y:=let⟨o,es,ep,e,r⟩:=s;⟨o,es,ep,j _ _ e,r⟩
 have f:((h.push (argObj rest)).push (excObj C h.objs.size none)).get? (h.objs.size+1)=some {cls:=.ref C,data:=.fields #[.ref h.objs.size,.none,.none,.none,.bool false,.none]}:=by heap_get
 have m:(C4 C::bm).contains (.ref C)=true:=by simp
 have T₁:=T.keeps j;unfold isInstance
 repeat (first|with_reducible refine B50 f ?_|(with_reducible refine wpAny_isSubtype_exc i ?_;rw[m])|wp_step)
 show wpAny _ _ (typeLookup (.ref C) _) _ _ _;refine wpAny_typeLookup_tail i k T₁ F.mroIs F.init.lookup ?_;rw[l];have x:=(PySem.W.bind_fn (M:=model prog w) X (.ref (h.objs.size+1)) n).keeps j;refine B25 (B10 (x.here (B10 (B70 (B46 hq λr s' z=>?_)))));rcases r with e|(v|_|_|_)<;>first|exact z|exact z.elim|skip;obtain⟨rfl,z⟩:=z;exact B11 (B11 z)
end
section
variable{M:Model}{A:Around}{E:Aa1}{env:Env}{K:Ab1}{C:Addr}{init:Option Value}
theorem qe6 {s:Shared}{x:Sem Value}{Q:Flow->Shared->Prop}(q:A.handled=none)(c:xcIn K C init=true)
  (h:wpAny M A x (λv s₁=>∃e t dd,v=.ref e/\K.In s₁.heap/\s₁.heap.get? e=some (excObj C t dd)/\E (.ref e) s₁) E s):
  wpAny M A (raiseStmt env (some x) none) Q E s:=by
 unfold raiseStmt;refine B10 (B18 h (λv s₁ p=>?_) λ_ _ x=>x);obtain⟨e,t,j,rfl,X,n,o⟩:=p;obtain⟨r,N,nm,qn,bs,w,l,ab,m,dd,k0,k1,k2,k3,k5,mN,i,z,k,T⟩:=qYT X c;have a:(C4 C::r).contains (.type "BaseException")=true:=by rw[A38,T.hasType (X:="BaseException") (b:=true) (by decide +kernel),A60]
 obtain⟨u,g,d,y,os⟩:=s₁;have f:u.get? e=some {cls:=.ref C,dict:=j,data:=.fields #[.ref t,.none,.none,.none,.bool false,.none]}:=n
 repeat (first|with_reducible refine B50 f ?_|with_reducible refine B50 i ?_|(with_reducible refine wpAny_isSubtype_exc i ?_;rw[a])|wp_step)
 exact wpAny_raiseNew_none q o
end
def ExcN (x C:Addr)(dd:Option Addr):HO:=.ext λh=>∃t,h.get? x=some (excObj C t dd)
theorem qXT {P:B13}{w:World}{H:Hp}{h:Heap}{x C t:Addr}{b:Option Addr}(e:h.get? x=some (excObj C t b)):ObjOk P w H h x (ExcN x C b):=⟨⟨t,e⟩,⟨_,e⟩,λ_ _ ⟨t,a⟩ k=>⟨t,k _ a⟩⟩
def XDic (dx:Addr)(fs:List (Str×V)):HO:=.ext λh=>∃mA,h.Ns1 dx mA/\(∀f,RelO (fs.lookup f) (mA f))/\PySem.Within mA (fs.map (·.1))
theorem qVA {P:B13}{w:World}{H:Hp}{h:Heap}{c:Addr}{d:List (Str×V)}{mA:Ab0}(e:h.Ns1 c mA)(r:∀f,RelO (d.lookup f) (mA f))(i:PySem.Within mA (d.map (·.1))):ObjOk P w H h c (XDic c d):=by
 obtain⟨o,_,_,g,_⟩:=id e;refine⟨⟨mA,e,r,i⟩,⟨o,g⟩,?_⟩;rintro h1 h2 ⟨mB,⟨o1,es,ep,a,b⟩,r1,w1⟩ k;exact⟨mB,⟨o1,es,ep,k _ a,b⟩,r1,w1⟩
section
variable{X:Cx}{Ab:Aa2}{σ:St}{H:Hp}{s:Shared}
theorem Inv.untrack {e:Addr}{φ:Heap->Prop}(I:Inv X Ab σ (Ag H e (.ext φ)) s)(j:H e=none):Inv X Ab σ H s:=by
 have g:∀b,(Ag H e (.ext φ)) b=none->H b=none:=λb q=>by
  by_cases f:b=e
  ·rw[f];exact j
  ·rw[qA9 f] at q;exact q
 have d:∀b u,(Ag H e (.ext φ)) b=some u->(∀ψ,u≠.ext ψ)->H b=some u:=λb u q n=>by
  by_cases f:b=e
  ·rw[f,qA1] at q;cases q;exact absurd rfl (n φ)
  ·rw[qA9 f] at q;exact q
 refine⟨I.ok,I.os,I.bare,⟨I.base.keep,I.base.slot,λb h q n k=>g _ (I.base.free b h q n k),I.base.there,λb i q=>d _ _ (I.base.tups b i q) (λ_ z=>nomatch z),λb h u q=>d _ _ (I.base.frzs b h u q) (λ_ z=>nomatch z),λb l q=>?_⟩,I.loc,I.cell,g _ I.free,λx c q=>g _ (I.freeC x c q),λp m=>?_,λb u q=>?_,I.len⟩
 ·exact d _ _ (I.base.tbls b l q) (λ_ z=>nomatch z)
 ·obtain⟨a,b,c⟩:=I.pin p m;exact⟨a,g _ b,c⟩
 ·have o:(Ag H e (.ext φ)) b=some u:=by rw[qA9 (qA6 q j)];exact q
  exact(I.hok b u o).stay (λ_ _ _ z=>z) (λc z=>d _ _ z (λ_ z=>nomatch z)) (λc i z=>d _ _ z (λ_ z=>nomatch z)) λc t z=>d _ _ z (λ_ z=>nomatch z)
theorem Inv.flies {e C t:Addr}{h:Option Addr}{G:XK}(I:Inv X Ab σ H s)(i:X.ex=[])(u:s.heap.get? e=some (excObj C t h))(j:H e=none)(d:X.s₀.heap.objs.size<=e)(v:e∉frs X.stack)(g:G (.ref C) h H):XP X G (.ref e) s:=by
 have m:∀b,Kp X.outer H X.s₀.heap b->b∉e::frs X.stack:=λb k p=>by
  rcases B8.mp p with z|z
  ·rcases k with⟨o,q⟩|⟨⟨o,q⟩,_⟩
   ·rw[z,j] at q;cases q
   ·rw[z] at q;exact absurd (B5 q) (A89.mpr d)
  ·rcases k with⟨o,q⟩|⟨⟨o,q⟩,r⟩
   ·rw[I.stkFree b z] at q;cases q
   ·rcases B8.mp (I.stkSub b z) with z2|z2
    ·rw[z2] at q;exact absurd (B5 q) (A89.mpr I.ok.above)
    ·exact r z2
 have l:=I.base;rw[i] at l;refine⟨I.ok.frames,e,.ref C,h,H,A72 s.heap (e::frs X.stack),false,rfl,I.os,I.bare,⟨l,I.hok,⟨λb o q=>A29 _ q,A02 _ (by simp),?_,_,_,.none,u,rfl,rfl,rfl,rfl,.inl ⟨rfl,rfl⟩⟩,λb o q k=>A17 _ q (m b k),j,d⟩,g⟩
 exact PySem.W.funFrames_hide I.stack λf c a n=>A8 _ (X8.mpr ⟨f,c,n⟩)
end
def qbX (C:Addr)(sp:Sp)(G:XK)(t:TA):TS:=λ_ σ H=>t σ H λvs H1=>∀x,H1 x=none->sp (.ref x::vs) (Ag H1 x (ExcN x C none)) (λv H2=>v=.non/\∃dd H3,H2=Ag H3 x (ExcN x C dd)/\H3 x=none/\G (.ref C) dd H3) E0
theorem qVZ {G:XK}{k:Nat}{C f:Addr}{x:B22}{ps:List Str}{sp:Sp}{l:Str}{pn n pos:Pos}{a:Expr}{g:List Expr}{t:TA}(a2:X.ex=[])(hc:X.calm=true)(c:XCls X.K C (some (.ref f)))(hf:f9 X.K (.ref f)=true)
  (F:FnOk X.prog X.w X.K X.mg X.base CX0 k f x ps sp) (hr:Room (k+1) X.A) (hg:Gl X l) (hm:X.mg l=some (.ref C)) (hb:Binds X.K x ps []) (ha:PA X.nox (a::g) t) (a3:ps.length<=100)
  (a0:(l==("__debug__" : Str))=false:=by decide) (he:B17 (a::g) X.env=(false,eval a X.env)::B17 g X.env:=by rfl) (y:(backTo n (B17 g X.env)).any (·.1)=false:=by rfl):
  PS (X.wish (XP X G)) (.Raise (some (.Call (.Name l pn) (a::g) [] n)) none pos) (qbX C sp G t):=by
 intro Ab s σ H D I h;have I:=I.unwish;show wpAny (model X.prog X.w) X.A (exec (.Raise (some (.Call (.Name l pn) (a::g) [] n)) none pos) X.env) _ (XP X G) s;rw[arm_exec_Raise];refine B10 (B40 ?_);refine qe6 (K:=X.K) (I.ok.hd hc) c.cls ?_;refine B10 (B18 ?_ (λv s₁ hv=>B10 (B40 (B11 hv))) λ_ _ z=>z);refine B47 (qO1 I hg hm ?_ a0);refine i8 (h₀:=X.base) I.ok.mod.kin c.kp (B18 (ha n Ab s σ H _ (I.wish _) h) (λus s1 ⟨vs,H1,I1,r,q⟩=>⟨I1.unwish.kIn,?_⟩) λ_ _ z=>z.elim) he y;have I1:=I1.unwish;have hq:=q (s1.heap.objs.size+1) (I1.hok.fresh (V1 _));have j:((s1.heap.push (argObj us)).push (excObj C s1.heap.objs.size none)).get? (s1.heap.objs.size+1)=some (excObj C s1.heap.objs.size none):=by heap_get
 have I2:Inv X Ab σ (Ag H1 (s1.heap.objs.size+1) (ExcN (s1.heap.objs.size+1) C none)) {s1 with heap:=(s1.heap.push (argObj us)).push (excObj C s1.heap.objs.size none)}:=
  I1.laid (t':=s1.toks) (λb o e=>A5 _ (A5 _ e)) (V1 _) (qXT j)
 have r2:Vals (V.ref (s1.heap.objs.size+1)::vs) (C4 (s1.heap.objs.size+1)::us):=.cons rfl r;have hl:=F.len _ _ _ _ hq;have m:(C4 (s1.heap.objs.size+1)::us).length=ps.length:=by rw[<- r2.length];exact hl
 have a1:BindsTo {s1 with heap:=(s1.heap.push (argObj us)).push (excObj C s1.heap.objs.size none)} x ⟨C4 (s1.heap.objs.size+1)::us,[]⟩ (ps.zip (C4 (s1.heap.objs.size+1)::us)):=by
  have:=hb {s1 with heap:=(s1.heap.push (argObj us)).push (excObj C s1.heap.objs.size none)} (C4 (s1.heap.objs.size+1)::us) I2.kIn (by rw[K6];exact m)
  rw[K6] at this;exact this
 refine B70 (qgA (fI:=f) I1.kIn c.cls (beq_iff_eq.mp hf) ?_ (B46 (F.run _ X.stack _ _ ⟨C4 (s1.heap.objs.size+1)::us,[]⟩ (C4 (s1.heap.objs.size+1)::us) _ _ E0 (hr.make C us []) (I2.env0.make C us []) a1 r2 hq) λr s' d=>?_))
 ·rw[B24,d5];rw[C5] at m
  lia
 cases r with
 |error e=>exact L9 d
 |ok fl=>
  cases fl with
  |ret u=>
   obtain⟨v,H',p,rv,ev,dd,H3,e3,n3,g3⟩:=I2.after d;subst ev;subst e3;obtain⟨⟨t3,i⟩,_⟩:=p.hok _ _ qA1;refine⟨rv,s1.heap.objs.size+1,t3,dd,rfl,p.kIn,i,?_⟩;refine(p.untrack n3).flies a2 i n3 (E3 I1.sz (V1 _)) (λz=>?_) g3;have:=p.stkFree _ z;rw[qA1] at this;cases this
  |next=>exact L9 d
  |brk=>exact L9 d
  |cont=>exact L9 d
def qgQ (K:Ab1)(ta tv:TE)(f:Str)(C:Addr):TS:=λD σ H=>tv σ H λy H1=>ta σ H1 λx H2=>∃a dd,x=.ref a/\H2 a=some (ExcN a C dd)/\G1 K (.ref C) f=some none/\
 ((dd=none/\∀dx,H2 dx=none->dx≠a->D.nx σ (Ag (Ag H2 dx (XDic dx [(f,y)])) a (ExcN a C (some dx))))\/∃dx fs,dd=some dx/\dx≠a/\H2 dx=some (XDic dx fs)/\fs.length<1000/\D.nx σ (Ag H2 dx (XDic dx (putF f y fs))))
theorem qVY {C:Addr}{a3:Option Value}{o j:Expr}{f:Str}{pos a0:Pos}{ta tv:TE}(c:XCls X.K C a3)(ha:PE X o ta)(hv:PE X j tv)(hs:swapsWith j (some (.Attribute o f a0)) pos.line X.env=pure false:=by rfl):PS X (.Assign [.Attribute o f a0] j pos) (qgQ X.K ta tv f C):=by
 intro Ab s σ H D I h;refine plainObj_wpAny_Assign_Attribute (thn (hv Ab s σ H _ I h) λu s1 ⟨y,H1,I1,ry,q⟩=>thn (ha Ab s1 σ H1 _ I1 q) λov s2 ⟨x,H2,I2,rx,a,dd,ex,ea,hna,q2⟩=>?_) hs;subst ex;obtain rfl:ov=C4 a:=rx;obtain⟨⟨t,ht⟩,_⟩:=I2.hok _ _ ea;obtain⟨i,g2,d2,t2,a5⟩:=s2;rcases q2 with⟨rfl,q2⟩|⟨w,fs,rfl,a4,ed,hl,q2⟩
 ·refine xset (mA:=λ_=>none) (ns:=[]) I2.kIn c hna ⟨_,ht,rfl,(λ_ z=>nomatch z),.inl ⟨rfl,λ_=>rfl⟩⟩ Within.nil (by simp) λh' n i1 i2 i3=>?_
  obtain⟨o1,e1,e2,e3,e4,_,k⟩:=i3 _ ht;have k:=k rfl;obtain⟨o2,f1,f2,_,f4⟩:=i1;rw[e1] at f1;cases f1;have sz:a<i.objs.size:=B5 ht;have nd:i.objs.size≠a:=U8 sz;have v:h'.get? a=some (excObj C t (some i.objs.size)):=by
   rw[e1];obtain⟨c1,c2,c3,c4⟩:=o1;simp only at e2 e3 e4 k;rw[e2,e3,e4,k]
  have r:h'.Ns1 i.objs.size (λy=>if y=f then some u else none):=by
   rcases f4 with⟨z,_⟩|⟨d,z,_,hn⟩
   ·rw[k] at z;cases z
   ·rw[k] at z;cases z;exact hn
  have fr:H2 i.objs.size=none:=I2.hok.fresh (A7 _);have kp:∀b ob,b≠a->i.get? b=some ob->h'.get? b=some ob:=λb ob hb q=>i2 b ob hb (λo₀ w z1 z2=>by rw[ht] at z1;cases z1;cases z2) q
  refine⟨σ,_,?_,q2 i.objs.size fr nd⟩;have I3:Inv X Ab σ (Ag H2 a (ExcN a C (some i.objs.size))) ⟨h',g2,d2,n,a5⟩:=
   I2.write (h':=h') (t':=n) (x:=a) (e:=a) (o:=ExcN a C (some i.objs.size)) (by rw[ea];exact trivial) (.inl rfl) (λb ob hb q=>kp b ob hb q) ⟨_,v⟩ (qXT v)
  have na:(Ag H2 a (ExcN a C (some i.objs.size))) i.objs.size=none:=by rw[qA9 nd];exact fr
  have lt:∀ b ob,i.get? b=some ob->b ≠ i.objs.size:=fun b ob q=>D5 (B5 q);have I4:=I3.track (T:=i.objs.size) (o:=XDic i.objs.size [(f,y)]) na (E3 I2.sz (A7 _)) (fun z=>by
    obtain⟨m,⟨oL,_,_,hL,_⟩,_⟩:=I2.loc;exact lt _ _ hL z.symm) (λy' c' q z=>by
    obtain⟨v',oc,q3,_⟩:=I2.cell y' c' q;exact lt _ _ q3 z) (λp hp z=>lt _ _ (I2.pin p hp).1 z) (qVA r (λg=>?_) (λg hg=>?_))
  ·have ec:Ag (Ag H2 a (ExcN a C (some i.objs.size))) i.objs.size (XDic i.objs.size [(f,y)])=Ag (Ag H2 i.objs.size (XDic i.objs.size [(f,y)])) a (ExcN a C (some i.objs.size)):=by
    funext b
    unfold Ag;by_cases a1:b=i.objs.size
    ·subst a1;simp[nd]
    ·by_cases l:b=a
     ·simp[a1,l,nd.symm]
     ·simp[a1,l]
   rw[<- ec];exact I4
  ·rw[U4];by_cases q:g=f
   ·subst q;simp;exact ry
   ·rw[if_neg q,show(g==f)=false from beq_eq_false_iff_ne.mpr q];trivial
  ·by_cases q:g=f
   ·subst q;simp
   ·exact absurd (if_neg q) hg
 ·obtain⟨⟨mA,hm,hr,a2⟩,_⟩:=I2.hok _ _ ed;refine xset (mA:=mA) (ns:=fs.map (·.1)) I2.kIn c hna ⟨_,ht,rfl,(λ_ z=>nomatch z),.inr ⟨w,rfl,a4,hm⟩⟩ a2 (by rw[A0];lia) λh' n i1 i2 i3=>?_
  obtain⟨o1,e1,e2,e3,e4,k,_⟩:=i3 _ ht;have k:=k w rfl;obtain⟨o2,f1,f2,_,f4⟩:=i1;rw[e1] at f1;cases f1;have v:h'.get? a=some (excObj C t (some w)):=by
   rw[e1];obtain⟨c1,c2,c3,c4⟩:=o1;simp only at e2 e3 e4 k;rw[e2,e3,e4,k]
  have r:h'.Ns1 w (λy=>if y=f then some u else mA y):=by
   rcases f4 with⟨z,_⟩|⟨d,z,_,hn⟩
   ·rw[k] at z;cases z
   ·rw[k] at z;cases z;exact hn
  refine⟨σ,_,?_,q2⟩;refine I2.write (h':=h') (t':=n) (x:=w) (e:=w) (o:=XDic w (putF f y fs)) (by rw[ed];exact trivial) (.inl rfl) (λb ob hb q=>?_) ?_ (qVA r (λg=>?_) λg hg=>?_)
  ·by_cases l:b=a
   ·rw[l] at q ⊢;rw[ht] at q;cases q;exact v
   ·exact i2 b ob l (λo₀ a6 z1 z2=>by rw[ht] at z1;cases z1;cases z2;exact hb) q
  ·obtain⟨o,_,_,ho,_⟩:=r;exact⟨o,ho⟩
  ·show RelO ((putF f y fs).lookup g) (if g=f then some u else mA g)
   rw[qKX];by_cases q:g=f
   ·rw[if_pos q,if_pos q];exact ry
   ·rw[if_neg q,if_neg q];exact hr g
  ·by_cases q:g=f
   ·rw[q];exact(qL2 f y fs).1
   ·refine(qL2 f y fs).2 g (a2 g λz=>hg ?_);show(if g=f then some u else mA g)=none
    rw[if_neg q];exact z
structure XGet (K:Ab1)(C:Addr):Prop where
 ga:G1 K (.ref C) "__getattribute__" = some (some (.builtin "BaseException.__getattribute__"))
 gt:G1 K (.ref C) "__getattr__" = some none
 be:A31 K C (.type "BaseException")=some true
 hd:A44 K C=true
structure XTy (K:Ab1)(C:Addr):Prop extends XGet K C where
 ca:G1 K (.ref C) "__class__" = some (some (.builtin "object.__class__"))
 cn:l8 K (.builtin "object.__class__") "__get__" = some (some (.builtin "getset_descriptor.__get__"))
 ct:A74 K (.builtin "object.__class__")=some true
 cm:A31 K C (.type "object")=some true
theorem qRB:∀{cs:List Addr} {its:List Value},Vals (cs.map V.ref) its->its=cs.map C4
 |[],_,.nil=>rfl
 |a::l,_,.cons r t=>by
  cases(show _=C4 a from r);rw[qRB t]
  rfl
structure RoomH (k:Nat)(A:Around):Prop where
 dp:A.depth+3*k+5<recursionLimit
 un:A.units+16*k+200<cLine
structure FnOkH (P:B13)(w:World)(K:Ab1)(mg:Ab0)(base:Heap)(CX:CXT)(k:Nat)(f:Addr)(fd:B22)(ps:List Str)(sp:Sp):Prop where
 len:∀vs H Q E,sp vs H Q E->vs.length=ps.length
 run:∀(A:Around) (outer:List Env) (s:Shared) (H:Hp) (args:Args) (us:List Value) (vs:List V) (Q:VK) (E:XK),RoomH k A->Env0 P w K mg base A outer s H->BindsTo s fd args (ps.zip us)->Vals vs us->sp vs H Q E->
  B43 (model P w) A (.call (.ref f) args) (CR CX outer P w H s Q E) s
structure LcScopeO (X:Cx)(scope:Scope)(own:List Str)(fv:List Nat):Prop where
 kind:scope.kind=.function
 names:∀y∈scope.names,y.2=.local->scope.names.lookup y.1=some .local
 cells:∀y∈scope.names,y.2=.cell->scope.names.lookup y.1=some .cell
 frees:∀y∈scope.names,y.2=.free->scope.names.lookup y.1=some .free
 free:∀y∈scope.names,y.2=.free->X.env.kindOf y.1=some .cell\/X.env.kindOf y.1=some .free
 nd:(own++fv.map λi=>X.N.getD i P2).Nodup
 fvs:∀i∈fv,i<X.N.length/\scope.names.lookup (X.N.getD i P2)=some .free
 owns:∀x∈own,scope.names.lookup x=some .local\/scope.names.lookup x=some .cell
theorem qcT:OpR X (B42 .Add) (λx y H Q=>∃a b xs ys,x=.ref a/\y=.ref b/\H a=some (.tup xs)/\H b=some (.tup ys)/\xs.length+ys.length<=B12/\∀p H',Same H H'->H' p=some (.tup (xs++ys))->Q (.ref p) H'):=by
 intro Ab s σ H x y v u Q I t r h;obtain⟨a,b,xs,ys,rfl,rfl,j,m,hz,q⟩:=h;by_cases hx:xs=[]
 ·subst hx;cases t;cases r;obtain⟨a1,r1,p1,_⟩:=I.tuple (Ac0 j);obtain⟨f,r2,p2,_⟩:=I.tuple (Ac0 m);cases r1;obtain⟨⟨a2,dd,a0,sl⟩,z,o,n,hd⟩:=id p1;obtain⟨⟨w,k,l,i⟩,d,c,n2,g⟩:=id p2;simp only at o hd c g;subst o hd c g;exact concat_meets ⟨_,z,rfl⟩ ⟨_,d,rfl⟩ B78 seq_tuple_add U7 U0 (S6 _ _) (tuple_addW0 a b #[] f.toArray n n2 dd k sl i rfl) ⟨z,d,.ref b,H,I,rfl,q b H (λ_ _ e=>e) m⟩
 ·exact qcU Ab s σ H (.ref a) (.ref b) v u Q I t r ⟨a,b,xs,ys,rfl,rfl,Ac0 j,Ac0 m,.inl ⟨hx,j⟩,hz,q⟩
theorem qg0:B19 "any" = some (.builtin "any"):=by decide +kernel
theorem qU9 (d:List Bool):((C3 d.length).any λi=>(d[i]?).getD false)=d.any id:=by
 rw[G6,X2,X2]
 constructor
 ·rintro⟨i,c,h⟩;have a:=E2.mp c;rw[A4 a] at h;exact⟨_,a9 a,h⟩
 ·rintro⟨b,f,h⟩;obtain⟨i,c,e⟩:=L8 f;exact⟨i,E2.mpr c,by rw[A4 c,e];exact h⟩
theorem qaP (t:X.calm=true):qDX X (.builtin "any") (λxs H Q=>∃(p:Addr) (bs:List Bool),xs=[.ref p]/\SqL X.K H p (bs.map V.bl)/\Q (.bl (bs.any id)) H):=by
 intro Ab s σ H xs us Q I r h;obtain⟨p,bs,rfl,hq,q⟩:=h;obtain⟨u,rfl,w⟩:=qFF r;cases w;obtain⟨c,m,z,hz⟩:=I.list hq;have g:=z.isList;have j:p<s.heap.objs.size:=by obtain⟨_,e,_⟩:=g;exact B5 e
 have a:=m.length;rw[A0] at a;refine call_any_walk (B37 g ?_);refine⟨s.heap.objs.size,[s.heap.objs.size,p],[s.heap.objs.size],c.toArray.size,_,_,λi=>(bs[i]?).getD false,rfl,A88 (A:=X.A.in1) (I.ok.hd t) _ p (D5 j) c.toArray,
  ⟨⟨_,B3 _ rfl,rfl,rfl⟩,g.push _⟩,λi v s' Q' E' n f=>?_,λh' tk y=>?_⟩
 ·have d:c[i]?=some v:=by simpa using n
  have l:i<bs.length:=by rw[a];exact(A3.mp d).1
  obtain⟨u,k,ru⟩:=m.get (i:=i) (x:=.bl bs[i]) (by rw[B6,A4 l];rfl)
  rw[d] at k;cases k;cases ru;dsimp only at f;rw[A4 l,Q9] at f;exact B28 f
 ·have e:((C3 c.toArray.size).any λi=>(bs[i]?).getD false)=bs.any id:=by
   rw[C1,<- a];exact qU9 bs
  refine⟨.bl (bs.any id),H,I.kept λb x e=>y b x (λo=>by rw[A6.mp o] at e;exact P7 _ (B5 e)) (A5 _ e),?_,q⟩
  rw[e]
  rfl
def BareT (H:Hp) (a:Addr) (xs:List V):Prop:=∃o:Obj,H a=some (.frz o (.tup xs))/\o.cls=.type "tuple"/\o.dict=none
theorem BareT.sq {K:Ab1}{H:Hp}{a:Addr}{xs:List V}(h:BareT H a xs):SqT K H a xs:=by
 obtain⟨o,h,_⟩:=h;exact .inl (.inr ⟨o,h⟩)
theorem BareT.same {H H':Hp}{a:Addr}{xs:List V}(h:BareT H a xs)(s:∀b o,H b=some o->H' b=some o):BareT H' a xs:=by
 obtain⟨o,d,c⟩:=h;exact⟨o,s _ _ d,c⟩
theorem qLM:qDX X (.type "tuple") (λxs H Q=>∃p ys,xs=[.ref p]/\SqL X.K H p ys/\∀l o,H l=none->o.cls=.type "tuple"->o.dict=none->Q (.ref l) (Ag H l (.frz o (.tup ys)))):=by
 intro i s σ H xs x Q I r h;obtain⟨p,ys,rfl,v,q⟩:=h;obtain⟨u,rfl,k⟩:=qFF r;cases k;obtain⟨a,d,n,t⟩:=I.list v;have f:=d.length;refine call_tuple_list n.isList (λc m=>?_) (by simp only[C1]<;>lia)
 have g:Inv X i σ H {s with heap:=c}:=I.kept (t':=s.toks) m;have j:Inv X i σ (Ag H c.objs.size (.frz {cls:=.type "tuple",data:=.seq a.toArray} (.tup ys))) {s with heap:=c.push {cls:=.type "tuple",data:=.seq a.toArray}}:=
  g.laid (t':=s.toks) (λb o e=>A5 _ e) (A7 _) ⟨B3 _ rfl,show ObjOk X.prog X.w _ _ _ (.tup ys) from⟨t,a,d,IsTup.new _ _⟩⟩
 exact⟨.ref c.objs.size,_,j,rfl,q _ _ (g.hok.fresh (A7 _)) rfl rfl⟩
theorem qQF (hc:X.calm=true):qDX X (.builtin "sorted") (fun xs H Q=>∃ p ns Af,xs=[.ref p]/\H p=some (.dK Af)/\Af.map (·.1)=ns.map E8/\ns.length<64/\
  ∀(a:Addr) (zs:List Int),H a=none->zs.Perm ns->zs.Pairwise (·<=·)->Q (.ref a) (Ag H a (.lst (zs.map V.int)))):=by
 intro Ab s σ H xs us Q I r h;obtain ⟨p,ns,Af,rfl,hq,hk,a0,q⟩:=h;obtain ⟨u,rfl,rx⟩:=qFF r;cases rx;refine W6 kind_sorted plain_sorted entry_sorted (args_sorted1 _) ?_;unfold Builtin.«sorted»;refine B10 (m:=checkCount "sorted" 1 1 _) (B11 ?_);have c:∀ (s1:Shared) (vs:List Value),Inv X Ab σ H s1->B20 vs ns->wpAny (model X.prog X.w) X.A.in1 (do
   let l <- newList vs
   let _ <- B60 [l] (call (.builtin "list.sort") [l] [])
   ret l) (λc s'=>∃r,c=.done (.ret r)/\EP X Ab σ Q r s') X.xe s1:=by
  intro s1 vs I1 o;have g:=IntsAre.length o;have y:ns.length<=B12:=by rw[B24];lia
  refine B10 (wpAny_newList ?_ (by rw[g];exact y))
  have hf:=I1.hok.fresh (A7 s1.heap.objs.size);refine B10 (B25 (B18 (qSQ (E:=X.xe) (vs:=vs) (qMS I1 o y) hf a0 λz a b=>q _ z hf a b) (λ_ s' x=>?_) λ_ _ e=>e));exact B11 ⟨_,rfl,x⟩
 obtain⟨y,hd,vs,f,dd⟩:=qaL I.hok hq;obtain⟨ep,da⟩:=dd.dictAt;have lv:vs.length=Af.length:=f.length.symm;have ln:ns.length=Af.length:=by
  have:=congrArg R7 hk;simpa using this.symm
 refine B10 (d7 (A:=X.A.in1) (A64 (ep:=ep) hd) (I.ok.hd hc) da (by rw[lv];exact y) λh' tk a1 kept d=>?_)
 refine c _ _ (I.kept (t':=tk) kept) ?_;obtain⟨l1,l2⟩:=d;refine qRQ (by rw[E6,l1,lv,ln]) λi v o=>?_
 obtain⟨k,x,e1,e2⟩:=l2 i v (by rw[<- F6];exact o)
 have j:(Af.map (·.1))[i]?=some k:=by rw[qX5 f,B6,e1];rfl
 rw[hk,B6] at j;cases en:ns[i]? with
 |none=>rw[en] at j;cases j
 |some n=>
  rw[en] at j;cases j;obtain⟨t,e3⟩:=l6 (k:=n) (v:=v) e2;exact⟨n,t,rfl,e3⟩
theorem qRP {A:Around}{s:Shared}{Ab:Aa2}{σ:St}{H:Hp}(I:Inv X Ab σ H s)(j:A.units<cLine){a b:Addr}{zs:List Int}(h:SqT X.K H a (zs.map V.int))(m:SqT X.K H b (zs.map V.int)):SeqAt.EqAt A s (.ref a) (.ref b) true:=by
 by_cases e:a=b
 ·rw[e];exact w5 _
 ·obtain⟨f,g,k,o⟩:=I.tuple h;obtain⟨c,d,n,p⟩:=I.tuple m;refine A40 e ?_;have:=A50 (A:=A) (s:=s) (e:=λ_=>true) k n j (qd9 g d);have i:(C3 (min f.toArray.size c.toArray.size)).all (λ_=>true)=true:=by simp
  have l:(f.toArray.size==c.toArray.size)=true:=by simp[<- g.length,<- d.length]
  rw[i,l] at this;exact this
theorem qK5:∀(as:List Addr),Vals (as.map V.ref) (as.map C4)
 |[]=>.nil
 |_::as=>.cons rfl (qK5 as)
def TB:Type:=(St->XK)->TS
variable{X:Cx}{tg:Expr}
def tFrz (t:TE):TE:=λσ H Q=>t σ H λv H1=>∃d Af,v=.ref d/\H1 d=some (.dK Af)/\∀o,Q v (Ag H1 d (.frz o (.dK Af)))
theorem Inv.freeze {Ab:Aa2}{σ:St}{H:Hp}{s:Shared}{d:Addr}{Af:List (Key×V)}(I:Inv X Ab σ H s)(h:H d=some (.dK Af)):∃o,Inv X Ab σ (Ag H d (.frz o (.dK Af))) s:=by
 have c:=I.hok d _ h;obtain⟨l,i,j,f,o,g,k,a,r⟩:=id c;refine⟨o,?_⟩;have:=I.write (h':=s.heap) (t':=s.toks) (x:=d) (e:=d) (o:=.frz o (.dK Af)) (by rw[h];trivial) (.inl rfl) (λb u _ q=>q) ⟨o,a⟩ ⟨a,c⟩
 exact this
theorem qf6 {e:Expr}{t:TE}(f:PE X e t):PE X e (tFrz t):=by
 intro b s σ H Q I h;refine thn (f b s σ H _ I h) λv s1 ⟨x,H1,I1,r1,d,Af,e,hd,q⟩=>?_;obtain⟨o,c⟩:=I1.freeze hd;exact⟨x,_,c,r1,q o⟩
noncomputable def Itk (a:Addr)(o:Obj)(Af:List (Key×V)):It:=
 ⟨λi H=>i<Af.length/\H a=some (.frz o (.dK Af)),λi H x g=>g=H/\∃k v,Af[i]?=some (k,v)/\x=kV k,λi H=>Af.length<=i/\H a=some (.frz o (.dK Af))⟩
theorem qZ6 {k:Key}{v:Value}(h:qRN k v=true):RelV (kV k) v:=by
 rcases qBD h with⟨i,t,rfl,rfl⟩|⟨x,t,rfl,rfl⟩
 ·exact⟨t,rfl⟩
 ·exact⟨t,rfl⟩
theorem Inv.heldD {Ab:Aa2}{σ:St}{H:Hp}{s:Shared}{d:Addr}{o:Obj}{Af:List (Key×V)}(I:Inv X Ab σ H s)(h:H d=some (.frz o (.dK Af))):s.heap.get? d=some o/\(d==B32)=false/\∃vs ep,KV Af vs/\s.heap.DictAt (qBQ X.prog X.w) d vs ep/\(∃es,o.data=.dict es ep):=by
 obtain⟨e,l,i,vs,c,g⟩:=(show ObjOk X.prog X.w H s.heap d (.frz o (.dK Af)) from I.hok d _ h);obtain⟨ep,f⟩:=g.dictAt;obtain⟨j,es,a,k,b,r⟩:=id f;rw[e] at a;cases a;exact⟨e,i,vs,ep,c,f,es,b⟩
theorem qU4 {P:B13}{w:World}{K:Ab1}{tg:Expr}(a l:Addr)(o:Obj)(Af:List (Key×V))(ep:Nat)(es:_)(ho:o.data=.dict es ep):Turn P w K tg (Itk a o Af) [l] l (λi h=>h.IsKeyIter l a i Af.length ep) where
 mem:=by simp
 obj:=λi h f b m=>by
  have e:b=l:=by simpa using m
  subst e;obtain⟨o,e,c,d⟩:=f;exact⟨o,e,λv z=>by rw[d] at z;cases z⟩
 keep:=λi h h' f k=>f.at λo e=>k l (by simp) o e
 item:=by
  intro X hP hw hK hc i Ab s σ H E I u f hg;subst hP hw hK;obtain⟨hi,hq⟩:=hg;obtain⟨e1,e2,n,a0,j,da,a3,r⟩:=I.heldD hq;rw[ho] at r;cases r;obtain⟨f0,f1,f2,f3,f4,f5⟩:=u l (by simp)
  have y:n.length=Af.length:=j.length.symm;rw[<- y] at f;obtain⟨⟨k,x⟩,hx⟩:∃p,n[i]?=some p:=⟨n[i]'(by lia),A4 (by lia)⟩
  obtain⟨⟨k',v'⟩,t⟩:∃p,Af[i]?=some p:=⟨Af[i],A4 hi⟩;have ek:k'=k:=by
   have h1:(Af.map (·.1))[i]?=some k':=by rw[B6,t];rfl
   have h2:(n.map (·.1))[i]?=some k:=by rw[B6,hx];rfl
   rw[j.keys,h2] at h1;cases h1
   rfl
  refine wpAny_pyNext_dict_item f da hx λa2 h' q g a1=>?_;have I1:Inv X Ab σ H {s with heap:=h'}:=I.turned (t':=s.toks) (λb o m e=>(a1.2 b m).trans e) f0 f1 f3 f4 f5;rw[y] at g;obtain⟨oi,ei,c,d⟩:=id g;exact⟨a2,rfl,qRT (s:={s with heap:=h'}) ei c d (by decide) ⟨kV k,H,I1,qZ6 q,⟨rfl,k',v',t,by rw[ek]⟩,g,λb m=>(u b m).1⟩⟩
 done:=by
  intro X hP hw hK hc i Ab s σ H E I u f hg;subst hP hw hK;obtain⟨hi,hq⟩:=hg;obtain⟨e1,e2,n,a0,j,da,a3,r⟩:=I.heldD hq;rw[ho] at r;cases r;obtain⟨f0,f1,f2,f3,f4,f5⟩:=u l (by simp)
  have y:n.length=Af.length:=j.length.symm;rw[<- y] at f;exact wpAny_pyNext_dict_end (I.ok.hd hc) f da (by simp;lia) λh' eb=>⟨rfl,I.turned (t':=s.toks) (λb o m e=>eb b o m e) f0 f1 f3 f4 f5⟩
 self:=λ_ _ _ _ _ f h=>B88 f h
def qfS (tl:TE):TI:=λσ H R=>tl σ H λx H1=>∃a o Af,x=.ref a/\H1 a=some (.frz o (.dK Af))/\R (Itk a o Af) H1
theorem qZE {l:Expr}{f:TE}(g:PE X l f):PI X tg l (qfS f):=by
 intro r s σ H R I h;refine thn (g r s σ H _ I h) λv s1 ⟨x,H1,I1,r1,q1⟩=>?_;obtain⟨a,o,d,e,t,q⟩:=q1;subst e;cases r1;obtain⟨y,w,n,p,c,u,i,k⟩:=I1.heldD t;have j:n.length=d.length:=c.length.symm;refine wpAny_pyIter_dict w u ?_;refine⟨s1.heap.objs.size,[s1.heap.objs.size],_,_,H1,rfl,I1.kept (t':=s1.toks) λb o e=>A5 _ e,qU4 a _ o d p i k,⟨_,B3 _ rfl,rfl,by rw[j];rfl⟩,λb m=>?_,q⟩
 have e:b=s1.heap.objs.size:=by simpa using m
 subst e;exact I1.fpOk (A7 _) (I1.hok.fresh (A7 _))
theorem qZU {a:Addr}{o:Obj}{Af:List (Key×V)}{g:TG}{f:TT}{d:TE}{Kf:Hp->Prop}{σ0:St}{H0:Hp}{p:Addr}(Pv:Nat->St->Hp->Prop)(u:Pv 0 σ0 H0)(j:∀i σ H,i<=Af.length->Pv i σ H->H a=some (.frz o (.dK Af)))
  (l:∀i k v σ H,Af[i]?=some (k,v)->Pv i σ H->g (kV k) σ H λσ2 H2=>f σ2 H2 λb H3=>if b=true then d σ2 H3 λy H4=>∃ys,H4 p=some (.lst ys)/\ys.length<B12/\Pv (i+1) σ2 (Ag H4 p (.lst (ys++[y]))) else Pv (i+1) σ2 H3)
  (n:∀σ H,Pv Af.length σ H->Kf H):
  LcG (Itk a o Af) g f d Kf σ0 H0 p:=by
 refine⟨λi m σ H=>m=Af.length-i/\i<=Af.length/\Pv i σ H,⟨Af.length,by simp,E7 _,u⟩,?_⟩
 rintro i m σ H ⟨rfl,hi,q⟩;have h:=j i σ H hi q;by_cases c:i<Af.length
 ·refine .inr ⟨⟨c,h⟩,Pv (i+1),λσ' s t=>⟨Af.length-(i+1),by lia,rfl,c,t⟩,λx s y=>?_⟩
  obtain⟨e,k,v,w,r⟩:=y;subst e r;exact l i k v σ _ w q
 ·have e:i=Af.length:=by lia
  subst e;exact .inl ⟨⟨A7 _,h⟩,n σ H q⟩
noncomputable def qUF:Expr->Option (Int×Int)
 |.Tuple [.Constant (.int a) _ _,.Constant (.int b) _ _] _ _=>some (a,b)
 |_=>none
noncomputable def qPL:List Expr->Option (List (Int×Int))
 |[]=>some []
 |e::es=>match qUF e,qPL es with|some q,some qs=>some (q::qs)|_,_=>none
noncomputable def qWF:Expr->Option (List (Int×Int))
 |.List es _=>qPL es
 |_=>none
abbrev PrL (H:Hp):List Addr->List (Int×Int)->Prop:=Paired λr (q:Int×Int)=>H r=some (.tup [.int q.1,.int q.2])
def tPs (qs:List (Int×Int)):TA:=λσ H Q=>∀(ts:List Addr) (H':Hp),(∀b o,H b=some o->H' b=some o)->PrL H' ts qs->Q (ts.map V.ref) H'
def tPrL (qs:List (Int×Int)):TE:=λσ H Q=>∀(l:Addr) (ts:List Addr) (H':Hp),(∀b o,H b=some o->H' b=some o)->H l=none->H' l=some (.lst (ts.map V.ref))->PrL H' ts qs->Q (.ref l) H'
theorem qcO {X:Cx}{e:Expr}{q:Int×Int}(h:qUF e=some q):PE X e (tTup (qLU (tC (.int q.1)) (qLU (tC (.int q.2)) tNil))):=by
 unfold qUF at h
 split at h
 ·cases h;exact qAT (qA0 qA8 (qA0 qA8 qA2))
 ·cases h
theorem qWG {X:Cx}{e:Expr}{a:List Expr}{q:Int×Int}(h:qUF e=some q):B17 (e::a) X.env=(false,eval e X.env)::B17 a X.env:=by
 unfold qUF at h
 split at h
 ·rfl
 ·cases h
theorem qT4 {X:Cx}:∀{es:List Expr} {qs:List (Int×Int)},qPL es=some qs->PA X es (tPs qs)
 |[],qs,h=>by
  cases h;intro pos Ab s σ H Q I hq;exact qA2 pos Ab s σ H Q I (hq [] H (λ_ _ z=>z) .nil)
 |e::es,qs,h=>by
  unfold qPL at h;cases e1:qUF e with
  |none=>rw[e1] at h;cases h
  |some q=>
   cases e2:qPL es with
   |none=>rw[e1,e2] at h;cases h
   |some qs'=>
    rw[e1,e2] at h;cases h;intro pos Ab s σ H Q I hq;refine qA0 (qcO e1) (qT4 e2) (qWG e1) pos Ab s σ H Q I ?_;refine⟨by show 2<=B12;decide,λp hp=>?_⟩
    intro ts H' k P;have k0:∀b o,H b=some o->(Ag H p (.tup [.int q.1,.int q.2])) b=some o:=λb o z=>by rw[qA9 (qA6 z hp)];exact z
    exact hq (p::ts) H' (λb o z=>k b o (k0 b o z)) (.cons (k p _ qA1) P)
theorem qZH {X:Cx}{e:Expr}{c:List (Int×Int)}(h:qWF e=some c)(n:c.length<=1000):PE X e (tPrL c):=by
 unfold qWF at h
 split at h
 ·intro j s σ H Q I m;refine qFN (qT4 h) j s σ H Q I ?_;intro d f k P;have i:d.length=c.length:=C6 P;refine⟨by rw[A0,i,B24];lia,λl a=>?_⟩
  have g:∀b o,f b=some o->(Ag f l (.lst (d.map V.ref))) b=some o:=λb o z=>by rw[qA9 (qA6 z a)];exact z
  refine m l d _ (λb o z=>g b o (k b o z)) ?_ qA1 (Paired.mapP P λr q e=>g _ _ e);cases e:H l with
  |none=>rfl
  |some o=>rw[k l o e] at a;cases a
 ·cases h
noncomputable def qdV:Stmt->Expr
 |.Assign _ (.Subscript l _ _) _=>l
 |_=>.Name "" ⟨0,0,0,0⟩
section
variable{prog:B13}{w:World}{A:Around}{E:Aa1}{s:Shared}{it d:Addr}{i n ep:Nat}{od:Obj}{es:Array DictEntry}
theorem qQC {Q:Aa1} (a:s.TypeIs (.ref d) "dict") (f:(d==B32)=false) (b:s.heap.get? d=some od) (c:od.data=.dict es ep)
  (e:Q (.ref s.heap.objs.size) {s with heap:=s.heap.push {cls:=.type "dict_keyiterator",data:=.fields #[.ref d,rawInt 0,rawInt es.size,rawInt ep]}}):wpAny (model prog w) A (pyIter (.ref d)) Q E s:=by
 apply wpAny_pyIter_slot a A65;refine B27 A65 a F.entry_dict_iter ?go (F.args_dict_iter_1 (.ref d));unfold Builtin.«dict.__iter__»;apply B10;unfold Builtin.Dict.dictSlotNone;apply B10;apply wpAny_notOrdered_dict a;apply B11;apply B10;apply B11;apply B10;unfold Builtin.Dict.showsAll;rw[f];apply B11;apply B10;apply wpAny_dictEntries b c;apply B10;apply wpAny_dictEpoch b c;apply B10;refine B21 ?made;apply B11;exact⟨_,rfl,"dict_keyiterator",_,⟨_,B3 _ rfl,rfl⟩,M4.lookup,e⟩
def qV8 (h:Heap) (it d:Addr) (i n ep:Nat):Prop:=h.get? it=some {cls:=.type "dict_keyiterator",data:=.fields #[.ref d,rawInt i,rawInt n,rawInt ep]}
theorem qQD {Q:Option Value->Shared->Prop}(a:qV8 s.heap it d i es.size ep)(g:s.heap.get? d=some od)(h:od.data=.dict es ep)(hi:i<es.size)
  (j:∀h',qV8 h' it d (i+1) es.size ep->Heap.SameBut it s.heap h'->Q (some es[i].key) {s with heap:=h'}):wpAny (model prog w) A (pyNext (.ref it)) Q E s:=by
 have c:s.TypeIs (.ref it) "dict_keyiterator":=⟨_,a,rfl⟩;unfold pyNext;apply B10;apply B77;apply wpAny_callSpecial?_slot (name:=C0 "__next__") c M4;refine B27 M4 c b9 ?go (a8 (.ref it));apply B10;apply B11;apply B10;apply B10;apply B10
 first|apply B41 c|apply B52 c
 apply B11;apply B10;refine wpAny_fieldsOf a rfl ?fs;have e:d0 "dict_keyiterator" = false:=by decide
 have k:((C4 d==L4)=true)->False:=λz=>by cases z
 simp only[e,M6,if_false];show wpAny _ _ (if(C4 d==L4)=true then _ else _) _ _ s
 rw[if_neg k];apply B10;apply B11;apply B10;apply wpAny_dictEntries g h;rw[if_neg (by simp)]
 apply B10;apply B11;apply B10;apply wpAny_dictEpoch g h;rw[if_neg (by simp)]
 apply B11;have f:¬((i:Int)<0):=Int.not_lt.mpr (A41 i);simp only[f,if_false,D7,C8 hi];apply B10;apply B10
 first|apply B41 c|apply B52 c
 apply B11;apply B10;apply wpAny_isOneOf_keyiter c;show wpAny _ _ (setField (.ref it) 1 (rawInt ((i:Int)+1)) >>= _) _ _ s;apply B10;refine B33 a rfl (by show 1<4;decide) ?set
 have b:qV8 (s.heap.update it (P9 (·.setIfInBounds 1 (rawInt ((i:Int)+1))))) it d (i+1) es.size ep:=F7 _ a rfl;apply B10;apply B25;apply B10;refine wpAny_isOneOf_keyiter (s:={s with heap:=s.heap.update it (P9 (·.setIfInBounds 1 (rawInt ((i:Int)+1))))}) ⟨_,b,rfl⟩ ?one;apply B11;apply B11;exact⟨_,rfl,B11 (j _ b (X5 ..))⟩
theorem qTL {Q:Option Value->Shared->Prop}(l:A.handled=none)(c:qV8 s.heap it d i es.size ep)(hi:es.size<=i)(j:s.heap.get? d=some od)(k:od.data=.dict es ep)
  (n:∀h',Heap.ExtBut it s.heap h'->Q none {s with heap:=h'}):wpAny (model prog w) A (pyNext (.ref it)) Q E s:=by
 have f:s.TypeIs (.ref it) "dict_keyiterator":=⟨_,c,rfl⟩;unfold pyNext;apply B10;apply B77;apply wpAny_callSpecial?_slot (name:=C0 "__next__") f M4;refine B27 M4 f b9 ?go (a8 (.ref it));apply B10;apply B11;apply B10;apply B10;apply B10
 first|apply B41 f|apply B52 f
 apply B11;apply B10;refine wpAny_fieldsOf c rfl ?fs;have g:d0 "dict_keyiterator" = false:=by decide
 have p:((C4 d==L4)=true)->False:=λz=>by cases z
 simp only[g,M6,if_false];show wpAny _ _ (if(C4 d==L4)=true then _ else _) _ _ s
 rw[if_neg p];apply B10;apply B11;apply B10;apply wpAny_dictEntries j k;rw[if_neg (by simp)]
 apply B10;apply B11;apply B10;apply wpAny_dictEpoch j k;rw[if_neg (by simp)]
 apply B11;have h:¬((i:Int)<0):=Int.not_lt.mpr (A41 _);simp only[h,if_false,D7,Array.getElem?_eq_none hi];apply B10;apply B10
 first|apply B41 f|apply B52 f
 apply B11;show wpAny _ _ (setField (.ref it) 0 .none >>= _) _ _ s;apply B10;refine B33 c rfl (by show 0<4;decide) ?set
 have q:Heap.ExtBut it s.heap (s.heap.update it (P9 (·.setIfInBounds 0 L4))):=λb o r e=>(D3 _ _ (J6 r)).trans e;show wpAny _ _ (newExc (.type "StopIteration") [] >>= _) _ _ _;apply B10;simp only[newExc,newTuple];apply B10;refine B21 ?t1 (by size_fits)
 refine B10 (m:=B61 _ _) (B65 (a:=L4) (by first|rfl|(simp only[B61];rfl)) ?t2)
 refine B21 ?t3 (by size_fits)
 simp only[raiseNew];apply B10;apply wpAny_handled;rw[show A.in1.handled=none from l]
 first|apply wpAny_throw|(apply B10;apply B11;apply wpAny_throw)
 apply B10;refine wpAny_isInstance (T:="StopIteration") (b:=true) ⟨_,B3 _ rfl,rfl⟩ isSubtype_stop ?t4;exact B11 (n _ ((q.push _).push _))
end
def qgJ (t:TE):TE:=λσ H Q=>t σ H λv H1=>∃d Af,v=.ref d/\H1 d=some (.dT Af)/\∀o,Q v (Ag H1 d (.frz o (.dT Af)))
theorem Inv.freezeT {Ab:Aa2}{σ:St}{H:Hp}{s:Shared}{d:Addr}{Af:List (List Key×V)}(I:Inv X Ab σ H s)(h:H d=some (.dT Af)):∃o,Inv X Ab σ (Ag H d (.frz o (.dT Af))) s:=by
 have c:=I.hok d _ h;obtain⟨m,j,g,f,o,i,k,a,r⟩:=id c;refine⟨o,I.write (h':=s.heap) (t':=s.toks) (x:=d) (e:=d) (o:=.frz o (.dT Af)) (by rw[h];trivial) (.inl rfl) (λb u _ q=>q) ⟨o,a⟩ ⟨a,?_⟩⟩
 refine(show ObjOk X.prog X.w H s.heap d (.dT Af) from c).stay (λb u _ q=>q) (λb q=>?_) (λb l q=>?_) λb t q=>?_
 ·rw[qA9 (qC1 q h (by intro z;cases z))];exact q
 ·rw[qA9 (qC1 q h (by intro z;cases z))];exact q
 ·rw[qA9 (qC1 q h (by intro z;cases z))];exact q
theorem qWB {e:Expr}{t:TE}(c:PE X e t):PE X e (qgJ t):=by
 intro a s σ H Q I h;refine thn (c a s σ H _ I h) λv s1 ⟨x,H1,I1,r1,d,Af,e,hd,q⟩=>?_;obtain⟨o,b⟩:=I1.freezeT hd;exact⟨x,_,b,r1,q o⟩
def ItT (a:Addr)(o:Obj)(Af:List (List Key×V)):It:=
 ⟨λi H=>i<Af.length/\H a=some (.frz o (.dT Af)),λi H x H'=>H'=H/\∃k v r,Af[i]?=some (k,v)/\x=.ref r/\H r=some (.tup (k.map kV)),λi H=>Af.length<=i/\H a=some (.frz o (.dT Af))⟩
theorem Inv.heldT {Ab:Aa2}{σ:St}{H:Hp}{s:Shared}{d:Addr}{o:Obj}{Af:List (List Key×V)}(I:Inv X Ab σ H s)(h:H d=some (.frz o (.dT Af))):
  s.heap.get? d=some o/\(d==B32)=false/\o.cls=.type "dict"/\∃es ep,o.data=.dict es ep/\es.size=Af.length/\∀(i:Nat) (hi:i<es.size),∃k v r,Af[i]?=some (k,v)/\es[i].key=.ref r/\H r=some (.tup (k.map kV)):=by
 obtain⟨l,hz,y,f,b,o',es,ep,c,n,a,j,nd⟩:=(show ObjOk X.prog X.w H s.heap d (.frz o (.dT Af)) from I.hok d _ h);rw[l] at c;cases c;have q:f.length=Af.length:=b.length.symm;have p:es.size=f.length:=by rw[<- E6,j,A0]
 refine⟨l,y,n.1,es,ep,a,p.trans q,λi hi=>?_⟩;have t:i<f.length:=by lia
 have e:i<Af.length:=by lia
 have g:=A4 e;obtain⟨x,u,e1,z,e3⟩:=qT3 b g;refine⟨Af[i].1,Af[i].2,x.2.1,g,?_,z⟩;have m:es[i]?=some (entryOfKey (B81 (qBQ X.prog X.w)) x):=by rw[<- F6,j,B6,u];rfl
 rw[C8 hi] at m;rw[B0 m]
 rfl
theorem qU3 {P:B13}{w:World}{K:Ab1}{tg:Expr}(a f:Addr)(o:Obj)(Af:List (List Key×V))(ep:Nat)(es:_)(t:o.data=.dict es ep):Turn P w K tg (ItT a o Af) [f] f (λi h=>qV8 h f a i Af.length ep) where
 mem:=by simp
 obj:=λi h c b g=>by
  have e:b=f:=by simpa using g
  subst e;exact⟨_,c,λv z=>by cases z⟩
 keep:=λi h q c k=>k f (by simp) _ c
 item:=by
  intro X u hw hK hc i Ab s σ H E I n c hg;subst u hw hK;obtain⟨hi,hq⟩:=hg;obtain⟨e1,e2,e3,a1,y,j,p,m⟩:=I.heldT hq;rw[t] at j;cases j;obtain⟨f0,x,f2,f3,f4,f5⟩:=n f (by simp)
  rw[<- p] at c;have l:i<es.size:=by lia
  obtain⟨k,v,r,g1,g2,g3⟩:=m i l;refine qQD c e1 t l λq d a0=>?_;have I1:Inv X Ab σ H {s with heap:=q}:=I.turned (t':=s.toks) (λb o g e=>(a0.2 b g).trans e) f0 x f3 f4 f5;rw[p] at d;rw[g2];exact⟨.ref r,rfl,qRT (s:={s with heap:=q}) d rfl rfl (by decide) ⟨.ref r,H,I1,rfl,⟨rfl,k,v,r,g1,rfl,g3⟩,d,λb g=>(n b g).1⟩⟩
 done:=by
  intro X u hw hK hc i Ab s σ H E I n c hg;subst u hw hK;obtain⟨hi,hq⟩:=hg;obtain⟨e1,e2,e3,a1,y,j,p,m⟩:=I.heldT hq;rw[t] at j;cases j;obtain⟨f0,x,f2,f3,f4,f5⟩:=n f (by simp)
  rw[<- p] at c;exact qTL (I.ok.hd hc) c (by lia) e1 t λq eb=>⟨rfl,I.turned (t':=s.toks) (λb o g e=>eb b o g e) f0 x f3 f4 f5⟩
 self:=λ_ _ _ _ _ c h=>B88 ⟨_,c,rfl,rfl⟩ h
def qfR (tl:TE):TI:=λσ H R=>tl σ H λx H1=>∃a o Af,x=.ref a/\H1 a=some (.frz o (.dT Af))/\R (ItT a o Af) H1
theorem qT1 {l:Expr}{c:TE}(g:PE X l c):PI X tg l (qfR c):=by
 intro t s σ H R I h;refine thn (g t s σ H _ I h) λv s1 ⟨x,H1,I1,r1,q1⟩=>?_;obtain⟨a,o,i,e,u,q⟩:=q1;subst e;cases r1;obtain⟨d,w,k,j,p,f,m,r⟩:=I1.heldT u;refine qQC ⟨_,d,k⟩ w d f ?_;refine⟨s1.heap.objs.size,[s1.heap.objs.size],_,_,H1,rfl,I1.kept (t':=s1.toks) λb o e=>A5 _ e,qU3 a _ o i p j f,by rw[m];exact B3 _ rfl,λb n=>?_,q⟩
 have e:b=s1.heap.objs.size:=by simpa using n
 subst e;exact I1.fpOk (A7 _) (I1.hok.fresh (A7 _))
theorem qZT {a:Addr}{o:Obj}{Af:List (List Key×V)}{g:TG}{f:TT}{d:TE}{Kf:Hp->Prop}{σ0:St}{H0:Hp}{p:Addr}(Pv:Nat->St->Hp->Prop)(z:Pv 0 σ0 H0)(j:∀i σ H,i<=Af.length->Pv i σ H->H a=some (.frz o (.dT Af)))
  (l:∀i k v r σ H,Af[i]?=some (k,v)->H r=some (.tup (k.map kV))->Pv i σ H->g (.ref r) σ H λσ2 H2=>f σ2 H2 λb H3=>if b=true then d σ2 H3 λy H4=>∃ys,H4 p=some (.lst ys)/\ys.length<B12/\Pv (i+1) σ2 (Ag H4 p (.lst (ys++[y]))) else Pv (i+1) σ2 H3)
  (n:∀σ H,Pv Af.length σ H->Kf H):
  LcG (ItT a o Af) g f d Kf σ0 H0 p:=by
 refine⟨λi m σ H=>m=Af.length-i/\i<=Af.length/\Pv i σ H,⟨Af.length,by simp,E7 _,z⟩,?_⟩
 rintro i m σ H ⟨rfl,hi,q⟩;have h:=j i σ H hi q;by_cases c:i<Af.length
 ·refine .inr ⟨⟨c,h⟩,Pv (i+1),λσ' t u=>⟨Af.length-(i+1),by lia,rfl,c,u⟩,λx t y=>?_⟩
  obtain⟨e,k,v,r,e2,s,w⟩:=y;subst e s;exact l i k v r σ _ e2 w q
 ·have e:i=Af.length:=by lia
  subst e;exact .inl ⟨⟨A7 _,h⟩,n σ H q⟩
section
variable{X:Cx}{k v:Expr}{tk tv:TE}{pos:Pos}
def qbZ (tk tv:TE):TE:=λσ H Q=>∀p,H p=none->tk σ (Ag H p (.dT [])) λx H1=>tv σ H1 λy H2=>H2 p=some (.dT [])/\∃b ks,x=.ref b/\H2 b=some (.tup (ks.map kV))/\Q (.ref p) (Ag H2 p (.dT [(ks,y)]))
theorem qWC (n:X.A.units+1<cLine)(t:PE X k tk)(hv:PE X v tv):PE X (.Dict [some k] [v] pos) (qbZ tk tv):=by
 intro h s σ H Q I q;have p:=I.hok.fresh (A7 s.heap.objs.size);have I1:=I.laid (a:=s.heap.objs.size) (o:=.dT []) (h':=s.heap.push {cls:=.type "dict",data:=.dict #[]}) (t':=s.toks) (λ_ _ q=>A5 _ q) (A7 _) (qTM s.heap I.big);rw[arm_eval_Dict,zip_pairTrees [some k] [v] X.env pos rfl rfl,dictDisplay_pairs _ (by intro z;cases z) (by show 1<17;decide)]
 apply B10;apply B40;apply B10;unfold subDict;apply B10;refine wpAny_alloc ?_;apply B10;apply B25;rw[if_pos (show(pairTrees [some k] [v] X.env pos).length<=15 by show 1<=15;decide)]
 apply B10;refine pairTrees_cons_walk (thn (t h _ σ _ _ I1 (q _ p)) λu s1 ⟨x,H1,I2,rx,q1⟩=>thn (hv h _ σ _ _ I2 q1) λr s2 ⟨y,H2,I3,ry,e,b,ks,ex,eb,q2⟩=>pairTrees_nil_walk ?_);subst ex;obtain rfl:u=C4 b:=rx;apply B25;obtain⟨z,hd,xs,d,dd⟩:=qfX I3.hok e;have hz:xs.length<=B12:=by rw[<- C6 d];exact z
 apply B10;simp only[A76,List.forIn_nil];apply B10;apply B10;refine wpAny_dictSet_heap (knd:=B81 (qBQ X.prog X.w)) (hsz:=hz) ?_ (qMX I3.hok eb) dd λh' f hs=>?_
 ·exact Nat.lt_of_succ_lt n
 apply B11;apply B11;apply B11;apply B11;apply B11;refine⟨.ref s.heap.objs.size,_,?_,rfl,q2⟩;obtain⟨i,l,ep,j,h2,h3,h4,_,m⟩:=f;refine qOM I3 (by rw[e];exact S5) hs ⟨i,j⟩ ⟨E3 (show 1<=2 by decide) (by decide),hd,_,(d.put ks eb ry).keeps λc ys g=>?_,i,l,ep,j,h2,h3,h4,m⟩
 rw[qA9 (qC1 g e (λz=>nomatch z))];exact g
end
noncomputable def kOf:Stmt->Expr
 |.Assign _ (.Dict [some k] _ _) _=>k
 |_=>.Name "" ⟨0,0,0,0⟩
noncomputable def vOf:Stmt->Expr
 |.Assign _ (.Dict _ [v] _) _=>v
 |_=>.Name "" ⟨0,0,0,0⟩
theorem qcN {X:Cx}{e:Expr}(h:∃n p,e=.Tuple [] n p):PE X e (tTup tNil):=by
 obtain⟨n,p,rfl⟩:=h;exact qAT qA2
theorem qWA {X:Cx}{e:Expr}(h:∃a1 a2 b1 b2 c1 c2 n p,e=.Tuple [.Constant (.int 0) a1 a2,.Constant .none b1 b2,.Constant .none c1 c2] n p):PE X e (tTup (qLU (tC (.int 0)) (qLU (tC .non) (qLU (tC .non) tNil)))):=by
 obtain⟨_,_,_,_,_,_,n,p,rfl⟩:=h;exact qAT (qA0 qA8 (qA0 qJ5 (qA0 qJ5 qA2)))
theorem qYM {p:Pos}{a b:Int}{c d:Value}:∀{l:List Value},TriplesOk l->codeAmong p (l++[rawInt a,rawInt b,c])=some d->codeAmong p l=some d\/d=c:=by
 intro l h e
 fun_induction TriplesOk l with
 |case1=>
  simp only[d5,rawInt,codeAmong] at e
  split at e
  ·exact .inr (B0 e).symm
  ·cases e
 |case2 a' t b' u x rest ih=>
  simp only[X0,codeAmong] at e ⊢
  split at e
  ·rename_i hc
   rw[if_pos hc];exact .inl e
  ·rename_i hc
   rw[if_neg hc];exact ih h e
 |case3 l h1 h2=>exact h.elim
def BM (mg:Ab0) (h:Heap):Prop:=∃bm ob,mg "__builtins__" = some (.ref bm)/\bm≠B83/\h.get? bm=some ob/\ob.cls=.type "module"/\ob.dict=some B83/\ob.data=.plain
section
variable{X:Cx}{Ab:Aa2}{σ:St}{H:Hp}{s:Shared}
noncomputable abbrev lamO (X:Cx)(q:Str)(params:B39)(body:Expr)(scope:Scope)(cc:Addr)(ctv:Value):Obj:=
 {cls:=.type "function",data:=.func (W9 "<lambda>" q params body scope (qIF X.env scope.names []) ((X.mg "__name__").getD .none) (.ref cc) ctv)}
theorem qfV {a:B39}{body:Expr}{d:Scope}{pos:Pos}{c P:Addr}{q:Str}{Q:Aa1}{E:Aa1}
  (I:Inv X Ab σ H s) (hb:BM X.mg X.base) (i:X.env.code=.ref c) (C:PySem.W.CodeHd X.base c P) (y:H P=some (.tbl (.tab q))) (hq:X.env.qual ++ "<lambda>" = q)
  (a7:∀x,(x,J1)∈d.names->∃c,X.env.cells.lookup x=some c) (a4:defaultsOf a X.env=([],[]))
  (h:∀ (f cc:Addr) (ctv:Value) (s':Shared) (H':Hp),Inv X Ab σ H' s'->(∀ b o,H b=some o->H' b=some o)->H' cc=some (.tbl (.cod q))->
   s'.heap.get? f=some (lamO X q a body d cc ctv)->s.heap.objs.size<=f->H' f=none->Q (.ref f) s'):
  wpAny (model X.prog X.w) X.A (eval (.Lambda a body d pos) X.env) Q E s:=by
 obtain⟨aa,a1,tr,a5⟩:=(show ObjOk X.prog X.w H s.heap P (.tbl (.tab q)) from I.hok P _ y);have hg:s.heap.Ns B23 X.mg:=I.ok.mod.glob.keeps I.bk;have nP:∀b o,X.base.get? b=some o->b≠P:=λb o e z=>by
  have:=(I.bs b o e).2;rw[z,y] at this;cases this
 have ac:B23≠P:=by
  obtain⟨o,es,ep,e,_⟩:=I.ok.mod.glob;exact nP _ _ e
 have a6:s.heap.BuiltinsAt X.mg P:=by
  obtain⟨bm,ob,b1,b2,b3,b4,b5,b6⟩:=hb;refine⟨bm,ob,b1,b2,?_,nP _ _ b3,I.bk _ _ b3,b4,b5,b6⟩;rintro rfl;obtain⟨o,es,ep,e,hd,_⟩:=I.ok.mod.glob;rw[e] at b3;cases b3;rw[hd] at b6;cases b6
 refine PySem.W.kla_eval a4 ?_;rw[hq];cases hca:codeAmong pos aa.toList with
 |some cv=>
  obtain⟨cc,rfl,ag⟩:=a5 pos cv hca;refine PySem.W.kla_makeFunctionHit (qJ1 a7) I.ok.glob hg i (C.keeps I.bk) a1 tr hca a6 λctv h' tk hk a0=>?_;exact h h'.objs.size cc ctv _ H (I.kept (t':=tk) λb u e=>A5 _ (hk b u e)) (λ_ _ z=>z) ag (B3 _ rfl) a0 (I.hok.fresh a0)
 |none=>
  refine PySem.W.kla_makeFunction (qJ1 a7) I.ok.glob hg i (C.keeps I.bk) a1 tr hca ac a6 λk ctv h' tk hx a8 ah a3 ab=>?_;have ad:H k=none:=I.hok.fresh a8;have j:∀b o,H b=some o->(Ag H k (.tbl (.cod q))) b=some o:=λb o e=>by rw[qA9 (qA6 e ad)];exact e
  have l:∀b,H b=none->b≠P:=λb n z=>by rw[z,y] at n;cases n
  have I':Inv X Ab σ (Ag H k (.tbl (.cod q))) {s with heap:=h'.push (lamO X q a body d k ctv),toks:=tk}:=by
   refine I.step (g':=s.gens) (d':=s.drawn) (ch:=[]) (λ_ z=>nomatch z) (λb o _ _ _ e n=>A5 _ (hx b o (l b n) e)) (λb o _ _ _ e n=>⟨o.slots,A5 _ (hx b o (l b n) e)⟩)
    (λb o _ e n=>by rw[qA9 (D5 (E1 (B5 e) a8))];exact n) (λb o _ e=>?_) (λb xs e=>j _ _ e) (λb o u e=>j _ _ e) (λb t e=>j _ _ e) (λm hm=>(hm.extBut hx (l _ I.free)).push _) (λb u e=>?_) I.bare
   ·by_cases g:b=P
    ·exact⟨_,A5 _ (g▸ab)⟩
    ·exact⟨o,A5 _ (hx b o g e)⟩
   ·by_cases a9:b=k
    ·subst a9;rw[qA1] at e;cases e;obtain⟨c₂,oc,vs,t,e2,ae,r⟩:=a3;cases e2;exact⟨b,oc,vs,t,rfl,A5 _ ae,r⟩
    ·rw[qA9 a9] at e;by_cases g:b=P
     ·subst g;rw[y] at e;cases e;refine⟨_,A5 _ ab,?_,λa2 cv z=>?_⟩
      ·rw[F0];exact TriplesOk_snoc _ _ _ _ tr
      ·rw[F0] at z;rcases qYM tr z with z|z
       ·obtain⟨p,e1,e2⟩:=a5 a2 cv z;exact⟨p,e1,j _ _ e2⟩
       ·exact⟨k,z,qA1⟩
     ·refine(I.hok b u e).stay (λp v af z=>A5 _ (hx p v ?_ z)) (λp z=>j _ _ z) (λp xs z=>j _ _ z) λp t z=>j _ _ z;rcases af with z|z
      ·rw[z];exact g
      ·intro z2;rw[z2,y] at z;cases z
  exact h h'.objs.size k ctv _ _ I' j qA1 (B3 _ rfl) (by lia) (by rw[qA9 (U8 ah)];exact I.hok.fresh (by lia))
structure LmScope (X:Cx)(scope:Scope)(p:Str)(fv:List Nat):Prop where
 kind:scope.kind=.function
 co:scope.isCoroutine=false
 gen:scope.isGenerator=false
 nocell:∀y∈scope.names,y.2≠.cell
 par:scope.names.lookup p=some .local
 free:∀y∈scope.names,y.2=.free->X.env.kindOf y.1=some .cell\/X.env.kindOf y.1=some .free
 fvs:∀i∈fv,i<X.N.length/\scope.names.lookup (X.N.getD i P2)=some .free
structure LmZ where
 A:Around
 f:Addr
 cd:Value
 s₀:Shared
 H₀:Hp
 rm:Room 0 A
noncomputable abbrev lmEnv (X:Cx)(scope:Scope)(q:Str)(z:LmZ):Env:=PySem.W.envX q scope z.s₀.heap.objs.size z.f z.cd (qIF X.env scope.names [])
noncomputable def lmCx (X:Cx)(scope:Scope)(p:Str)(fv:List Nat)(q:Str)(z:LmZ):Cx where
 prog:=X.prog
 w:=X.w
 K:=X.K
 mg:=X.mg
 base:=X.base
 A:=z.A.deeper (lmEnv X scope q z)
 N:=p::fv.map λi=>X.N.getD i P2
 s₀:=z.s₀
 H₀:=z.H₀
 env:=lmEnv X scope q z
 outer:=X.stack
 stack:=lmEnv X scope q z::X.stack
 ex:=[]
 fn:=λ_=>false
 calm:=true
 pn:=[]
 xe:=noX
theorem LmScope.fr {a:Scope}{p:Str}{fv:List Nat}(S:LmScope X a p fv)(I:Inv X Ab σ H s):∀x,(x,J1)∈a.names->∃c,X.env.cells.lookup x=some c:=λx b=>I.ok.has x (S.free _ b rfl)
theorem qh5 {a:Scope}{p:Str}{fv:List Nat}{q:Str}{A:Around}{f:Addr}{cd:Value}(h:Room 0 A)(I:Inv X Ab σ H s)(S:LmScope X a p fv)(l:A.frames=some X.stack):
  (lmCx X a p fv q ⟨A,f,cd,s,H,h⟩).Ok:=by
 have k:=S.fr I;have e:=qG1 (env:=X.env) (names:=a.names) (acc:=[]) k (λx c z=>by simp at z)
 have d:∀b:Addr,b∉(lmCx X a p fv q ⟨A,f,cd,s,H,h⟩).ex:=λb z=>absurd (show b∈([]:List Addr) from z) (by simp)
 refine⟨I.ok.mod,S.kind,rfl,rfl,A7 _,λx y c m n=>I.ok.inj x y c (e _ _ m) (e _ _ n),λx g=>?_,λx c g=>(nomatch g),λ_=>h.hd,A03 l,.inr ⟨rfl,rfl⟩,λb z=>absurd z (d b),I.bs,E3 I.ok.bsz I.sz,λb _ _=>d b,λb z=>absurd z (d b),I.stack,I.stkFree⟩;have j:a.names.lookup x=some .cell\/a.names.lookup x=some .free:=g;rcases j with z|z
 ·exact absurd rfl (S.nocell _ (G9 z))
 ·exact qG2 (.inl (G9 z))
noncomputable def qIQ (fv:List Nat)(σ:St)(x:V):St:=some x::fv.map λi=>(σ[i]?).join
theorem qZQ {a:Scope}{p:Str}{fv:List Nat}{q:Str}{A:Around}{f:Addr}{cd:Value}{x:V}{u:Value}{h₁:Heap}{tk:Nat}(rm:Room 0 A)(I:Inv X Ab σ H s)(S:LmScope X a p fv)(hA:A.frames=some X.stack)(hx:RelV x u)
  (t:h₁.Ns s.heap.objs.size (λy=>[(p,u)].reverse.lookup y)) (r:∀b o,s.heap.get? b=some o->h₁.get? b=some o):
  Inv (lmCx X a p fv q ⟨A,f,cd,s,H,rm⟩) [] (qIQ fv σ x) H {s with heap:=h₁,toks:=tk}:=by
 have a0:=S.fr I;have k:=qG1 (env:=X.env) (names:=a.names) (acc:=[]) a0 (λx c z=>by simp at z)
 refine⟨qh5 rm I S hA,rfl,I.bare,Un.kept r,⟨_,t,λi y v d g h3=>?_⟩,λy c e=>?_,I.hok.fresh (A7 _),λy c e=>I.freeC y c (k _ _ e),λp hp=>absurd (show p∈([]:Aa2) from hp) (by simp),I.hok.kept r,?_⟩
 ·have d:(p::fv.map λi=>X.N.getD i P2)[i]?=some y:=d;unfold qIQ at g;cases i with
  |zero=>
   cases d;cases g;refine⟨u,hx,.inl ⟨S.par,?_⟩⟩;simp
  |succ i=>
   rw[List.getElem?_cons_succ,B6] at d g;cases e:fv[i]? with
   |none=>rw[e] at d;cases d
   |some j=>
    rw[e] at d g;have hj:=S.fvs j (A9 e);have d:X.N.getD j P2=y:=B0 d;have g:(σ[j]?).join=some v:=B0 g;have w:σ[j]?=some (some v):=by
     cases q:σ[j]? with
     |none=>rw[q] at g;cases g
     |some y=>rw[q] at g;exact congrArg some g
    have a1:X.N[j]?=some y:=by
     rw[O1] at d;rw[A4 hj.1] at d ⊢;exact congrArg some d
    have n:a.names.lookup y=some .free:=d ▸ hj.2;have h:=G9 n;obtain ⟨m,hn,hl⟩:=id I.loc;have l:=S.free _ h rfl;obtain ⟨u,ru,lk⟩:=hl j y v a1 w (by
     rcases l with z|z
     ·exact .inr (.inl z)
     ·exact .inr (.inr z))
    refine⟨u,ru,?_⟩;rcases lk with⟨z,_⟩|⟨_,c,e1,z⟩
    ·rcases l with y'|y'
     ·have y':X.env.kindOf y=some .cell:=y';rw[z] at y';cases y'
     ·have y':X.env.kindOf y=some .free:=y';rw[z] at y';cases y'
    ·obtain⟨c',e2⟩:=qG2 (env:=X.env) (names:=a.names) (acc:=[]) (x:=y) (.inl h);have e3:=k _ _ e2;rw[e1] at e3;cases e3;obtain⟨o,ho,hd⟩:=z;exact .inr ⟨.inr n,c,e2,o,r _ _ ho,hd⟩
 ·obtain⟨v,o,ho,hd⟩:=I.cell y c (k _ _ e);exact⟨v,o,r _ _ ho,hd⟩
 ·unfold qIQ;show _=(p::fv.map λi=>X.N.getD i P2).length;simp
theorem qZV {c:B39}{body:Expr}{a:Scope}{p:Str}{fv:List Nat}{q:Str}{A:Around}{f d:Addr}{t u:Value}{x:V}{te:TE}{Q:VK}(l:Room 0 A)(I:Inv X Ab σ H s)(S:LmScope X a p fv)(hA:A.frames=some X.stack)
  (hf:s.heap.get? f=some (lamO X q c body a d t)) (m:H d=some (.tbl (.cod q))) (hx:RelV x u)
  (g:∀(cl:List (Str×Addr)) (pm cd ct u:Value),B67 (W9 "<lambda>" q c body a cl pm cd ct) ⟨[u],[]⟩=pure [(p,u)])
  (he:∀z,PE (lmCx X a p fv q z) body te) (h:te (qIQ fv σ x) H Q):
  B43 (model X.prog X.w) A (.call (.ref f) ⟨[u],[]⟩) (λr s'=>∃v y H',r=.ok (.ret v)/\Inv X Ab σ H' s'/\RelV y v/\Q y H'/\Un (frs X.stack) [] H H' s.heap s'.heap) s:=by
 have j:s.heap.CodeRec (.ref d) q:=(show ObjOk X.prog X.w H s.heap d (.tbl (.cod q)) from I.hok d _ m);refine PySem.W.kla_callFunE l.depth hf rfl S.co S.gen rfl j ?_;rw[g];refine B11 (wpAny_newFunctionEnv S.nocell (λy hy=>?_) (λh₁ k i=>⟨I.nolimit.fresh _ i,?_⟩) S.kind)
 ·rw[A6.mp hy];exact S.par
 have n:∀b o,s.heap.get? b=some o->h₁.get? b=some o:=λb o e=>i.extBut b o (D5 (B5 e)) (A5 _ e);refine PySem.W.kla_codeExpr ?_;have J:=qZQ (q:=q) (f:=f) (cd:=.ref d) (tk:=s.toks+[(p,u)].length) l I S hA hx k n;refine B18 ((he ⟨A,f,.ref d,s,H,l⟩) [] _ _ H Q J h) (λv s' ⟨y,H',J',ry,qy⟩=>?_) λ_ _ z=>z.elim;exact⟨v,y,H',rfl,I.call' (ch:=[]) J'.os J'.base J'.hok J'.bare (λb hb=>absurd hb (by simp)),ry,qy,J'.base⟩
end
abbrev Sm0 (H H':Hp):Prop:=∀b o,H b=some o->H' b=some o
noncomputable def LamF (X:Cx)(q:Str)(params:B39)(body:Expr)(scope:Scope)(cc:Addr)(ctv:Value)(f:Addr):HO:=.ext λh=>h.get? f=some (lamO X q params body scope cc ctv)
def tLam (X:Cx)(P:Addr)(q:Str)(params:B39)(body:Expr)(scope:Scope):TE:=λσ H Q=>H P=some (.tbl (.tab q))/\
 ∀f cc ctv H',Sm0 H H'->H f=none->H' f=some (LamF X q params body scope cc ctv f)->H' cc=some (.tbl (.cod q))->Q (.ref f) H'
theorem qf5 {a:B39} {body:Expr} {d:Scope} {pos:Pos} {c P:Addr} {q:Str} {p:Str} {fv:List Nat} (hb:BM X.mg X.base) (i:X.env.code=.ref c) (C:PySem.W.CodeHd X.base c P) (hq:X.env.qual ++ "<lambda>" = q)
  (S:LmScope X d p fv) (j:defaultsOf a X.env=([],[])):PE X (.Lambda a body d pos) (tLam X P q a body d):=by
 intro Ab s σ H Q I ⟨hP,h⟩;refine qfV I hb i C hP hq (S.fr I) j λf t n s' H' I' sm l w g y=>?_;have m:H f=none:=I.hok.fresh g;have u:t≠f:=qA6 l y
 -- f is tracked from now on
 have hF:X.s₀.heap.objs.size<=f:=E3 I.sz g;have I2:Inv X Ab σ (Ag H' f (LamF X q a body d t n f)) s':=by
  refine I'.track y hF (U8 (E1 I.lt g)) (λx c e z=>?_) (λp hp z=>?_) ⟨w,⟨_,w⟩,λh1 h2 x k=>k _ x⟩
  ·obtain⟨v,hc⟩:=I.cell x c e;exact absurd (E1 hc.lt (by rw[z];exact g)) (P7 _)
  ·exact absurd (E1 (B5 (I.pin p hp).1) (by rw[z];exact g)) (P7 _)
 refine⟨.ref f,_,I2,rfl,h f t n _ (λb o e=>?_) m qA1 (by rw[qA9 u];exact l)⟩
 rw[qA9 (qA6 e m)];exact sm b o e
noncomputable def qFG {α:Type}:α×List Int->List (α×List Int)->α
 |b,[]=>b.1
 |b,x::r=>if HT.lexLt x.2 b.2=true then qFG x r else qFG b r
structure KCmp (X:Cx)(KR:Hp->V->List Int->Prop):Prop where
 mono:∀H H' y k,Sm0 H H'->KR H y k->KR H' y k
 cmp:∀(Ab:Aa2) (σ:St) (s:Shared) (H:Hp) (y y':V) (u u':Value) (k k':List Int) (Q:Aa1) (E:Aa1),Inv X Ab σ H s->RelV y u->RelV y' u'->KR H y k->KR H y' k'->Q (.bool (HT.lexLt k k')) s->
  wpAny (model X.prog X.w) X.A.in1 (richCompare .Lt u u') Q E s
theorem Inv.fpStk {Ab:Aa2}{σ:St}{H:Hp}{s:Shared}{b:Addr}(I:Inv X Ab σ H s)(f:FpOk X Ab H b):b∉frs X.stack:=λz=>by
 rcases B8.mp (I.stkSub b z) with e|e
 ·exact f.2.1 e
 ·exact f.2.2.1 e
theorem FpOk.to {Ab:Aa2}{H H':Hp}{b:Addr}(f:FpOk X Ab H b)(h:H' b=none):FpOk X Ab H' b:=⟨h,f.2⟩
structure KeyAt (X:Cx)(σ:St)(fv:List Nat)(te:TE)(KR:Hp->V->List Int->Prop)(H0:Hp)(xs:List V)(ks:Aa0):Prop where
 len:ks.length=xs.length
 key:∀(i:Nat) (x:V) (k:List Int),xs[i]?=some x->ks[i]?=some k->∀Hc,Sm0 H0 Hc->te (qIQ fv σ x) Hc λy H'=>Sm0 Hc H'/\KR H' y k
section
variable{Ab:Aa2}{σ:St}{params:B39}{body:Expr}{scope:Scope}{p:Str}{fv:List Nat}{q:Str}{te:TE}{KR:Hp->V->List Int->Prop}{l f cc:Addr}{ctv:Value}{H0:Hp}{xs:List V}{ks:Aa0}{Q:VK}
theorem qX6 {s:Shared} {H:Hp} {b S:Addr} {i:Nat} {x:V} {k:List Int} {u:Value} (rm:Room 1 X.A) (t:X.A.in1.frames=some X.stack) (S':LmScope X scope p fv) (a:∀(cl:List (Str×Addr)) (pm cd ct u:Value),B67 (W9 "<lambda>" q params body scope cl pm cd ct) ⟨[u],[]⟩=pure [(p,u)])
  (he:∀z,PE (lmCx X scope p fv q z) body te) (KA:KeyAt X σ fv te KR H0 xs ks) (hf:H0 f=some (LamF X q params body scope cc ctv f)) (l:H0 cc=some (.tbl (.cod q)))
  (I:Inv X Ab σ H s) (m:Sm0 H0 H) (hx:xs[i]?=some x) (hk:ks[i]?=some k) (rx:RelV x u) (d:FpOk X Ab H b) (g:FpOk X Ab H S) {j c:Obj} (o:s.heap.get? b=some j) (n:s.heap.get? S=some c) {Q':Aa1} {E:Aa1}
  (h:∀v y H' s',Inv X Ab σ H' s'->Sm0 H H'->RelV y v->KR H' y k->FpOk X Ab H' b->FpOk X Ab H' S->s'.heap.get? b=some j->s'.heap.get? S=some c->Q' v s'):wpAny (model X.prog X.w) X.A.in1 (call (.ref f) [u]) Q' E s:=by
 have gf:s.heap.get? f=some (lamO X q params body scope cc ctv):=(show ObjOk X.prog X.w H s.heap f (LamF X q params body scope cc ctv f) from I.hok f _ (m _ _ hf)).1;refine B70 (B46 (qZV rm.in1 I S' t gf (m _ _ l) rx a he (KA.key i x k hx hk H m)) λr s' ⟨v,y,H',e,I',ry,⟨sm',kr⟩,un⟩=>?_);subst e;exact h v y H' s' I' sm' ry kr (d.to (un.free b j o d.1 (by simp))) (g.to (un.free S c n g.1 (by simp))) (un.keep b j o d.1 (I.fpStk d) (by simp)) (un.keep S c n g.1 (I.fpStk g) (by simp))
theorem qUK {t S:Addr} {kw:List (Str×Value)} (hc:X.calm=true) (rm:Room 1 X.A) (hA:X.A.in1.frames=some X.stack) (S':LmScope X scope p fv) (a3:∀(cl:List (Str×Addr)) (pm cd ct u:Value),B67 (W9 "<lambda>" q params body scope cl pm cd ct) ⟨[u],[]⟩=pure [(p,u)])
  (he:∀z,PE (lmCx X scope p fv q z) body te) (KC:KCmp X KR) (KA:KeyAt X σ fv te KR H0 xs ks) (hf:H0 f=some (LamF X q params body scope cc ctv f)) (ah:H0 cc=some (.tbl (.cod q))) (hl:SqL X.K H0 l xs) (a4:t≠S)
  (i:∀H',Sm0 H0 H'->SqL X.K H' l xs):
  ∀(k j:Nat) (s:Shared) (H:Hp) (bx y:V) (bk:List Int) (bu bv:Value) (c:Nat),xs.length-j=k->j<=xs.length->Inv X Ab σ H s->Sm0 H0 H->FpOk X Ab H t->FpOk X Ab H S->s.heap.IsListIter t l j->
   s.heap.get? S=some {cls:=.type "list",dict:=none,data:=.seq #[bu,bv] c,slots:=#[]}->RelV bx bu->RelV y bv->KR H y bk->(∀H',Sm0 H0 H'->Q (qFG (bx,bk) ((xs.zip ks).drop j)) H')->
   B43 (model X.prog X.w) X.A (.builtin "min.loop" ⟨[.ref t,.ref f,.ref S],kw⟩) (λr s'=>∃v,r=.ok (.ret v)/\EP X Ab σ Q v s') s:=by
 have h:(toString "min" ++ toString ".loop" : String) = "min.loop":=by decide
 intro k
 induction k with
 |zero=>
  intro j s H bx y bk bu bv c hk hj I sm g fS a5 hS rb ry kb n;obtain⟨af,rv,pl,hz⟩:=I.list (i H sm);have aj:=rv.length;refine B34 Y7 ?_;rw[J4 L5 _];show wpAny _ X.A.in1 (seqItems? (.ref S) >>= _) _ _ s;refine B10 (B44 hS rfl ?_);show wpAny _ X.A.in1 (tryCatch (pyNext (.ref t)) _ >>= _) _ _ s;refine B10 (B31 (B82 (rm.in1.hd) a5 pl.isList (by simp;lia) λh' eb=>?_))
  have I1:Inv X Ab σ H {s with heap:=h'}:=I.turned (t':=s.toks) (λb o m e=>eb b o m e) g.1 g.2.1 g.2.2.2.1 g.2.2.2.2.1 g.2.2.2.2.2;have ad:=eb S _ (J6 a4) hS;show wpAny _ X.A.in1 (updateSeq S (λ_=>#[]) >>= _) _ _ _;refine B10 (B56 ad rfl (B10 (B59 (B11 ?_))));have I2:Inv X Ab σ H {s with heap:=h'.update S (S7 λ_=>(#[]:Array Value))}:=I1.turned (t':=s.toks) (λb o m e=>(D3 _ _ (J6 m)).trans e) fS.1 fS.2.1 fS.2.2.2.1 fS.2.2.2.2.1 fS.2.2.2.2.2;have hq:=n H sm;rw[t8 (by rw[z5,KA.len];lia)] at hq
  exact⟨_,rfl,bx,H,I2,rb,hq⟩
 |succ k ih=>
  intro j s H bx y bk bu bv c hk hj I sm g fS a5 hS rb ry kb n;have d:j<xs.length:=by lia
  obtain⟨af,rv,pl,hz⟩:=I.list (i H sm);have a1:=A4 d;have aa:=A4 (show j<ks.length by rw[KA.len];exact d)
  have ez:(xs.zip ks).drop j=(xs[j],ks[j]'(by rw[KA.len];exact d))::(xs.zip ks).drop (j+1):=by
   rw[F4 (by rw[z5,KA.len];lia),List.getElem_zip]
  rw[ez] at n;generalize xs[j]=x at a1 n;generalize ks[j]'(by rw[KA.len];exact d)=kx at aa n
  obtain⟨u,hu,ru⟩:=rv.get a1;refine B34 Y7 ?_;rw[J4 L5 _];show wpAny _ X.A.in1 (seqItems? (.ref S) >>= _) _ _ s;refine B10 (B44 hS rfl ?_);show wpAny _ X.A.in1 (tryCatch (pyNext (.ref t)) _ >>= _) _ _ s;refine B10 (B31 (B74 a5 pl.isList (x:=u) (by simpa using hu) λh' ag sb=>?_))
  have I1:Inv X Ab σ H {s with heap:=h'}:=I.turned (t':=s.toks) (λb o m e=>(sb.2 b m).trans e) g.1 g.2.1 g.2.2.2.1 g.2.2.2.2.1 g.2.2.2.2.2;have ai:=(sb.2 S (J6 a4)).trans hS;obtain⟨oi,ae,a9,ab⟩:=id ag;show wpAny _ X.A.in1 (tryCatch (B60 [u] (call (.ref f) [u])) _ >>= _) _ _ _;refine B10 (B31 (B25 (qX6 rm hA S' a3 he KA hf ah I1 sm a1 aa ru g fS ae ai λv y2 H2 s2 I2 a2 r2 k2 a8 a a6 a0=>?_)));have a7:s2.heap.IsListIter t l (j+1):=⟨oi,a6,a9,ab⟩;show wpAny _ X.A.in1 (tryCatch (B60 [u,v] (richCompare .Lt v bv >>= _)) _ >>= _) _ _ _;refine B10 (B31 (B25 (B10 (KC.cmp Ab σ s2 H2 y2 y v bv kx bk _ _ I2 r2 ry k2 (KC.mono _ _ _ _ a2 kb) ?_))));refine B10 (B25 (B28 (B10 (B59 (B11 ?_)))));have ac:Sm0 H0 H2:=λb o e=>a2 b o (sm b o e);cases m:HT.lexLt kx bk with
  |true=>
   rw[if_pos rfl];have et:qFG (bx,bk) ((x,kx)::(xs.zip ks).drop (j+1))=qFG (x,kx) ((xs.zip ks).drop (j+1)):=by show(if HT.lexLt kx bk=true then _ else _)=_;rw[m];rfl
   rw[et] at n;refine B10 (B56 a0 rfl (B10 (B59 ?_)));rw[h];have I3:Inv X Ab σ H2 {s2 with heap:=s2.heap.update S (S7 λ_=>#[u,v])}:=I2.turned (t':=s2.toks) (λb o m e=>(D3 _ _ (J6 m)).trans e) a.1 a.2.1 a.2.2.2.1 a.2.2.2.2.1 a.2.2.2.2.2;exact B11 ⟨B35 L5 _,ih (j+1) _ H2 x y2 kx u v _ (by lia) d I3 ac a8 a ⟨oi,(D3 _ _ (J6 a4)).trans a6,a9,ab⟩ (F7 _ a0 rfl) ru r2 k2 n⟩
  |false=>
   rw[if_neg B1];have et:qFG (bx,bk) ((x,kx)::(xs.zip ks).drop (j+1))=qFG (bx,bk) ((xs.zip ks).drop (j+1)):=by show(if HT.lexLt kx bk=true then _ else _)=_;rw[m];rfl
   rw[et] at n;refine B10 (B59 ?_);rw[h];exact B11 ⟨B35 L5 _,ih (j+1) s2 H2 bx y bk bu bv c (by lia) d I2 ac a8 a a7 a0 rb ry (KC.mono _ _ _ _ a2 kb) n⟩
noncomputable def qf0 (dv:Option V):List (V×List Int)->Option V
 |[]=>dv
 |b::r=>some (qFG b r)
theorem qRK {s:Shared} {H:Hp} {kw:List (Str×Value)} (hc:X.calm=true) (rm:Room 1 X.A) (hA:X.A.in1.frames=some X.stack) (S':LmScope X scope p fv) (h:∀(cl:List (Str×Addr)) (pm cd ct u:Value),B67 (W9 "<lambda>" q params body scope cl pm cd ct) ⟨[u],[]⟩=pure [(p,u)])
  (he:∀z,PE (lmCx X scope p fv q z) body te) (KC:KCmp X KR) (KA:KeyAt X σ fv te KR H xs ks) (hf:H f=some (LamF X q params body scope cc ctv f)) (a2:H cc=some (.tbl (.cod q))) (hl:SqL X.K H l xs)
  (a0:∀H',Sm0 H H'->SqL X.K H' l xs) (I:Inv X Ab σ H s)
  (ok:argsOk "min" ⟨[.ref l],kw⟩) (df:Option Value) (y:Q2 "min" ["key","default"] 0 ⟨[],kw⟩=pure [some (.ref f),df]) (dv:Option V) (ab:df=none/\dv=none\/∃d u,df=some u/\dv=some d/\RelV d u)
  (m:V) (em:qf0 dv (xs.zip ks)=some m) (hQ:∀H',Sm0 H H'->Q m H'):wpAny (model X.prog X.w) X.A (call (.builtin "min") [.ref l] kw) (EP X Ab σ Q) X.xe s:=by
 obtain⟨ad,rv,pl,hz⟩:=I.list hl;have t:=pl.isList;have ae:l<s.heap.objs.size:=by obtain⟨_,e,_⟩:=t;exact B5 e
 have n:(toString "min" ++ toString ".loop" : String) = "min.loop":=by decide
 refine qJB PySem.F.kind_min PySem.F.plain_min PySem.F.entry_min ok ?_;show wpAny _ _ (Q2 "min" ["key","default"] 0 ⟨[],kw⟩ >>= _) _ _ s;refine B10 (B65 y ?_);refine B10 (B11 ?_);refine B10 (B37 t ?_);refine B10 (B21 ?_);rw[n];refine B11 ⟨_,rfl,B35 L5 _,?_⟩;have hS:(s.heap.push {cls:=.type "list_iterator",data:=.fields #[.ref l,.int 0 0]}).objs.size=s.heap.objs.size+1:=U5 ..;have I0:Inv X Ab σ H {s with heap:=(s.heap.push {cls:=.type "list_iterator",data:=.fields #[.ref l,.int 0 0]}).push {cls:=.type "list",data:=.seq #[]}}:=I.kept (t':=s.toks) λb o e=>A5 _ (A5 _ e);have c:FpOk X Ab H s.heap.objs.size:=I.fpOk (A7 _) (I.hok.fresh (A7 _));have fS:FpOk X Ab H (s.heap.push {cls:=.type "list_iterator",data:=.fields #[.ref l,.int 0 0]}).objs.size:=by rw[hS];exact I.fpOk (V1 _) (I.hok.fresh (V1 _))
 have j:s.heap.objs.size≠(s.heap.push {cls:=.type "list_iterator",data:=.fields #[.ref l,.int 0 0]}).objs.size:=by rw[hS];exact(b7 _).symm
 have gi:((s.heap.push {cls:=.type "list_iterator",data:=.fields #[.ref l,.int 0 0]}).push {cls:=.type "list",data:=.seq #[]}).get? s.heap.objs.size=some {cls:=.type "list_iterator",data:=.fields #[.ref l,.int 0 0]}:=A5 _ (B3 _ rfl);have gS:((s.heap.push {cls:=.type "list_iterator",data:=.fields #[.ref l,.int 0 0]}).push {cls:=.type "list",data:=.seq #[]}).get? (s.heap.push {cls:=.type "list_iterator",data:=.fields #[.ref l,.int 0 0]}).objs.size=some {cls:=.type "list",data:=.seq #[]}:=B3 _ rfl;have g:=(t.push {cls:=.type "list_iterator",data:=.fields #[.ref l,.int 0 0]}).push {cls:=.type "list",data:=.seq #[]};generalize (s.heap.push {cls:=.type "list_iterator",data:=.fields #[.ref l,.int 0 0]}).push {cls:=.type "list",data:=.seq #[]}=h0 at I0 gi gS g;generalize (s.heap.push {cls:=.type "list_iterator",data:=.fields #[.ref l,.int 0 0]}).objs.size=S at fS j gS ⊢;generalize s.heap.objs.size=it at c j gi ⊢;refine B34 Y7 ?_;rw[J4 L5 _];show wpAny _ X.A.in1 (seqItems? (.ref S) >>= _) _ _ _;refine B10 (B44 gS rfl ?_);show wpAny _ X.A.in1 (tryCatch (pyNext (.ref it)) _ >>= _) _ _ _;have a3:h0.IsListIter it l 0:=⟨_,gi,rfl,rfl⟩;cases xs with
 |nil=>
  have ek:ks=[]:=L1.mp KA.len;subst ek;have r:dv=some m:=em;cases rv;refine B10 (B31 (B82 (s:={s with heap:=h0}) (rm.in1.hd) a3 g (by simp) λh' eb=>?_))
  rcases ab with⟨_,e2⟩|⟨d,u,rfl,e3,rd⟩
  ·rw[e2] at r;cases r
  ·rw[e3] at r;cases r;show wpAny _ X.A.in1 (rule _ >>= λ_=>ret u) _ _ _;have I1:Inv X Ab σ H {s with heap:=h'}:=I0.turned (t':=s.toks) (λb o y e=>eb b o y e) c.1 c.2.1 c.2.2.2.1 c.2.2.2.2.1 c.2.2.2.2.2;exact B10 (B51 (B11 ⟨u,rfl,_,H,I1,rd,hQ H λ_ _ z=>z⟩))
 |cons x xs=>
  cases ks with
  |nil=>have:=KA.len;simp at this
  |cons k ks=>
   cases em;obtain⟨u,hu,ru⟩:=rv.get (i:=0) rfl;refine B10 (B31 (B74 (s:={s with heap:=h0}) a3 g (x:=u) (by simpa using hu) λh' a8 sb=>?_))
   have I1:Inv X Ab σ H {s with heap:=h'}:=I0.turned (t':=s.toks) (λb o y e=>(sb.2 b y).trans e) c.1 c.2.1 c.2.2.2.1 c.2.2.2.2.1 c.2.2.2.2.2;have ac:=(sb.2 S (J6 j)).trans gS;obtain⟨oi,a6,a7,aa⟩:=id a8;show wpAny _ X.A.in1 (tryCatch (B60 [u] (call (.ref f) [u])) _ >>= _) _ _ _;refine B10 (B31 (B25 (qX6 rm hA S' h he KA hf a2 I1 (λ_ _ z=>z) (i:=0) rfl rfl ru c fS a6 ac λv y2 H2 s2 I2 a9 r2 k2 a5 a a4 a1=>?_)));show wpAny _ X.A.in1 (updateSeq S (λ_=>#[u,v]) >>= _) _ _ _;refine B10 (B56 a1 rfl ?_);rw[n];have I3:Inv X Ab σ H2 {s2 with heap:=s2.heap.update S (S7 λ_=>#[u,v])}:=I2.turned (t':=s2.toks) (λb o y e=>(D3 _ _ (J6 y)).trans e) a.1 a.2.1 a.2.2.2.1 a.2.2.2.2.1 a.2.2.2.2.2;exact B11 ⟨B35 L5 _,qUK hc rm hA S' h he KC KA hf a2 hl j a0 _ 1 _ H2 x y2 k u v _ rfl (by simp) I3 a9 a5 a ⟨oi,(D3 _ _ (J6 j)).trans a4,a7,aa⟩ (F7 _ a1 rfl) ru r2 k2 hQ⟩
end
noncomputable def hdIn (K:Ab1)(c P:Addr):Bool:=match K.lookup c with
 |some ⟨.type n,_,.fields vs,_⟩=>decide (n = "code")&&decide (c≠P)&&(match(vs[11]?:Option Value),vs.getD 11 .none with|some (.ref a),.ref b=>decide (a=P)&&decide (b=P)|_,_=>false) &&
   (match vs.getD 18 .none,vs.getD 7 .none,vs.getD 9 .none,vs.getD 10 .none with|.str _ _,.int _ _,.bool _,.int _ _=>true|_,_,_,_=>false)
 |_=>false
theorem qY5 {K:Ab1}{h:Heap}{c P:Addr}(X:K.In h)(d:hdIn K c P=true):PySem.W.CodeHd h c P:=by
 unfold hdIn at d
 split at d
 ·rename_i n dd vs sl hl
  rw[D6,D6,D6] at d;obtain⟨⟨⟨i,j⟩,e⟩,g⟩:=d
  split at e
  ·rename_i a b e1 e2
   rw[D6,decide_eq_true_eq,decide_eq_true_eq] at e;obtain⟨rfl,rfl⟩:=e
   split at g
   ·rename_i f t fl tg inF text tt g1 g2 g3 g4
    exact⟨_,vs,_,_,_,_,_,_,_,X _ _ hl,by rw[of_decide_eq_true i],rfl,e1,e2,g1,g2,g3,g4,of_decide_eq_true j⟩
   ·cases g
  ·cases e
 ·cases d
theorem Fun.okL {P:B13}{w:World}{K:Ab1}{mg:Ab0}{base:Heap}{x a:Str}{st:Stmt}{f:Addr}{j:B22}{N ps:List Str}{k:Nat}{sp:Sp}{c:Addr}(F:Fun K x a st f j)(r:j.code=.ref c)(S:FnScope N ps (qA7 st))(l:∀vs H Q E,sp vs H Q E->vs.length=ps.length)
  (b:∀ (A:Around) (outer:List Env) (s:Shared) (H:Hp) (vs:List V) (Q:VK) (E:XK),Room k (A.deeper (envOfC a (qA7 st) s.heap.objs.size f (.ref c)))->sp vs H Q E->
   ∃t,PSs (cxOf CX0 P w K mg base N a (qA7 st) f (.ref c) A outer s H E).nox (qAL st) t/\t {nx:=λ_ H'=>Q .non H',rt:=Q} (start N vs) H):FnOk P w K mg base CX0 (k+1) f j ps sp:=by
 obtain⟨oc,od,kV,v,pm,z,m,ct,u,rfl,o,d⟩:=F.ex;have e:m=.ref c:=r;subst e;refine qdI o d S l λA outer s H vs Q E n g=>?_;obtain⟨t,h,q⟩:=b A outer s H vs Q E n g;exact⟨t,h.nox,q⟩
noncomputable def qWY (scope:Scope)(p:Str)(fv:List Nat)(osc:Scope)(N:List Str):Bool:=
 decide (scope.kind=.function)&&decide (scope.isCoroutine=false)&&decide (scope.isGenerator=false)&&scope.names.all (λy=>decide (y.2≠.cell))&&decide (scope.names.lookup p=some .local) &&
 scope.names.all (λy=>decide (y.2≠.free)||(decide (osc.names.lookup y.1=some .cell)||decide (osc.names.lookup y.1=some .free)))&&fv.all λi=>decide (i<N.length)&&decide (scope.names.lookup (N.getD i P2)=some .free)
theorem lms {X:Cx}{a:Scope}{p:Str}{fv:List Nat}(h:qWY a p fv X.env.scope X.N=true):LmScope X a p fv:=by
 unfold qWY at h;simp only[D6,decide_eq_true_eq,F5,G7] at h;obtain⟨⟨⟨⟨⟨⟨f,g⟩,j⟩,d⟩,e⟩,i⟩,c⟩:=h;refine⟨f,g,j,d,e,λy k b=>?_,c⟩;rcases i y k with z|z
 ·exact absurd b z
 ·exact z
structure LTab where
 x:Str
 c:Addr
 P:Addr
 q:Str
def qg3 (tabs:List LTab)(H:Hp):Prop:=∀t∈tabs,H t.P=some (.tbl (.tab t.q))
noncomputable def entH (a:Addr)(o:Obj)(xs:List V)(ina:Bool)(tabs:List LTab):Hp:=λb=>if ina=true/\b=a then some (.frz o (.lst xs)) else(tabs.find? λt=>decide (t.P=b)).map λt=>.tbl (.tab t.q)
theorem qX2 {P:B13}{w:World}{K:Ab1}{mg mb:Ab0}{k:Nat}{fa a:Addr}{fd:B22}{x:Str}{sp:Sp}{g:Shared}{vs:List Value}{ns:List Int}(f:List LTab)
  (KX:K.In g.heap) (a9:g.heap.Ns B23 mg) (hb:g.heap.Ns B83 mb) (ai:∀x:Str,x ≠ "__name__"->mb x=B19 x) (ac:g.heap.NoLimit) (hg:g.gens=#[])
  (ha:g.heap.get? a=some {cls:=.type "list",data:=.seq vs.toArray}) (hi:B20 vs ns) (hl:ns.length<=B12) (hr:Room k callerA) (am:BM mg g.heap)
  (j:∀t∈f,PySem.W.CodeHd g.heap t.c t.P/\g.heap.get? t.P=some (A81 #[])) (hK:A16 K=true) (ag:∀t∈f,∀t'∈f,t.P=t'.P->t.q=t'.q)
  (F:∀base:Heap,K.In base->base.Ns B23 mg->BM mg base->FnOk P w K mg base CX0 k fa fd [x] sp) (a7:∀(s:Shared) (u:Value),BindsTo s fd ⟨[u],[]⟩ [(x,u)])
  (ak:∀H:Hp,qg3 f H->SqL K H a (ns.map V.int)->sp [.ref a] H (λv _=>v=.bl true) λ_ _ _=>False):
  B43 (model P w) callerA (.call (.ref fa) ⟨[.ref a],[]⟩) (λr s'=>r=.ok (.ret (.bool true))/\OldK g.heap s'.heap/\s'.os=g.os/\B69 s'.gens) g:=by
 have rv:=qK6 hi;have aa:=hi.length;have aj:∀t∈f,t.P≠a:=λt i z=>by
  have:=(j t i).2;rw[z,ha] at this;cases this
 have al:∀t∈f,K.lookup t.P=none:=λt i=>by
  cases e:K.lookup t.P with
  |none=>rfl
  |some o=>
   have y:=KX _ _ e;rw[(j t i).2] at y;cases y;have h2:=F5.mp hK _ (PySem.W.mem_of_lookupK e);exact absurd (show false=true from h2) B1
 obtain⟨a1,a4⟩:∃a1:Bool,(a1=true↔K.lookup a=none):=by
  cases e:K.lookup a with
  |none=>exact⟨true,by simp⟩
  |some o=>exact⟨false,by simp⟩
 -- the heap's description
 let o0:Obj:={cls:=.type "list",data:=.seq vs.toArray}
 have a0:∀b u,entH a o0 (ns.map V.int) a1 f b=some u->(a1=true/\b=a/\u=.frz o0 (.lst (ns.map V.int)))\/∃t∈f,t.P=b/\u=.tbl (.tab t.q):=λb u e=>by
  unfold entH at e
  split at e
  ·rename_i c
   cases e;exact .inl ⟨c.1,c.2,rfl⟩
  ·cases y:f.find? (λt=>decide (t.P=b)) with
   |none=>rw[y] at e;cases e
   |some t=>
    rw[y] at e;cases e;exact .inr ⟨t,k7 y,of_decide_eq_true (A78 (p:=λt:LTab=>decide (t.P=b)) y),rfl⟩
 have a8:∀t∈f,entH a o0 (ns.map V.int) a1 f t.P=some (.tbl (.tab t.q)):=λt i=>by
  unfold entH;rw[if_neg λz=>aj t i z.2];cases y:f.find? (λt'=>decide (t'.P=t.P)) with
  |none=>exact absurd (decide_eq_true (rfl:t.P=t.P)) (List.find?_eq_none.mp y t i)
  |some t'=>
   have h1:=k7 y;have h2:t'.P=t.P:=of_decide_eq_true (A78 (p:=λt':LTab=>decide (t'.P=t.P)) y);rw[Q1,ag t' h1 t i h2]
 generalize hH:entH a o0 (ns.map V.int) a1 f=H at a0 a8;have hS:SqL K H a (ns.map V.int):=by
  cases e:K.lookup a with
  |none=>
   refine .inl (.inr ⟨o0,?_⟩);rw[<- hH];unfold entH;rw[if_pos ⟨a4.mpr e,rfl⟩]
  |some o=>
   have y:=KX a o e;rw[ha] at y;cases y;exact .inr ⟨_,vs.toArray,_,e,rfl,rfl,rfl,by rw[C1,aa];exact hl,by simpa using rv⟩
 have af:HOk P w H g.heap:=λb u e=>by
  rcases a0 b u e with⟨_,rfl,rfl⟩|⟨t,i,rfl,rfl⟩
  ·exact⟨ha,by rw[A0];exact hl,vs,_,rv,ha⟩
  ·exact⟨#[],(j t i).2,trivial,λan cv z=>by cases z⟩
 have l:∀{b:Addr} {o:Obj},g.heap.get? b=some o->H b=none->(hidT g.heap H).get? b=some o:=λe n=>qa3 e n;have ab:∀{b:Addr} {o:Obj},g.heap.get? b=some o->(∀xs n,o.data≠.seq xs n)->(∀ps,o.data≠.fields ps)->H b=none:=λ{b o} e d1 d2=>by
  cases q:H b with
  |none=>rfl
  |some u=>
   rcases a0 b u q with⟨_,rfl,_⟩|⟨t,i,rfl,_⟩
   ·rw[ha] at e;cases e;exact absurd rfl (d1 _ _)
   ·rw[(j t i).2] at e;cases e;exact absurd rfl (d2 _)
 have a2:∀{b:Addr} {m:Ab0},g.heap.Ns b m->(hidT g.heap H).Ns b m:=λ{b m} ⟨o,es,ep,e,d,r⟩=>⟨o,es,ep,l e (ab e (λ_ _ z=>by rw[d] at z;cases z) λ_ z=>by rw[d] at z;cases z),d,r⟩
 have ae:K.In (hidT g.heap H):=fun b o e=>l (KX b o e) (by
  cases q:H b with
  |none=>rfl
  |some u=>
   rcases a0 b u q with⟨h1,rfl,_⟩|⟨t,i,rfl,_⟩
   ·rw[a4.mp h1] at e;cases e
   ·rw[al t i] at e;cases e)
 have ah:BM mg (hidT g.heap H):=by
  obtain⟨bm,ob,b1,b2,b3,b4,b5,b6⟩:=am;exact⟨bm,ob,b1,b2,l b3 (ab b3 (λ_ _ z=>by rw[b6] at z;cases z) λ_ z=>by rw[b6] at z;cases z),b4,b5,b6⟩
 have hM:Mod K mg (hidT g.heap H):=⟨ae,a2 a9,⟨mb,a2 hb,ai⟩,let⟨mc,h1,h2⟩:=ac;⟨mc,a2 h1,h2⟩⟩
 have e0:Env0 P w K mg (hidT g.heap H) callerA [] g H:=⟨rfl,hM,λb o e=>qcV e,Nat.le_of_eq (qXE _ _),trivial,λb hb=>absurd (show b∈([]:List Addr) from hb) (by simp),af,.of_eq hg⟩
 refine B46 ((F _ ae (a2 a9) ah).run callerA [] g H ⟨[.ref a],[]⟩ [.ref a] [.ref a] _ _ hr e0 (a7 g (.ref a)) (.cons rfl .nil) (ak H a8 hS)) λr s' h=>?_;cases r with
 |error e=>exact L9 h
 |ok fl=>
  cases fl with
  |next=>exact L9 h
  |brk=>exact L9 h
  |cont=>exact L9 h
  |ret u=>
   obtain⟨v,H',os,ad,un,a6,r',q⟩:=h;have q':v=.bl true:=q;subst q';obtain rfl:u=z9 true:=r';have a5:∀b o,g.heap.get? b=some o->s'.heap.get? b=some o\/∃t∈f,t.P=b:=λb o e=>by
    cases q:H b with
    |none=>exact .inl (un.keep b o e q (by intro z;exact absurd (show b∈([]:List Addr) from z) (by simp)) (by simp))
    |some u=>
     rcases a0 b u q with⟨_,rfl,rfl⟩|⟨t,i,e1,_⟩
     ·have z2:=un.frzs b o0 _ q;obtain⟨e1,_⟩:=af b _ q;obtain⟨y,_⟩:=a6 b _ z2;rw[e] at e1;cases e1;exact .inl y
     ·exact .inr ⟨t,i,e1⟩
   have a3:∀t∈f,∃more,s'.heap.get? t.P=some (A81 more):=λt i=>by
    obtain⟨more,e,_⟩:=(show ObjOk P w H' s'.heap t.P (.tbl (.tab t.q)) from a6 t.P _ (un.tbls t.P _ (a8 t i)));exact⟨more,e⟩
   refine⟨rfl,⟨λb o e=>?_,λb o e=>?_⟩,os,ad⟩
   ·rcases a5 b o e with z|⟨t,i,rfl⟩
    ·exact .inl z
    ·obtain⟨more,em⟩:=a3 t i;have y:=(j t i).2;rw[e] at y;cases y;exact .inr (.inl ⟨((j t i).1.tab (j t i).2).isCodeTable,rfl,#[],more,rfl,by rw[em];simp⟩)
   ·rcases a5 b o e with z|⟨t,i,rfl⟩
    ·exact⟨_,z⟩
    ·obtain⟨more,em⟩:=a3 t i;exact⟨_,em⟩
theorem walk_ofT {l:PySem.W.OpenLaw}{n k:Nat}{q:B13}{m:List Str}{XP:(Ab0)->Heap->Prop}{YP:World->Heap->Prop}{d:DefRec}{K:Params->Ab1}{sp:World->Sp}{x:Str}(i:List LTab)
  (hn:l.most=some n) (a3:n<=B12) (a5:d.params.defaults=[]) (hr:Room k callerA)
  (hY:∀(w:World) (h:Heap),YP w h->(K w.params).In h)
  (y:∀t∈i,((recsOf q).find? λe=>e.name==t.x).isSome=true) (r:∀(w:World),∀t∈i,A97 (K w.params) t.x=some (t.c,t.P)) (hK:∀w:World,A16 (K w.params)=true) (a0:∀t∈i,∀t'∈i,t.P=t'.P->t.q=t'.q)
  (F:∀ (w:World) (mg:Ab0) (fa:Addr) (h:Heap),(K w.params).In h->h.Ns B23 mg->mg d.name=some (.ref fa)->
   ∃fd:B22,(∀(s:Shared) (u:Value),BindsTo s fd ⟨[u],[]⟩ [(x,u)])/\
    ∀base:Heap,(K w.params).In base->base.Ns B23 mg->BM mg base->FnOk l.prog w (K w.params) mg base CX0 k fa fd [x] (sp w))
  (a4:∀(w:World) (H:Hp) (a:Addr) (ns:List Int),ns.length<=n->qg3 i H->SqL (K w.params) H a (ns.map V.int)->sp w [.ref a] H (λv _=>v=.bl true) λ_ _ _=>False):
  PySem.W.WalkO q m XP YP l.row.toRowW d [] (λf vs=>A86 f vs):=by
 refine Att.attach_call hn a5 λw s₀ s₁ mg mb fa o pm cd a7 a vs ns G Y ho hd a6 a2 z p j hg=>?_;have KX:=hY w _ Y;obtain⟨fd,hb,hF⟩:=F w mg fa _ KX G.T.g a2;refine qX2 i KX G.T.g G.T.b G.T.builtins G.T.nolimit hg z p (E3 j a3) hr G.T.bmain (λt ht=>?_) (hK w) a0 hF hb λH hO hS=>a4 w H a ns j hO hS;obtain⟨dd,a1⟩:=X7.mp (y t ht);exact PySem.W.tab_of G.T KX a1 (r w t ht)
section
open PySem.SeqAt
open PySem.AutoSeq1 (wpAny_loadPart')
open PySem.MeetsSeq PySem.MeetsSeq2 PySem.MeetsSeq3
theorem qRL:∀ns:List Int,HT.lexLt ns ns=false
 |[]=>rfl
 |x::ns=>by rw[HT.lexLt_cons,if_pos rfl];exact qRL ns
theorem qL6:∀{vs:List Value} {ns ms:List Int},B20 vs ns->B20 vs ms->ns=ms
 |_,_,_,.nil,.nil=>rfl
 |_,_,_,.cons a t h,.cons _ _ h'=>by rw[qL6 h h']
theorem qHC:∀{vs:List Value} {ns:List Int},B20 vs ns->∀(j:Nat) (hj:j<vs.length),∃n t,ns[j]?=some n/\vs[j]=.int n t
 |_,_,.cons a t h,0,_=>⟨a,t,rfl,rfl⟩
 |_,_,.cons a t h,j+1,hj=>qHC h j (Nat.lt_of_succ_lt_succ hj)
theorem qXU {A:Around}{s:Shared}{l b:Addr}{items a:Array Value}{ns d:List Int}(r:IsTup s.heap l items)(p:IsTup s.heap b a)(hi:B20 items.toList ns)(f:B20 a.toList d)(x:A.units<cLine):EqAt A s (.ref l) (.ref b) (decide (ns=d)):=by
 by_cases e:l=b
 ·subst e;obtain⟨o,y,_,n1,d1⟩:=r;obtain⟨o',v,_,n2,k⟩:=p;rw[y] at v;cases v;rw[d1] at k;cases k;rw[decide_eq_true (qL6 hi f)];exact EqAt.same _
 ·refine EqAt.of_refs e ?_;have z1:items.size=ns.length:=by rw[<- hi.length];simp
  have z2:a.size=d.length:=by rw[<- f.length];simp
  have:=RcAt.tuples (A:=A) (s:=s) (e:=fun j=>decide (ns[j]?=d[j]?)) r p x (fun j g w=>by
   obtain⟨n,t,z,i⟩:=qHC hi j (by simpa using g)
   obtain⟨m,u,e3,h⟩:=qHC f j (by simpa using w)
   have i:items[j]=.int n t:=by simpa using i
   have h:a[j]=.int m u:=by simpa using h
   rw[z,e3,i,h];have q:=EqAt.int_int (A:=A.in1) (s:=s) n t m u
   rwa[show(n==m)=decide (some n=some m) by simp[BEq.beq]] at q)
  rwa[show((C3 (min items.size a.size)).all (λj=>decide (ns[j]?=d[j]?))&&items.size==a.size)=decide (ns=d) by
   rw[G6,D6,F5,decide_eq_true_eq,beq_iff_eq]
   constructor
   ·rintro⟨g,w⟩;refine n0 λj=>?_;by_cases c:j<ns.length
    ·exact of_decide_eq_true (g j (E2.mpr (by lia)))
    ·rw[M0 (by lia),M0 (by lia)]
   ·rintro rfl;exact⟨λj _=>decide_eq_true rfl,by lia⟩] at this
theorem qNC (l b x y:Addr)(a c:Int)(t u:Tok)(n n2:Nat)(dd a2:Option Addr)(sl a1:Array (Option Value))(i1 i2:Array Value)(ns ms:List Int)(hi:B20 i1.toList ns)(hj:B20 i2.toList ms):
  Meets (Builtin.«tuple.__lt__» ⟨[.ref l,.ref b],[]⟩)
   (fun A R s=>s.heap.get? l=some { cls:=.type "tuple",dict:=dd,data:=.seq #[.int a t,.ref x] n,slots:=sl }/\s.heap.get? b=some { cls:=.type "tuple",dict:=a2,data:=.seq #[.int c u,.ref y] n2,slots:=a1 }/\
    IsTup s.heap x i1/\IsTup s.heap y i2/\A.units+1<cLine/\R (.ok (.ret (.bool (HT.lexLt (a::ns) (c::ms))))) s):=
 .of_wp λi w A R s h=>by
  obtain⟨m,g,d,k,o⟩:=s;obtain⟨hl,hb,hx,hy,hu,h⟩:=h;have f2:=l9
  wp_walk using B85 hl,B85 hb,wpAny_forIn_list _ (fun f b s'=>b.1=none/\s'=⟨m,g,d,k,o⟩/\((f=[(W2 a t,W2 c u),(C4 x,C4 y)]/\R (.ok (.ret (.bool (HT.lexLt (a::ns) (c::ms))))) ⟨m,g,d,k,o⟩)\/
   (f=[(C4 x,C4 y)]/\R (.ok (.ret (.bool (HT.lexLt ns ms)))) ⟨m,g,d,k,o⟩)\/(f=[]/\R (.ok (.ret (.bool false))) ⟨m,g,d,k,o⟩))) _
  case turn=>
   rintro⟨p,q⟩ f b s' ⟨v,rfl,⟨hz,j⟩|⟨hz,j⟩|⟨hz,j⟩⟩
   ·cases hz;rw[HT.lexLt_cons] at j;obtain⟨e,he,r⟩:=HT.eqAt_int A.in1 ⟨m,g,d,k,o⟩ a t c u;refine B10 (he i w _ _ ?_);cases e with
    |true=>
     rw[if_pos (r.mp rfl)] at j
     wp_walk
     exact⟨rfl,rfl,.inr (.inl ⟨rfl,j⟩)⟩
    |false=>
     rw[if_neg (λq=>absurd (r.mpr q) B1)] at j;have a0:=HT.rcLt_int A.in1 ⟨m,g,d,k,o⟩ a t c u i w
     wp_walk using a0
     exact⟨_,rfl,by simpa using j⟩
   ·cases hz;have he:=qXU (A:=A.in1) (s:=⟨m,g,d,k,o⟩) hx hy hi hj hu;refine B10 (he i w _ _ ?_);by_cases e:ns=ms
    ·rw[decide_eq_true e];subst e;rw[qRL] at j
     wp_walk
     exact⟨rfl,rfl,.inr (.inr ⟨rfl,j⟩)⟩
    ·rw[decide_eq_false e];have a0:∀(E:Aa1) (Q:Aa1),Q (.bool (HT.lexLt ns ms)) ⟨m,g,d,k,o⟩->wpAny (model i w) A.in1 (richCompare .Lt (.ref x) (.ref y)) Q E ⟨m,g,d,k,o⟩:=λE Q hq=>HT.lt_tupInts hx hy hi hj hu hq
     wp_walk using a0
     exact⟨_,rfl,by simpa using j⟩
   ·cases hz
  case fin=>
   rintro⟨b1,b2⟩ s' ⟨v,rfl,hh⟩;simp only at v;subst v;have j:R (.ok (.ret (.bool false))) ⟨m,g,d,k,o⟩:=by
    rcases hh with⟨z,_⟩|⟨z,_⟩|⟨_,z⟩
    ·cases z
    ·cases z
    ·exact z
   wp_walk
   exact⟨_,rfl,by simpa[Z3] using j⟩
  case h=>
   exact⟨rfl,rfl,.inl ⟨rfl,h⟩⟩
end
def KR2 (H:Hp)(y:V)(k:List Int):Prop:=∃r q a ns,y=.ref r/\k=a::ns/\H r=some (.tup [.int a,.ref q])/\H q=some (.tup (ns.map V.int))
theorem qhA {X:Cx}(hu:X.A.in1.units+1<cLine):KCmp X KR2:=by
 refine⟨λH H' y k sm ⟨r,q,a,ns,e1,e2,g1,g2⟩=>⟨r,q,a,ns,e1,e2,sm _ _ g1,sm _ _ g2⟩,?_⟩;intro Ab σ s H y y' u u' k k' Q E I ry ry' ⟨r,q,a,ns,e1,e2,g1,g2⟩ ⟨r',q',a',ns',e1',e2',g1',g2'⟩ h;subst e1 e2 e1' e2';cases ry;cases ry';obtain⟨a3,r1,p1,_⟩:=I.tuple (Ac0 g1);obtain⟨a0,j,i,_⟩:=I.tuple (Ac0 g1');obtain⟨w,r2,p2,_⟩:=I.tuple (Ac0 g2);obtain⟨e,m,f,_⟩:=I.tuple (Ac0 g2');obtain⟨v1,v2,rfl,⟨t,rfl⟩,c2⟩:=Vals.two r1;obtain⟨a2,a4,rfl,⟨t',rfl⟩,l⟩:=Vals.two j;cases c2;cases l;have i1:B20 w.toArray.toList ns:=qGL r2;have i2:B20 e.toArray.toList ns':=qGL m;obtain⟨⟨a5,dd,a1,sl⟩,ho,v,n,hd⟩:=id p1;obtain⟨⟨z,o,p,g⟩,c,b,n2,d⟩:=id i;simp only at v hd b d;subst v hd b d;exact richCompare_meets_room (op:=.Lt) ⟨_,ho,rfl⟩ ⟨_,c,rfl⟩ U9 Y5 (Y0 _ _) (qNC r r' q q' a a' t t' n n2 dd o sl g w.toArray e.toArray ns ns' i1 i2)
  ⟨ho,c,p2,f,hu,show z9 (HT.lexLt (a::ns) (a'::ns'))≠A04/\Q (.bool (HT.lexLt (a::ns) (a'::ns'))) s from⟨(λx=>nomatch x),h⟩⟩ (by lia)
def qeC (P:Addr)(q:Str)(fv:List Nat)(te:TE)(KR:Hp->V->List Int->Prop)(ta:TA):TE:=λσ H Q=>ta σ H λvs H1=>H1 P=some (.tbl (.tab q))/\
 ∃l xs ks m,vs=[.ref l]/\H1 l=some (.lst xs)/\ks.length=xs.length/\(∀(i:Nat) (x:V) (k:List Int),xs[i]?=some x->ks[i]?=some k->∀Hc,Sm0 H1 Hc->te (qIQ fv σ x) Hc λy H'=>Sm0 Hc H'/\KR H' y k)/\
  qf0 (some .non) (xs.zip ks)=some m/\∀H',Sm0 H1 H'->Q m H'
theorem qZI {e:Expr}{ta:TA}{np pos kpos j n r:Pos}{a:B39}{body:Expr}{d:Scope}{c P:Addr}{q:Str}{p:Str}{fv:List Nat}{te:TE}{KR:Hp->V->List Int->Prop}{nn:Nat}
  (rm:Room 1 X.A) (hc:X.calm=true) (hg:Gl X "min") (hm:X.mg "min" = none) (hv:B19 "min" = some (.builtin "min")) (hb:BM X.mg X.base) (w:X.env.code=.ref c) (hd:hdIn X.K c P=true) (hq:X.env.qual ++ "<lambda>" = q)
  (S:LmScope X d p fv) (a0:defaultsOf a X.env=([],[])) (v:∀(cl:List (Str×Addr)) (pm cd ct u:Value),B67 (W9 "<lambda>" q a body d cl pm cd ct) ⟨[u],[]⟩=pure [(p,u)])
  (KC:KCmp X KR) (ha:PA X [e] ta) (he:∀z,PE (lmCx X d p fv q z) body te) (hn:PE X (.Constant .none nn r) (tC .non)) (hs:B17 [e] X.env=[(false,eval e X.env)]:=by rfl):
  PE X (.Call (.Name "min" np) [e] [⟨some "key",.Lambda a body d n,kpos⟩,⟨some "default",.Constant .none nn r,j⟩] pos) (qeC P q fv te KR ta):=by
 intro Ab s σ H Q I h;refine B47 (qI1 I hg hm hv ?_ (by decide) (by decide))
 refine PyProof.Rows.callWith_kw (thn (ha pos Ab s σ H _ I h) λus s1 ⟨vs,H1,I1,r1,q1⟩=>?_) (by rw[hs];rfl) (by rw[hs];rfl)
 obtain⟨hP,l,xs,ks,m,rfl,hl,lk,hk,em,q2⟩:=q1;obtain⟨u,rfl,rx⟩:=qFF r1;cases rx;have C:=qY5 (c:=c) (P:=P) I1.ok.mod.kin hd;have pl:=qf5 (X:=X) (pos:=n) (body:=body) hb w C hq S a0;refine thn (qW4 (kpos:=kpos) (nm:=some "key") pl (qW4 (kpos:=j) (nm:=some "default") hn qeZ) pos Ab s1 σ H1 (λzs H2=>∃f cc ctv,zs=[.ref f,.non]/\Sm0 H1 H2/\H2 f=some (LamF X q a body d cc ctv f)/\H2 cc=some (.tbl (.cod q))) I1 ⟨hP,λf cc ctv H' y h0 hf t=>⟨f,cc,ctv,rfl,y,hf,t⟩⟩) λws s2 ⟨zs,H2,I2,rz,f,cc,ctv,ez,y,hf,t⟩=>?_;subst ez;obtain⟨u2,u3,rfl,r2,r3⟩:=Vals.two rz;cases r2;cases r3;have hA:X.A.in1.frames=some X.stack:=I2.ok.frames;exact qRK (H:=H2) hc rm hA S v he KC ⟨lk,λi x k hx a1 Hc g=>hk i x k hx a1 Hc λb o e=>g b o (y b o e)⟩ hf t (Ab2 (y _ _ hl)) (λH' g=>Ab2 (g _ _ (y _ _ hl))) I2
  (by unfold argsOk;kernel_rfl) (some .none) rfl (some .non) (.inr ⟨.non,.none,rfl,rfl,rfl⟩) m em λH' g=>q2 H' λb o e=>g b o (y b o e)
end L2
namespace L2.G
open PySem PySem.Spec PyProof.Rows
section
variable[NM]
variable{prog:B13}{w:World}{A:Around}{E:Aa1}{s:Shared}
theorem qIM {vs:List Value}:∀p∈(B49 vs).toList,p.1=p.2:=by
 intro p a;unfold B49 at a;rw[A66] at a
 induction vs with
 |nil=>cases a
 |cons v vs ih=>
  rcases B8.mp a with h|h
  ·rw[h]
  ·exact ih h
theorem qPK (vs:List Value):(B49 vs).toList.map (·.2)=vs:=by
 unfold B49;rw[A66,List.map_snd_zip (by simp)]
theorem qWE {vs:List Value}{xs:Array Keyed}(f:xs.Perm (B49 vs))(k:qI9 xs (B49 vs).size):(xs.map (·.2)).toList.Perm vs/\(xs.map (·.2)).toList.Pairwise (λu v=>NM.nm u<=NM.nm v):=by
 have e:=V7.mp f
 constructor
 ·have:=e.map (·.2);rw[qPK] at this;rw[A67];exact this
 ·rw[A67,Q0,G2];intro i j g l d;have n:=f.size_eq;have b:i<xs.size:=by simpa using g
  have c:j<xs.size:=by simpa using l
  have a:=k i j (R4 d) (by lia)
  rw[qdE b,qdE c] at a;have h:=qIM _ (e.mem_iff.mp (show xs[i]∈xs.toList by simp))
  have m:=qIM _ (e.mem_iff.mp (show xs[j]∈xs.toList by simp))
  rw[h,m] at a;simpa using a
theorem qSR {κ0:B45} {a:Addr} {vs:List Value} {n:Nat} {P:Fin->Shared->Prop} (r:s.heap.get? a=some (seqObj "list" vs.toArray n)) (hz:vs.length<=B12) (gd:∀v∈vs,NM.good v)
  (hk:∀h':Heap,(∀(b:Addr) (o:Obj),b≠a->s.heap.get? b=some o->h'.get? b=some o)->2<=vs.length->(∀{Q:B45->Shared->Prop},Q κ0 {s with heap:=h'}->wpAny (model prog w) A (keyKind' vs.toArray) Q E {s with heap:=h'})/\LtOk prog w A {s with heap:=h'} κ0)
  (h:∀(out:Array Value),out.toList.Perm vs->out.toList.Pairwise (λu v=>NM.nm u<=NM.nm v)->P (.done (.ret .none)) {s with heap:=sortedHeap s.heap a vs out}):wpAny (model prog w) A (Builtin.«list.sort» ⟨[.ref a],[]⟩) P E s:=by
 have la:=B5 r;have z0:vs.toArray.size<=B12:=by simpa using hz
 rw[list_sort_plain];refine B10 (listItems_at r rfl (B10 (listUpdate_at r rfl ?_ z0 (E7 _))));have t:∃k,(s.heap.update a (S7 λ_=>#[])).get? a=some (seqObj "list" #[] k):=⟨_,get?_update_seq r λ_=>#[]⟩;obtain⟨k,t⟩:=t;refine B10 (seqEpoch_at t rfl (B10 (wpAny_newTuple ?_ (by simpa using hz))))
 refine B10 (wpAny_newList (B25 ?_));have y:(((s.heap.update a (S7 λ_=>#[])).push (seqObj "tuple" vs.toArray 0)).push (seqObj "list" #[] 0)).get? a=some (seqObj "list" #[] k):=by
  rw[A51,A51]
  ·exact t
  ·rw[A68];exact D5 la
  ·rw[size_push',A68];exact D5 (S9 la)
 have l:∀(b:Addr) (o:Obj),b≠a->s.heap.get? b=some o->(((s.heap.update a (S7 λ_=>#[])).push (seqObj "tuple" vs.toArray 0)).push (seqObj "list" #[] 0)).get? b=some o:=λb o hb q=>
  A5 _ (A5 _ ((d9 _ _ _ _ hb).trans q))
 have e:∀xs:Array Keyed,xs.Perm (B49 vs)->qI9 xs (B49 vs).size->P (.done (.ret .none)) {s with heap:=sortedHeap s.heap a vs (xs.map (·.2))}:=by
  intro xs z sx;obtain⟨q1,q2⟩:=qWE z sx;exact h _ q1 q2
 have sz:∀xs:Array Keyed,xs.Perm (B49 vs)->(xs.map (·.2)).size<=B12+1:=by
  intro xs z;rw[Array.size_map,z.size_eq,pairsOf_size]
  lia
 show wpAny _ A _ P E {s with heap:=((s.heap.update a (S7 λ_=>#[])).push (seqObj "tuple" vs.toArray 0)).push (seqObj "list" #[] 0)};dsimp only;by_cases d:vs.toArray.size<2
 ·simp only[if_pos d];refine B10 (B11 ?_);rw[StateT.run_pure];refine B10 (B11 (B10 (seqEpoch_at y rfl (B10 (listUpdate_at y rfl ?_ (E7 _) (sz (B49 vs) (.refl _)))))));simp only[bne_self_eq_false,M6,if_false];refine B11 (e (B49 vs) (.refl _) λi j a1 hj=>?_);rw[pairsOf_size] at hj;rw[C1] at d;rw[show i=j by lia]
  exact K7 _
 ·simp only[if_neg d];rw[C1] at d;obtain⟨a0,a2⟩:=hk _ l (by lia)
  have ik:qC3 (B49 vs):=λp hp=>by
   have m:=X6 (f:=(·.2)) hp;rw[qPK] at m;rw[qIM p hp];exact gd _ m
  refine B10 (a0 (B10 (B18 (qXF (κ0:=κ0) (a₀:=B49 vs) (Q:=λ_ c=>gSG κ0 (B49 vs) c/\qI9 (arrOf c) (B49 vs).size) ik ⟨.refl _,rfl,rfl⟩ rfl λc g u=>⟨g,u⟩) ?_ λ_ _ x=>x)));rintro⟨_,c⟩ s2 ⟨es,g,u⟩;cases(show s2=_ from es);refine B10 (seqEpoch_at y rfl (B10 (listUpdate_at y rfl ?_ (E7 _) (sz _ g.perm))));dsimp only;rw[g.failed];simp only[bne_self_eq_false,M6,if_false];exact B11 (e _ g.perm u)
end
theorem qMU:∀a:List Int,HT.lexLt a a=false
 |[]=>rfl
 |x::a=>by rw[HT.lexLt_cons,if_pos rfl];exact qMU a
theorem qKY:∀a b c:List Int,HT.lexLt a b=true->HT.lexLt b c=true->HT.lexLt a c=true
 |[],[],_,h,_=>by cases h
 |[],_::_,[],_,h=>by cases h
 |[],_::_,_::_,_,_=>rfl
 |_::_,[],_,h,_=>by cases h
 |_::_,_::_,[],_,h=>by cases h
 |x::a,y::b,z::c,h1,h2=>by
  rw[HT.lexLt_cons] at h1 h2 ⊢;by_cases e1:x=y
  ·subst e1;rw[if_pos rfl] at h1;by_cases e2:x=z
   ·rw[if_pos e2] at h2 ⊢;exact qKY a b c h1 h2
   ·rw[if_neg e2] at h2 ⊢;exact h2
  ·rw[if_neg e1] at h1;have h1:=of_decide_eq_true h1;by_cases e2:y=z
   ·subst e2;rw[if_neg e1];exact decide_eq_true h1
   ·rw[if_neg e2] at h2;have h2:=of_decide_eq_true h2;rw[if_neg (by lia)]
    exact decide_eq_true (by lia)
theorem qPU:∀a b:List Int,HT.lexLt a b=false->HT.lexLt b a=false->a=b
 |[],[],_,_=>rfl
 |[],_::_,h,_=>by cases h
 |_::_,[],_,h=>by cases h
 |x::a,y::b,h1,h2=>by
  rw[HT.lexLt_cons] at h1 h2;by_cases e:x=y
  ·subst e;rw[if_pos rfl] at h1 h2;rw[qPU a b h1 h2]
  ·rw[if_neg e] at h1;rw[if_neg (λz=>e z.symm)] at h2;have:=of_decide_eq_false h1;have:=of_decide_eq_false h2
   lia
noncomputable def qJM (L:Aa0)(a:List Int):Int:=(((L.filter λx=>HT.lexLt x a).length:Nat):Int)
theorem qI0 {α:Type}{p q:α->Bool}:∀{L:List α},(∀x∈L,p x=true->q x=true)->(∃x∈L,p x=false/\q x=true)->(L.filter p).length<(L.filter q).length
 |[],_,⟨x,hx,_⟩=>nomatch hx
 |y::L,h,⟨x,hx,h1,h2⟩=>by
  have le:∀{M:List α},(∀x∈M,p x=true->q x=true)->(M.filter p).length<=(M.filter q).length:=by
   intro M hM
   induction M with
   |nil=>exact A7 _
   |cons z M ih=>
    have i:=ih λx hx=>hM x (A8 _ hx);rw[K8,K8];cases ep:p z
    ·cases q z
     ·simpa using i
     ·simp;lia
    ·rw[hM z (by simp) ep]
     simpa using i
  rw[K8,K8];rcases B8.mp hx with e|e
  ·subst e;have:=le λx hx=>h x (A8 _ hx);rw[h1,h2];simp
   lia
  ·have i:=qI0 (λx hx=>h x (A8 _ hx)) ⟨x,e,h1,h2⟩;cases ep:p y
   ·cases q y
    ·simpa using i
    ·simp;lia
   ·rw[h y (by simp) ep]
    simpa using i
theorem qVW {L:Aa0}{a b:List Int}(c:a∈L)(h:HT.lexLt a b=true):qJM L a<qJM L b:=by
 unfold qJM;have:=qI0 (p:=λx=>HT.lexLt x a) (q:=λx=>HT.lexLt x b) (L:=L) (λx _ d=>qKY _ _ _ d h) ⟨a,c,qMU a,h⟩
 lia
theorem qSV {L:Aa0}{a b:List Int}(d:a∈L)(c:b∈L):decide (qJM L a<qJM L b)=HT.lexLt a b:=by
 cases h:HT.lexLt a b with
 |true=>exact decide_eq_true (qVW d h)
 |false=>
  refine decide_eq_false λz=>?_;cases h2:HT.lexLt b a with
  |true=>have:=qVW c h2;lia
  |false=>rw[qPU a b h h2] at z;lia
noncomputable def qZZ (xs:List V):List Int:=xs.map fun|.int i=>i|_=>0
theorem qXC (t:List Int):qZZ (t.map V.int)=t:=by
 unfold qZZ;rw[T6];exact(O5 λx _=>rfl).trans (List.map_id _)
noncomputable def keyH (H:Hp):Value->List Int
 |.ref r=>match H r with
  |some (.tup xs)=>qZZ xs
  |_=>[]
 |_=>[]
@[reducible] def tupNM (H:Hp)(L:Aa0):NM:=⟨λv=>qJM L (keyH H v),λv=>∃r t,v=.ref r/\H r=some (.tup (t.map V.int))/\t∈L⟩
theorem keyH_at {H:Hp}{r:Addr}{t:List Int}(h:H r=some (.tup (t.map V.int))):keyH H (.ref r)=t:=by
 show(match H r with|some (.tup xs)=>qZZ xs|_=>[])=t
 rw[h];exact qXC t
section
variable{prog:B13}{w:World}{A:Around}{E:Aa1}{s:Shared}
theorem qWN {x y:Addr}{xs g:Array Value}{ns c:List Int}{Q:Bool->Shared->Prop}(p:A.units<cLine)(z:IsTup s.heap x xs)(u:IsTup s.heap y g)(r:B20 xs.toList ns)(iy:B20 g.toList c)(h:Q (HT.lexLt ns c) s):wpAny (model prog w) A (oneLt' true (.ref x) (.ref y)) Q E s:=by
 rw[oneLt'_eq];simp only[if_true];obtain⟨⟨a0,v,o,q⟩,f,k,n,m⟩:=id z;obtain⟨⟨l,i,j,d⟩,e,a,t,b⟩:=id u;simp only at k m a b;subst k m a b;refine B10 (wpAny_cRoomFor p ?_);refine B10 (wpAny_callSpecialIfBound?_slot ⟨_,f,rfl⟩ U9 (B86 U9 ⟨_,f,rfl⟩ Y5 (Y0 _ _) (HT.tuple_lt_ints x y xs g n t v i q d ns c r iy) ⟨f,e,?_⟩));exact B28 h
theorem qL3 {b:Bool}{Q:Bool->Shared->Prop}:∀{vs ws:List Value} {ns ms:List Int} {i:Nat} {fin:Bool},B20 vs ns->B20 ws ms->
  (fin=decide (vs.length<ws.length))->Q (HT.lexLt ns ms) s->PySem.W.KatLex prog w A b fin Q (vs.zip ws) i s
 |_,_,_,_,i,fin,.nil,.nil,ef,h=>by
  rw[ef];exact z6 h
 |_,_,_,_,i,fin,.nil,.cons _ _ _,ef,h=>by
  rw[ef];exact z6 h
 |_,_,_,_,i,fin,.cons _ _ _,.nil,ef,h=>by
  rw[ef];exact z6 h
 |_,_,_,_,i,fin,.cons (vs:=vs) (ns:=ns) x t hv,.cons (vs:=ws) (ns:=ms) y u hw,ef,h=>by
  rw[i9];refine PySem.W.kat_cons (wpAny_eqBool_int ?_);rw[HT.lexLt_cons] at h;by_cases e:x=y
  ·rw[if_pos e] at h;rw[beq_iff_eq.mpr e];refine PySem.W.kat_yes (qL3 hv hw ?_ h);rw[ef];simp
  ·rw[if_neg e] at h;rw[beq_eq_false_iff_ne.mpr e];refine PySem.W.kat_no ?_;cases eb:(b&&i==0) with
   |true=>exact oneLt_int h
   |false=>exact PySem.W.kat_one _ _ (lt_int h)
theorem qUR {x y:Addr}{xs e:Array Value}{ns d:List Int}{b:Bool}{Q:Bool->Shared->Prop}(f:IsTup s.heap x xs)(m:IsTup s.heap y e)(l:B20 xs.toList ns)(j:B20 e.toList d)(h:Q (HT.lexLt ns d) s):wpAny (model prog w) A (keyLt' (tuples' b) (.ref x) (.ref y)) Q E s:=by
 obtain⟨o,k,q,n,i⟩:=id f;obtain⟨p,c,g,r,a⟩:=id m;refine PySem.W.kat_lt k i c a (qL3 l j ?_ h);simp
theorem qX4 {b:List Addr}{ts:Aa0}{Q:B45->Shared->Prop}(h:Paired (λ(r:Addr) (t:List Int)=>∃xs:Array Value,IsTup s.heap r xs/\B20 xs.toList t) b ts)(c:∀t∈ts,t≠[])(p:2<=b.length)
  (q:Q (tuples' true) s):wpAny (model prog w) A (keyKind' (b.map C4).toArray) Q E s:=by
 have u:∃fs,PySem.W.KatTups s.heap (b.map C4) fs/\fs.length=b.length/\∀v∈fs,∃n t,v=.int n t:=by
  clear p
  induction h with
  |nil=>exact⟨[],trivial,rfl,λ_ z=>nomatch z⟩
  |@cons r t l1 l2 a _ ih=>
   obtain⟨fs,d,j,f⟩:=ih λt i=>c t (A8 _ i);obtain⟨xs,⟨o,m,l,n,k⟩,y⟩:=a;have i:t≠[]:=c t (by simp)
   obtain⟨xs⟩:=xs;cases y with
   |nil=>exact absurd rfl i
   |cons x tk rest=>
    refine⟨.int x tk::fs,.cons m l k rfl d,by simp[j],λv g=>?_⟩
    rcases B8.mp g with e|e
    ·exact⟨x,tk,e⟩
    ·exact f v e
 obtain⟨fs,d,j,f⟩:=u;refine PySem.W.kat_kind (T:=.type "int") d (by lia) (λv g=>?_) rfl ?_
 ·obtain⟨n,t,rfl⟩:=f v g;exact .now
 ·exact q
theorem qN2:∀(rs:List Addr) {Q:List (Option Value)->Shared->Prop},(∀r∈rs,∃xs:Array Value,IsTup s.heap r xs)->(∀L,Q L s)->wpAny (model prog w) A ((rs.map C4).mapM firstOfTuple') Q E s
 |[],_,_,h=>by rw[j4,List.mapM_nil];exact B11 (h _)
 |r::rs,Q,t,h=>by
  obtain⟨xs,o,ho,hc,n,hd⟩:=t r (by simp)
  rw[C7,A82];refine B10 ?_;rw[A11];refine B10 (j7 (show PySem.W.Looks (model prog w) s.heap (typeOf (.ref r)) o.cls from(X1 ho).andThen .now) ?_);rw[hc,if_neg (by first|decide|simp)]
  refine B10 (listItems_at ho hd (B11 ?_));exact B10 (qN2 rs (Q:=λbs s'=>wpAny (model prog w) A (pure (xs[0]?::bs)) Q E s') (λr hr=>t r (A8 _ hr)) λL=>B11 (h _))
theorem qUQ {b:Addr}{c:List Addr}{Q:B45->Shared->Prop}(j:IsTup s.heap b #[])(h:∀r∈c,∃xs:Array Value,IsTup s.heap r xs)
  (q:Q oneType' s):wpAny (model prog w) A (keyKind' ((b::c).map C4).toArray) Q E s:=by
 rw[kat_kind_eq,A52,map_eq_pure_bind,C7,A82];obtain⟨o,k,m,n,t⟩:=id j;refine B10 (B10 (B10 ?_));rw[A11];refine B10 (j7 (show PySem.W.Looks (model prog w) s.heap (typeOf (.ref b)) o.cls from(X1 k).andThen .now) ?_);rw[m,if_neg (by first|decide|simp)]
 refine B10 (listItems_at k t (B11 ?_));refine B10 (qN2 c h λL=>B11 (B11 ?_));have p:((((#[]:Array Value)[0]?)::L).toArray.all λx=>x.isSome)=false:=by simp
 have e2:((((((#[]:Array Value)[0]?)::L).toArray)[0]?).bind id).isSome=false:=by simp
 rw[if_neg (by rw[p];exact B1),if_neg (by rw[e2];exact B1)]
 rw[oneTypeOnly'_eq,A52,map_eq_pure_bind];refine B10 (B10 (B10 (PySem.W.kas_mapM (r:=l7 "tuple") _ (λv i Q' l=>?_) (B11 ?_))))
 ·rw[<- C7] at i;obtain⟨r,u,rfl⟩:=D9.mp i;have:∃xs:Array Value,IsTup s.heap r xs:=by
   rcases B8.mp u with e|e
   ·rw[e];exact⟨_,j⟩
   ·exact h r e
  obtain⟨xs,z,f,d,n2,y⟩:=this;refine j7 (show PySem.W.Looks (model prog w) s.heap (typeOf (.ref r)) z.cls from(X1 f).andThen .now) ?_;rw[d];exact l
 ·have g:(A98 (λ_=>l7 "tuple") (C4 b::A98 C4 c)).toArray[0]?=some (l7 "tuple"):=by simp
  have a:((A98 (λ_=>l7 "tuple") (C4 b::A98 C4 c)).toArray.all λx=>x==l7 "tuple")=true:=by
   simp only[List.all_toArray,List.all_map,F5];intro _ _
   rfl
  rw[g];simp only[a,if_true];exact B11 (B11 q)
end
section
variable{X:Cx}
abbrev qH3 (H:Hp)(rs:List Addr)(ts:Aa0):Prop:=Paired (λ(r:Addr) (t:List Int)=>H r=some (.tup (t.map V.int))) rs ts
theorem qHM:∀{rs:List Addr} {its:List Value},Vals (rs.map V.ref) its->its=rs.map C4
 |[],_,.nil=>rfl
 |r::rs,_,.cons h t=>by
  rw[C7,<- qHM t];have:_=C4 r:=h;rw[this]
def qJJ:Value->Addr
 |.ref a=>a
 |_=>0
theorem qPH:∀{vs:List Value},(∀v∈vs,∃a,v=.ref a)->(vs.map qJJ).map C4=vs
 |[],_=>rfl
 |v::vs,h=>by
  obtain⟨a,rfl⟩:=h v (by simp)
  rw[C7,C7,qPH λv hv=>h v (A8 _ hv)]
  rfl
theorem qSE {H:Hp}:∀{rs:List Addr} {ts:Aa0},qH3 H rs ts->ts=rs.map λr=>keyH H (.ref r)
 |_,_,.nil=>rfl
 |_,_,.cons h t=>by rw[C7,keyH_at h,<- qSE t]
theorem qVF {H:Hp}:∀{rs:List Addr},(∀r∈rs,∃t:List Int,H r=some (.tup (t.map V.int)))->qH3 H rs (rs.map λr=>keyH H (.ref r))
 |[],_=>.nil
 |r::rs,h=>by
  obtain⟨t,e⟩:=h r (by simp)
  exact .cons (by dsimp only;rw[keyH_at e];exact e) (qVF λr hr=>h r (A8 _ hr))
theorem qJQ {H:Hp}:∀{rs:List Addr} {ts:Aa0},qH3 H rs ts->∀{r:Addr},r∈rs->∃t,t∈ts/\H r=some (.tup (t.map V.int))
 |_,_,.nil,_,h=>nomatch h
 |_,_,.cons (b:=t) g T,r,h=>by
  rcases B8.mp h with e|e
  ·exact⟨t,by simp,by rw[e];exact g⟩
  ·obtain⟨t,h1,h2⟩:=qJQ T e;exact⟨t,A8 _ h1,h2⟩
theorem qVT {Ab:Aa2}{s:Shared}{σ:St}{H:Hp}{Q:VK}{A:Around}{E:Aa1}{d:List Addr}{ts:Aa0}{D:Addr}(I:Inv X Ab σ (Ag H D (.lst (d.map V.ref))) s)(hD:H D=none)(T:qH3 H d ts)
  (hk:(∀t∈ts,t≠[])\/∃ts',ts=[]::ts') (hu:A.units+8<cLine)
  (q:∀rs' ts',rs'.Perm d->qH3 H rs' ts'->ts'.Perm ts->ts'.Pairwise (λa b=>HT.lexLt b a=false)->Q (.ref D) (Ag H D (.lst (rs'.map V.ref)))):
  wpAny (model X.prog X.w) A (call (.builtin "list.sort") [.ref D]) (λ_ s'=>EP X Ab σ Q (.ref D) s') E s:=by
 obtain⟨z,a3,n,rv,hl,e⟩:=I.lstM qA1;have ei:=qHM rv;subst ei;have hz:(d.map C4).length<=B12:=by simpa using z
 letI:NM:=tupNM H ts
 have gd:∀v∈d.map C4,NM.good v:=λv hv=>by
  obtain⟨r,hr,rfl⟩:=D9.mp hv;obtain⟨t,ht,g⟩:=qJQ T hr;exact⟨r,t,rfl,g,ht⟩
 have f:∀(h':Heap),(∀(b:Addr) (o:Obj),b≠D->s.heap.get? b=some o->h'.get? b=some o)->∀(r:Addr) (t:List Int),H r=some (.tup (t.map V.int))->∃xs:Array Value,IsTup h' r xs/\B20 xs.toList t:=by
  intro h' c r t g;have nr:r≠D:=qA6 g hD;obtain⟨a3,r1,⟨o,ho,hc,n,hd⟩,_⟩:=I.tuple (Ac0 (show(Ag H D (.lst (d.map V.ref))) r=some (.tup (t.map V.int)) by rw[qA9 nr];exact g))
  exact⟨a3.toArray,⟨o,c r o nr ho,hc,n,hd⟩,qGL r1⟩
 have j:∀(A':Around) (h':Heap) (κ:B45),(∀(x y:Addr) (xs ys:Array Value) (ns ms:List Int) (Q:Bool->Shared->Prop) (E:Aa1),IsTup h' x xs->IsTup h' y ys->B20 xs.toList ns->B20 ys.toList ms->Q (HT.lexLt ns ms) {s with heap:=h'}->wpAny (model X.prog X.w) A' (keyLt' κ (.ref x) (.ref y)) Q E {s with heap:=h'})->
   (∀(b:Addr) (o:Obj),b≠D->s.heap.get? b=some o->h'.get? b=some o)->LtOk X.prog X.w A' {s with heap:=h'} κ:=by
  intro A' h' κ a0 c;refine⟨λ{x y Q E} hx hy h=>?_⟩;obtain⟨r1,t1,rfl,g1,m1⟩:=hx;obtain⟨r2,t2,rfl,g2,m2⟩:=hy;obtain⟨xs,m,p⟩:=f h' c r1 t1 g1;obtain⟨ys,i2,j2⟩:=f h' c r2 t2 g2;refine a0 r1 r2 xs ys t1 t2 Q E m i2 p j2 ?_;have e1:NM.nm (C4 r1)=qJM ts t1:=by show qJM ts (keyH H (.ref r1))=_;rw[keyH_at g1]
  have e2:NM.nm (C4 r2)=qJM ts t2:=by show qJM ts (keyH H (.ref r2))=_;rw[keyH_at g2]
  rw[e1,e2,qSV m1 m2] at h;exact h
 have a2:∀out:Array Value,out.toList.Perm (d.map C4)->out.toList.Pairwise (λu v=>NM.nm u<=NM.nm v)->EP X Ab σ Q (.ref D) {s with heap:=sortedHeap s.heap D (d.map C4) out}:=by
  intro out p1 p2;have a5:∀v∈out.toList,∃a,v=C4 a:=λv hv=>by
   obtain⟨r,_,er⟩:=D9.mp (p1.mem_iff.mp hv);exact⟨r,er.symm⟩
  have k:=qPH a5;have p3:(out.toList.map qJJ).Perm d:=by
   have:=p1.map qJJ;rw[T6] at this;have e:d.map (qJJ ∘ C4)=d:=(O5 λx _=>rfl).trans (List.map_id _)
   rwa[e] at this
  obtain⟨e2,a4⟩:=sortedHeap_at (vs:=d.map C4) (out:=out) e;have T':qH3 H (out.toList.map qJJ) ((out.toList.map qJJ).map λr=>keyH H (.ref r)):=qVF λr hr=>by
   obtain⟨t,_,g⟩:=qJQ T (p3.mem_iff.mp hr);exact⟨t,g⟩
  have p4:((out.toList.map qJJ).map λr=>keyH H (.ref r)).Perm ts:=by
   have:=p3.map λr=>keyH H (.ref r);rw[<- qSE T] at this;exact this
  have p5:((out.toList.map qJJ).map λr=>keyH H (.ref r)).Pairwise (λa b=>HT.lexLt b a=false):=by
   rw[<- k,Q0] at p2;rw[Q0];refine p2.imp_of_mem λ{a b} ha hb le=>?_;have ma:keyH H (.ref a)∈ts:=p4.mem_iff.mp (D9.mpr ⟨a,ha,rfl⟩);have mb:keyH H (.ref b)∈ts:=p4.mem_iff.mp (D9.mpr ⟨b,hb,rfl⟩);have le:qJM ts (keyH H (.ref a))<=qJM ts (keyH H (.ref b)):=le;rw[<- qSV mb ma];exact decide_eq_false (by lia)
  refine⟨.ref D,Ag H D (.lst ((out.toList.map qJJ).map V.ref)),?_,rfl,q _ _ p3 T' p4 p5⟩;have hu:Ag (Ag H D (.lst (d.map V.ref))) D (.lst ((out.toList.map qJJ).map V.ref))=Ag H D (.lst ((out.toList.map qJJ).map V.ref)):=qNB;rw[<- hu];refine I.write (x:=D) (e:=D) (t':=s.toks) (by rw[qA1];exact trivial) (.inl rfl) (λb u hb a1=>?_) ⟨_,a4⟩ ?_
  ·rw[sortedHeap_old hb (B5 a1)];exact a1
  ·refine⟨?_,out.toList,e2,?_,by simpa using a4⟩
   ·rw[A0,p3.length_eq];simpa using z
   ·have:=qK5 (out.toList.map qJJ);rw[k] at this;exact this
 rcases hk with hk|⟨ts',hk⟩
 ·refine B27 slot_list_sort ⟨_,e,rfl⟩ entry_list_sort (qSR (κ0:=tuples' true) (n:=n) e hz gd (λh' c h2=>⟨λ{Q} l=>?_,j _ h' _ (λx y xs ys ns ms Q E m i2 p j2 l=>qUR m i2 p j2 l) c⟩) λout p1 p2=>⟨_,rfl,a2 out p1 p2⟩) (args_list_sort _);refine qX4 (s:={s with heap:=h'}) (ts:=ts) ?_ hk (by simpa using h2) l
  exact Paired.mapP T λr t g=>f h' c r t g
 ·refine B27 slot_list_sort ⟨_,e,rfl⟩ entry_list_sort (qSR (κ0:=oneType') (n:=n) e hz gd (λh' c h2=>⟨λ{Q} l=>?_,j _ h' _ (λx y xs ys ns ms Q E m i2 p j2 l=>?_) c⟩) λout p1 p2=>⟨_,rfl,a2 out p1 p2⟩) (args_list_sort _)
  ·cases T with
   |nil=>cases hk
   |@cons r t l1 l2 g T=>
    have et:t=[]:=by cases hk;rfl
    subst et;obtain⟨xs,m,p⟩:=f h' c r [] g;obtain⟨xs⟩:=xs;cases p;refine qUQ (s:={s with heap:=h'}) m (λr hr=>?_) l;obtain⟨t,_,g⟩:=qJQ T hr;obtain⟨xs,i,_⟩:=f h' c r t g;exact⟨xs,i⟩
  ·rw[keyLt'_oneType];exact qWN (s:={s with heap:=h'}) (by first|exact Y1 (by show _<=A.units+8;simp[Around.in1]) hu|(show A.units+1<cLine;lia)|(show A.units<cLine;lia)) m i2 p j2 l
theorem qeI {prog:B13} {w:World} {d:Addr} {l:Obj} {f:Array DictEntry} {ep:Nat} (y:(d==B32)=false) (m:l.cls=.type "dict") (n:l.data=.dict f ep):
  PySem.W.KdlSrc prog w "dict" d d f.size (λi v=>∃h:i<f.size,v=f[i].key) (λh=>h.get? d=some l) where
 type:=λs h=>⟨_,h,m⟩
 there:=λh x=>⟨B5 x,B5 x⟩
 keep:=λh c x k=>k d (.inl rfl) _ x
 notList:=by decide
 notTuple:=by decide
 hint:=λA E s Q x q=>PySem.W.kdl_hint_dict ⟨_,x,m⟩ q
 iter:=λA s u x=>by
  have r:d≠s.heap.objs.size:=D5 (B5 x);refine⟨_,λi h=>qV8 h s.heap.objs.size d i f.size ep/\h.get? d=some l,λE Q q=>qQC ⟨_,x,m⟩ y x n q,?_,⟨B3 _ rfl,A5 _ x⟩⟩;refine⟨λb g=>?_,λi h c a k=>⟨k _ (by simp) _ a.1,k _ (by simp) _ a.2⟩,λi j Q E t a q=>?_,λj Q E a q=>?_,λi j Q E a q=>B88 ⟨_,a.1,rfl,rfl⟩ q⟩
  ·have e:b=s.heap.objs.size:=by simpa using g
   simp[e]
  ·refine qQD a.1 a.2 n t λc p k=>?_;exact q _ c j.toks ⟨t,rfl⟩ ⟨p,(k.2 d r).trans a.2⟩ λb o g e=>(k.2 b (λz=>g (by simp[z]))).trans e
  ·refine qTL u a.1 (A7 _) a.2 n λc k=>?_;exact q c j.toks λb o g e=>k b o (λz=>g (by simp[z])) e
theorem qR3 {Ab:Aa2}{σ:St}{H:Hp}{Q:VK}{f:List Addr}{ts:Aa0}(k:X.A.units+64<cLine){s1:Shared}(I1:Inv X Ab σ H s1)(T:qH3 H f ts)(i:(∀t∈ts,t≠[])\/∃ts',ts=[]::ts')(h:f.length<=B12)
  (q:∀ a rs' ts',H a=none->rs'.Perm f->qH3 H rs' ts'->ts'.Perm ts->ts'.Pairwise (fun a b=>HT.lexLt b a=false)->Q (.ref a) (Ag H a (.lst (rs'.map V.ref)))):wpAny (model X.prog X.w) X.A.in1 (do
   let l <- newList (f.map C4)
   let _ <- B60 [l] (call (.builtin "list.sort") [l] [])
   ret l) (λfin s'=>∃r,fin=.done (.ret r)/\EP X Ab σ Q r s') X.xe s1:=by
 refine B10 (wpAny_newList ?_ (by rw[A0];exact h))
 have g:=I1.hok.fresh (A7 s1.heap.objs.size);have j:=I1.laid (a:=s1.heap.objs.size) (t':=s1.toks) (o:=.lst (f.map V.ref)) (h':=s1.heap.push {cls:=.type "list",data:=.seq (f.map C4).toArray}) (λb u e=>A5 _ e) (A7 _) ⟨by rw[A0];exact h,_,0,qK5 f,B3 _ rfl⟩
 refine B10 (B25 (B18 (qVT (E:=X.xe) j g T i (by show X.A.units+1+8<cLine;lia) λrs' ts' a b c d=>q _ rs' ts' g a b c d) (λ_ s' x=>?_) λ_ _ e=>e))
 exact B11 ⟨_,rfl,x⟩
theorem call_sortedTD (hc:X.calm=true) (hu:X.A.units+64<cLine):qDX X (.builtin "sorted") (fun xs H Q=>∃ p o Af ts,xs=[.ref p]/\H p=some (.frz o (.dT Af))/\Af.map (·.1)=ts.map (fun t=>t.map (E8:Int->Key))/\(∃ ts',ts=[]::ts')/\
  ∀a rs' ts',H a=none->qH3 H rs' ts'->ts'.Perm ts->ts'.Pairwise (λa b=>HT.lexLt b a=false)->Q (.ref a) (Ag H a (.lst (rs'.map V.ref)))):=by
 intro Ab s σ H xs us Q I r h;obtain⟨p,o,Af,ts,rfl,hq,n,z,q⟩:=h;obtain⟨u,rfl,rx⟩:=qFF r;cases rx;refine W6 kind_sorted plain_sorted entry_sorted (args_sorted1 _) ?_;unfold Builtin.«sorted»;refine B10 (m:=checkCount "sorted" 1 1 _) (B11 ?_);obtain⟨e1,e2,e3,es,ep,e4,e5,a4⟩:=I.heldT hq;obtain⟨a5,hz,_⟩:=(show ObjOk X.prog X.w H s.heap p (.frz o (.dT Af)) from I.hok p _ hq);refine B10 (d7 (A:=X.A.in1) (qeI e2 e3 e4) (I.ok.hd hc) e1 (by rw[e5];exact hz) λh' tk c kept d=>?_)
 obtain⟨l1,l2⟩:=d;have lt:ts.length=Af.length:=by
  have:=congrArg R7 n;simpa using this.symm
 -- the keys' addresses
 have j:∀(i:Nat),i<c.toList.length->∃(r:Addr) (t:List Int),c.toList[i]?=some (.ref r)/\ts[i]?=some t/\H r=some (.tup (t.map V.int)):=by
  intro i hi;have x:i<c.size:=by simpa using hi
  obtain⟨h3,e6⟩:=l2 i c[i] (C8 x);obtain⟨k,v,r,g1,g2,g3⟩:=a4 i h3;have f:(Af.map (·.1))[i]?=some k:=by rw[B6,g1];rfl
  rw[n,B6] at f;cases et:ts[i]? with
  |none=>rw[et] at f;cases f
  |some t=>
   rw[et] at f;have f:t.map (E8:Int->Key)=k:=B0 f;refine⟨r,t,?_,rfl,?_⟩
   ·rw[F6,C8 x,e6,g2]
   ·rw[g3,<- f,T6]
    rfl
 have e:∀(l:List Value) (ts:Aa0),l.length=ts.length->(∀(i:Nat),i<l.length->∃(r:Addr) (t:List Int),l[i]?=some (.ref r)/\ts[i]?=some t/\H r=some (.tup (t.map V.int)))->∃rs:List Addr,l=rs.map C4/\qH3 H rs ts:=by
  intro l
  induction l with
  |nil=>
   intro ts g _;cases ts with
   |nil=>exact⟨[],rfl,.nil⟩
   |cons _ _=>cases g
  |cons v l ih=>
   intro ts g h2;cases ts with
   |nil=>cases g
   |cons t ts=>
    obtain⟨r,t',a1,y,a3⟩:=h2 0 (by simp)
    obtain⟨rs,b1,b2⟩:=ih ts (by simpa using g) λi hi=>by
     have:=h2 (i+1) (by simpa using hi)
     simpa using this
    have a1:v=.ref r:=by simpa using a1
    have y:t=t':=by simpa using y
    subst a1 y;exact⟨r::rs,by rw[b1];rfl,.cons a3 b2⟩
 obtain⟨rs,e7,T⟩:=e c.toList ts (by rw[E6,l1,e5,lt]) j
 have a0:rs.length<=B12:=by rw[C6 T,lt];exact hz
 have:=qR3 (s1:={s with heap:=h',toks:=tk}) hu (I.kept (t':=tk) kept) T (.inr z) a0 (Q:=Q) λa rs' ts' g h2 h3 h4 h5=>q a rs' ts' g h3 h4 h5;rw[<- e7] at this;exact this
end
end L2.G
namespace L2
open PySem PySem.Spec PyProof.Rows
variable{X:Cx}
theorem qUG (hu:X.A.units+64<cLine):OpR X (B30 .Eq) (λx y H Q=>∃(p l:Addr) (rs rs':List Addr) (Ae:Aa0),x=.ref p/\y=.ref l/\SqT X.K H p (rs.map V.ref)/\SqT X.K H l (rs'.map V.ref)/\Paired (λr (zs:List Int)=>H r=some (.tup (zs.map V.int))) rs Ae/\Paired (λr (zs:List Int)=>H r=some (.tup (zs.map V.int))) rs' Ae/\Q (.bl true) H):=by
 intro Ab s σ H x y v u Q I w n h;obtain⟨p,l,rs,rs',a,rfl,rfl,z,h2,m,d,q⟩:=h;cases w;cases n;obtain⟨us,r1,p1,z1⟩:=I.tuple z;obtain⟨vs,r2,p2,z2⟩:=I.tuple h2;have b:=qRB r1;have c:=qRB r2;have l1:=C6 m;have l2:=C6 d;subst b;subst c;refine PySem.SeqAt.eq_tupleAt (e:=λ_=>true) p1 p2 (by lia) (λj k f=>?_) ⟨.bl true,H,I,?_,q⟩
 ·simp at k f;have g:∀{rs:List Addr} {a:Aa0},Paired (λr (zs:List Int)=>H r=some (.tup (zs.map V.int))) rs a->∀(i:Nat) (hi:i<rs.length) (hj:i<a.length),H rs[i]=some (.tup (a[i].map V.int)):=by
   intro rs a h
   induction h with
   |nil=>intro i hi;simp at hi
   |cons r t ih=>
    intro i hi hj;cases i with
    |zero=>exact r
    |succ i=>exact ih i (by simpa using hi) (by simpa using hj)
  have a1:=g m j k (by lia)
  have o:=g d j f (by lia)
  simp only[S4,List.getElem_map];exact qRP I (by show X.A.units+1<cLine;lia) (Ac0 a1) (Ac0 o)
 ·have b:(C3 (min (rs.map C4).toArray.size (rs'.map C4).toArray.size)).all (λ_=>true)=true:=by simp
  have c:((rs.map C4).toArray.size==(rs'.map C4).toArray.size)=true:=by simp;lia
  rw[b,c]
  rfl
structure Clb (P:B13)(w:World)(K:Ab1)(mg:Ab0)(base:Heap)(n:Nat)(f:Addr)(fd:B22)(x:Str)(ps:List Str)(sp:Sp):Prop where
 G:FnOk P w K mg base CX0 n f fd ps sp
 b:Binds K fd ps []
 k:G8 K (.ref f)=true
 m:mg x=some (.ref f)
theorem qAI {X:Cx}{n k:Nat}{f:Addr}{j:B22}{x:Str}{ps:List Str}{sp:Sp}{e:Expr}{a:List Expr}{t:TA}{p pos:Pos}(C:Clb X.prog X.w X.K X.mg X.base n f j x ps sp)(h:Room k X.A)(l:Gl X x)
  (i:PA X (e::a) t) (d:n<=k:=by decide) (c:(x==("__debug__" : Str))=false:=by decide) (o:B17 (e::a) X.env=(false,eval e X.env)::B17 a X.env:=by rfl) (g:(backTo pos (B17 a X.env)).any (·.1)=false:=by rfl):
  PE X (.Call (.Name x p) (e::a) [] pos) (qeG sp [] E0 t):=qRD C.G (h.mono d) l C.m C.k C.b .nil qgZ i c o g
theorem nmD {i:Nat}{t u:TS}{D:Ends}{x:V}{σ:St}{H:Hp}(h:∀D':Ends,(∀σ H,D.nx σ H->D'.nx σ H)->(∀v H,D.rt v H->D'.rt v H)->tSeq t u D' (σ.set i (some x)) H):qXK i x σ H λσ2 H2=>tSeq t u D σ2 H2:=h D (λ_ _ z=>z) λ_ _ z=>z
theorem nmT {t u:TS}{D:Ends}{σ:St}{H:Hp}(h:∀D':Ends,(∀σ H,D.nx σ H->D'.nx σ H)->(∀v H,D.rt v H->D'.rt v H)->tSeq t u D' σ H):tSeq t u D σ H:=h D (λ_ _ z=>z) λ_ _ z=>z
theorem nmI {g:TG}{c:TT}{t u:TS}{D:Ends}{x:V}{σ:St}{H:Hp}(h:∀D':Ends,(∀σ H,D.nx σ H->D'.nx σ H)->(∀v H,D.rt v H->D'.rt v H)->g x σ H λσ2 H2=>tIfS c t u D' σ2 H2):g x σ H λσ2 H2=>tIfS c t u D σ2 H2:=h D (λ_ _ z=>z) λ_ _ z=>z
def Tf (K:Ab1)(x:Str)(s:Stmt)(f:Addr):Prop:=V3 K B23 x=some (some (.ref f))/\∃fd,Fun K x x s f fd
theorem Tf.use {K:Ab1}{h:Heap}{mg:Ab0}{x:Str}{s:Stmt}{f:Addr}(X:K.In h)(G:h.Ns B23 mg)(T:Tf K x s f):∃fd,Fun K x x s f fd/\mg x=some (.ref f):=
 let⟨a,fd,F⟩:=T
 ⟨fd,F,p9 X G a⟩
theorem Tf.clb {P:B13}{w:World}{K:Ab1}{h base:Heap}{mg:Ab0}{x:Str}{s:Stmt}{f:Addr}{n:Nat}{ps:List Str}{sp:Sp}(X:K.In h)(G:h.Ns B23 mg)(T:Tf K x s f)(a:∀fd,Fun K x x s f fd->FnOk P w K mg base CX0 n f fd ps sp)
  (b:∀(kV doc pm:Value) (an:Option Addr) (cdv ct:Value) (us:List Value),us.length=ps.length->B67 (O7 x x (qEG s) (qAL s) (qA7 s) .none kV doc pm an cdv ct) ⟨us,[]⟩=pure (ps.zip us)):∃fd,Clb P w K mg base n f fd x ps sp:=
 let⟨fd,F,m⟩:=T.use X G
 ⟨fd,a fd F,F.binds b,F.kp,m⟩
def Zs (K:Ab1):List Str->Prop
 |[]=>True
 |x::r=>V3 K B23 x=some none/\Zs K r
def Zm (mg:Ab0):List Str->Prop
 |[]=>True
 |x::r=>mg x=none/\Zm mg r
theorem Zs.mg {K:Ab1}{h:Heap}{mg:Ab0}(X:K.In h)(G:h.Ns B23 mg):∀{l:List Str},Zs K l->Zm mg l
 |[],_=>trivial
 |_::_,⟨a,b⟩=>⟨PySem.W.mg_none_of X G a,Zs.mg X G b⟩
theorem qB2 {N P:List Str}{a:Scope}(e:a.kind=.function:=by rfl)(f:a.isCoroutine=false:=by rfl)(h:a.isGenerator=false:=by rfl)(c:N.Nodup:=by decide +kernel)(d:N.take P.length=P:=by rfl)(g:∀x∈P,a.names.lookup x=some .local\/a.names.lookup x=some .cell:=by decide +kernel)(b:∀y∈a.names,y.2≠.free:=by decide +kernel):FnScope N P a:=⟨e,f,h,c,d,g,b⟩
section
variable{P:B13}{w:World}{K:Ab1}{mg:Ab0}{base:Heap}
theorem Fun.okA {x a:Str}{st:Stmt}{f:Addr}{d:B22}{N ps:List Str}{k:Nat}{sp:Sp}(F:Fun K x a st f d)(S:FnScope N ps (qA7 st))
  (b:∀ (cdv:Value) (A:Around) (outer:List Env) (s:Shared) (H:Hp) (vs:List V) (Q:VK) (E:XK),Room k (A.deeper (envOfC a (qA7 st) s.heap.objs.size f cdv))->sp vs H Q E->
   ∃t,PSs (cxOf CX0 P w K mg base N a (qA7 st) f cdv A outer s H E).nox (qAL st) t/\t {nx:=λ_ H'=>Q .non H',rt:=Q} (start N vs) H)
  (c:∀vs H Q E,sp vs H Q E->vs.length=ps.length:=by intro vs H Q E h;(repeat (obtain⟨_,h⟩:=h));subst_vars;rfl):FnOk P w K mg base CX0 (k+1) f d ps sp:=F.ok S c b
@[elab_as_elim] theorem us5 {α:Type}{P:List α->Prop}(f:List α)(g:f.length=5)(h:∀a b c d e,P [a,b,c,d,e]):P f:=by
 match f,g with
 |[a,b,c,d,e],_=>exact h a b c d e
def Bs (P:B13)(w:World)(base:Heap):Prop:=P=P/\w=w/\base=base
theorem Tf.c {h:Heap}{x:Str}{s:Stmt}{f:Addr}{n:Nat}{ps:List Str}{sp:Sp}(X:K.In h)(G:h.Ns B23 mg)(B:Bs P w base)(T:Tf K x s f)(a:∀fd,Fun K x x s f fd->FnOk P w K mg base CX0 n f fd ps sp)
  (b:∀ (kV doc pm:Value) (an:Option Addr) (cdv ct:Value) (us:List Value),us.length=ps.length->B67 (O7 x x (qEG s) (qAL s) (qA7 s) .none kV doc pm an cdv ct) ⟨us,[]⟩=pure (ps.zip us):=by
   intro _ _ _ _ _ _ us hl;first|exact us1 us hl (λ_=>rfl)|exact us2 us hl (λ_ _=>rfl)|exact us3 us hl (λ_ _ _=>rfl)|exact us4 us hl (λ_ _ _ _=>rfl)|exact us5 us hl (λ_ _ _ _ _=>rfl)|exact us0 us hl rfl):∃fd,Clb P w K mg base n f fd x ps sp:=T.clb X G a b
end
section
variable{X:Cx}{pos:Pos}
theorem qDS {x:Str}(i:Nat)(b:X.N.Nodup:=by exact qh0 (by kernel_rfl))(hi:X.N[i]?=some x:=by rfl)(a:Loc X.env.scope x:=by exact E9 rfl)(c:X.fn x=true\/X.env.scope.names.lookup x=some .local:=by first|exact .inl rfl|exact .inr rfl|assumption):PG X (.Name x pos) (qXK i):=qAJ b hi a c
end
section
variable{prog:B13}{w:World}{A:Around}{E:Aa1}{s:Shared}
theorem qZY {items:List Value}{a:List Int}(h:B20 items a):items.length=a.length/\∀(i:Nat) (y:Int),a[i]?=some y->∃tk,items[i]?=some (.int y tk):=by
 induction h with
 |nil=>exact⟨rfl,λi y e=>by simp at e⟩
 |cons n tk hm ih=>
  refine⟨by rw[C5,C5,ih.1],λi y e=>?_⟩
  cases i with
  |zero=>cases e;exact⟨_,rfl⟩
  |succ i=>exact ih.2 i y e
theorem qJK {t:Addr}{items:Array Value}{a:List Int}{x:Int}{u:Tok}{j:Nat}{Q:Aa1}(ht:IsTup s.heap t items)(hi:B20 items.toList a)(k:a[j]?=some x)(hn:∀i,i<j->a[i]?≠some x)
  (h:Q (.int j s.toks) {s with toks:=s.toks+1}):wpAny (model prog w) A (Builtin.«tuple.index» ⟨[.ref t,.int x u],[]⟩) (λfin s'=>∃v,fin=.done (.ret v)/\Q v s') E s:=by
 obtain⟨hl,hg⟩:=qZY hi;have g:items.size=a.length:=by simpa using hl
 have a0:j<items.size:=by rw[g];exact(A3.mp k).1
 show wpAny _ _ (Builtin.Tuple.tupleItemsOf (.ref t) >>= _) _ _ s;refine B10 (tupleItemsOf_ ht ?_);refine B10 (B11 ?_);refine B10 (B11 ?_);refine B10 ?_;rw[A00];have q:(z7 [0:min items.size items.size])=items.size:=by simp[z7]
 rw[q];refine wpAny_forIn_list _ (λb r s'=>r.1=none/\s'=s/\∃i,b=A23 i (items.size-i) 1/\i<=j) _ ?_ ?_ _ _ ⟨rfl,rfl,0,by simp,E7 _⟩
 ·rintro y b r s' ⟨hr,rfl,i,e,hij⟩;obtain⟨m,o⟩:∃m,items.size-i=m+1:=⟨items.size-i-1,by lia⟩
  rw[o,A69] at e
  injection e with e1 e2
  subst e1;have c:y<a.length:=by lia
  obtain⟨z,l⟩:=hg y _ (A4 c);have n:items[y]?=some (.int a[y] z):=by simpa using l
  dsimp only;rw[n];dsimp only;refine B10 (wpAny_eqBool_int ?_);by_cases f:a[y]=x
  ·have p:y=j:=by
    by_cases d:y<j
    ·exact absurd (by rw[A4 c,f]) (hn y d)
    ·lia
   subst p;rw[show(a[y]==x)=true from by rw[f];exact beq_self_eq_true _]
   refine B10 (B10 (wpAny_mkInt (B11 ?_)));exact B11 (B11 ⟨_,rfl,h⟩)
  ·rw[show(a[y]==x)=false from by simpa using f]
   refine B11 ⟨rfl,rfl,y+1,by rw[e2];congr 1;lia,?_⟩
   rcases j6 y j with d|hge
   ·exact d
   ·have:y=j:=by lia
    subst this;rw[A4 c] at k;exact absurd (B0 k) f
 ·rintro⟨b1,b2⟩ s' ⟨hb,rfl,i,e,hij⟩;have:(A23 i (items.size-i) 1).length=0:=by rw[<- e];rfl
  rw[List.length_range'] at this
  lia
end
def qSW (K:Ab1):V->List V->Hp->VK->Prop:=λx vs H Q=>∃(a:Addr) (ys:List Int) (y:Int) (j:Nat),x=.ref a/\vs=[.int y]/\SqT K H a (ys.map V.int)/\ys[j]?=some y/\(∀i,i<j->ys[i]?≠some y)/\Q (.int j) H
theorem qUJ:MtR X "tuple.index" (qSW X.K):=by
 intro o s σ H x l v m Q I e d h;obtain⟨a,n,y,j,rfl,rfl,k,i,c,q⟩:=h;cases e;obtain⟨u,rfl,g⟩:=d.one;obtain⟨t,rfl⟩:=g;obtain⟨f,r,b,z⟩:=I.tuple k;refine B27 F.slot_tuple_index b.typeIs F.entry_tuple_index (qJK b (qGL (by simpa using r)) i c ?_) (F.args_tuple_index_2 _ _)
 exact⟨.int j,H,I.tok _,⟨_,rfl⟩,q⟩
theorem qKV {K:Ab1} (a:X.K=K):MtR X "tuple.index" (qSW K):=by
 subst a;exact qUJ
def tBMT (r:V->List V->Hp->VK->Prop)(to:TE)(t:TA):TE:=λσ H Q=>to σ H λx H1=>(∃a xs,x=.ref a/\BareT H1 a xs)/\t σ H1 λxs H2=>r x xs H2 Q
theorem qb1 {o e:Expr} {f:List Expr} {y:TE} {t:TA} {name:Str} {g c:Pos} {id:String} {r:V->List V->Hp->VK->Prop} (pa:PlainAttrs "tuple") (k:Slot "tuple" name id) (p:typeOf (.builtin id)=pure (.type "method_descriptor")) (z:MtR X id r) (ho:PE X o y) (ha:PA X (e::f) t)
  (i:B76 o name X.env (eval o X.env)=eval o X.env:=by rfl)
  (m:((backTo c (B17 (e::f) X.env)).all (fun x=>!x.1) && (backToKw c (B75 [] X.env)).all (fun x=>x.1.isSome)
   && decide ((e::f).length+([]:List B71).length+(if([]:List B71).isEmpty then 0 else 1)<30))=true:=by rfl)
  (j:(g.endLine==c.line)=true:=by rfl) (hs:B17 (e::f) X.env=(false,eval e X.env)::B17 f X.env:=by rfl) (d:(backTo c (B17 f X.env)).any (·.1)=false:=by rfl):
  PE X (.Call (.Attribute o name g) (e::f) [] c) (tBMT r y t):=by
 intro q s σ H Q I h;refine wpAny_Call_method_late i m j rfl (thn (ho q s σ H _ I h) λv s1 ⟨x,H1,I1,r1,ty,q1⟩=>?_);obtain⟨a,xs,rfl,n,hq,hc,hd⟩:=ty;cases r1;obtain⟨l,_⟩:=(show ObjOk X.prog X.w H1 s1.heap a (.frz n (.tup xs)) from I1.hok a _ hq);refine⟨"tuple",id,pa,k,p,⟨n,l,hc⟩,λb e=>?_,?_⟩
 ·cases e;exact⟨n,l,hd⟩
 have u:=ha c q s1 σ H1 _ I1 q1;rw[hs] at u ⊢;refine Y6 (by show(false||(backTo c (B17 f X.env)).any (·.1))=false;rw[d]<;>rfl) (A05 ?_)
 exact thn u λus s2 ⟨vs,H2,I2,r2,q2⟩=>z q s2 σ H2 (.ref a) vs (.ref a) us Q I2 rfl r2 q2
theorem Rd.same {H H':Hp}{a:Addr}{u:HO}(h:Rd H a u)(s:∀b o,H b=some o->H' b=some o):Rd H' a u:=by
 rcases h with h|⟨o,h⟩
 ·exact .inl (s _ _ h)
 ·exact .inr ⟨o,s _ _ h⟩
def ItB (K:Ab1)(a:Addr)(n:Nat):It:=
 ⟨λi H=>i<n/\∃xs x,SqL K H a xs/\xs[n-1-i]?=some x,λi H x H'=>H'=H/\∀xs,SqL K H a xs->xs[n-1-i]?=some x,λi H=>i=n⟩
theorem qYW {P:B13}{w:World}{K:Ab1}{tg:Expr}(a g:Addr)(n:Nat):Turn P w K tg (ItB K a n) [g] g (λi h=>h.IsRevIter g a ((n:Int)-1-(i:Int))) where
 mem:=by simp
 obj:=λi h f b l=>by
  have e:b=g:=by simpa using l
  subst e;obtain⟨o,e,c,d⟩:=f;exact⟨o,e,λv z=>by rw[d] at z;cases z⟩
 keep:=λi h q f k=>f.at λo e=>k g (by simp) o e
 item:=by
  intro X r hw hK hc i Ab s σ H E I m f hg;subst r hw hK;obtain⟨hi,xs,x,hq,hx⟩:=hg;obtain⟨a0,rv,p,hz⟩:=I.list hq;obtain⟨u,hu,ru⟩:=rv.get hx;obtain⟨f0,t,f2,y,f4,f5⟩:=m g (by simp)
  rw[show(n:Int)-1-(i:Int)=((n-1-i:Nat):Int) by lia] at f
  refine wpAny_pyNext_rev_item f p.isList (x:=u) (by simpa using hu) λq j sb=>?_
  have I1:Inv X Ab σ H {s with heap:=q}:=I.turned (t':=s.toks) (λb o l e=>(sb.2 b l).trans e) f0 t y f4 f5;obtain⟨o,e,c,d⟩:=id j;rw[show((n-1-i:Nat):Int)-1=(n:Int)-1-((i+1:Nat):Int) by lia] at j
  exact⟨u,rfl,qRT (s:={s with heap:=q}) e c d (by decide) ⟨x,H,I1,ru,⟨rfl,λys hy=>by rw[I.list_inj hy hq];exact hx⟩,j,λb l=>(m b l).1⟩⟩
 done:=by
  intro X r hw hK hc i Ab s σ H E I m f hg;subst r hw hK;have e:i=n:=hg;subst e;obtain⟨f0,t,f2,y,f4,f5⟩:=m g (by simp)
  rw[show(i:Int)-1-(i:Int) = -1 by lia] at f
  exact wpAny_pyNext_rev_end (I.ok.hd hc) f λq eb=>⟨rfl,I.turned (t':=s.toks) (λb o l e=>eb b o l e) f0 t y f4 f5⟩
 self:=λ_ _ _ _ _ f h=>wpAny_pyIter_revIter f h
section
variable{X:Cx}{tg:Expr}
def iRev (K:Ab1)(ta:TA):TI:=λσ H R=>ta σ H λvs H1=>∃l xs,vs=[.ref l]/\SqL K H1 l xs/\R (ItB K l xs.length) H1
theorem qQJ:B19 "reversed" = some (.type "reversed"):=by decide +kernel
theorem qf2 {a:Expr} {d:TA} {p pos:Pos} (t:Gl X "reversed") (k:X.mg "reversed" = none) (j:PA X [a] d) (i:B17 [a] X.env=[(false,eval a X.env)]:=by rfl):
  PI X tg (.Call (.Name "reversed" p) [a] [] pos) (iRev X.K d):=by
 intro w s σ H R I h;refine Call_ (qI1 I t k qQJ (K3 (thn (j pos w s σ H _ I h) λus s1 ⟨vs,H1,I1,r1,q1⟩=>?_) i rfl));obtain⟨l,f,e,x,q⟩:=q1;subst e;obtain⟨u,rfl,n⟩:=qFF r1;cases n;obtain⟨c,m,v,y⟩:=I1.list x;refine call_reversed_list v.isList ?_;have g:(s1.heap.push (revObj l ((c.toArray.size:Int)-1))).IsRevIter s1.heap.objs.size l ((f.length:Int)-1-((0:Nat):Int)):=⟨_,B3 _ rfl,rfl,by rw[C1,<- m.length];simp[revObj]⟩
 refine wpAny_pyIter_revIter g ?_;refine⟨s1.heap.objs.size,[s1.heap.objs.size],_,_,H1,rfl,I1.kept (t':=s1.toks) λb o e=>A5 _ e,qYW l _ f.length,g,λb r=>?_,q⟩;have e:b=s1.heap.objs.size:=by simpa using r
 subst e;exact I1.fpOk (A7 _) (I1.hok.fresh (A7 _))
end
theorem qdH {K:Ab1}{a:Addr}{xs:List V}{g:TG}{c:TS}{D:Ends}{σ:St}{H:Hp}(Pv:Nat->St->Hp->Prop)(k:Pv 0 σ H)(d:∀i σ H,i<=xs.length->Pv i σ H->SqL K H a xs)
  (f:∀i x σ H,i<xs.length->xs[xs.length-1-i]?=some x->Pv i σ H->g x σ H λσ2 H2=>c {D with nx:=Pv (i+1),ct:=Pv (i+1),bk:=D.nx} σ2 H2) (h:∀σ H,Pv xs.length σ H->D.nx σ H):
  ∃W:Nat->Nat->St->Hp->Prop,(∃m,W 0 m σ H)/\∀i m σ H,W i m σ H->
   ((ItB K a xs.length).stop i H/\D.nx σ H)\/((ItB K a xs.length).go i H/\∃N:St->Hp->Prop,(∀σ' H',N σ' H'->∃m',m'<m/\W (i+1) m' σ' H')/\∀x H',(ItB K a xs.length).yld i H x H'->g x σ H' λσ2 H2=>c {D with nx:=N,ct:=N,bk:=D.nx} σ2 H2):=by
 refine⟨λi m σ H=>m=xs.length-i/\i<=xs.length/\Pv i σ H,⟨xs.length,by simp,E7 _,k⟩,?_⟩
 rintro i m σ H ⟨rfl,hi,p⟩;have q:=d i σ H hi p;by_cases b:i<xs.length
 ·have l:xs.length-1-i<xs.length:=by lia
  refine .inr ⟨⟨b,xs,xs[xs.length-1-i],q,by simp[l]⟩,Pv (i+1),λσ' H' j=>⟨xs.length-(i+1),by lia,rfl,b,j⟩,λx H' y=>?_⟩
  obtain⟨e,y⟩:=y;subst e;exact f i x σ _ b (y xs q) p
 ·have e:i=xs.length:=by lia
  subst e;exact .inl ⟨rfl,h σ H p⟩
end L2
namespace Fw
open PySem L2
theorem qCM:B19 "len" = some (.builtin "len"):=by decide +kernel
theorem qYG:B19 "min" = some (.builtin "min"):=by decide +kernel
theorem qbH:B19 "max" = some (.builtin "max"):=by decide +kernel
theorem qLN:B19 "sorted" = some (.builtin "sorted"):=by decide +kernel
theorem qYH:B19 "divmod" = some (.builtin "divmod"):=by decide +kernel
theorem qbI:B19 "all" = some (.builtin "all"):=by decide +kernel
theorem qCK:B19 "isinstance" = some (.builtin "isinstance"):=by decide +kernel
theorem qfZ:B19 "int" = some (.type "int"):=by decide +kernel
theorem qdU:B19 "bool" = some (.type "bool"):=by decide +kernel
theorem qOR:B19 "list" = some (.type "list"):=by decide +kernel
theorem qBX:B19 "tuple" = some (.type "tuple"):=by decide +kernel
theorem qTT:B19 "range" = some (.type "range"):=by decide +kernel
theorem qG3:B19 "enumerate" = some (.type "enumerate"):=by decide +kernel
structure StAt (H:Hp)(d c:Addr)(t:Int)(ns:List Int):Prop where
 dict:H d=some (.dK [(K9 "cells",.ref c),(K9 "turn",.int t)])
 list:H c=some (.lst (ns.map V.int))
 ne:0<ns.length
 len:ns.length<=63
 pos:0<=t
def Keep (d c:Addr)(H H':Hp):Prop:=∀b o,H b=some o->b≠d->b≠c->H' b=some o
theorem Keep.refl {d c:Addr}{H:Hp}:Keep d c H H:=λ_ _ h _ _=>h
theorem Keep.trans {d c:Addr}{H H1 H2:Hp}(a:Keep d c H H1)(b:Keep d c H1 H2):Keep d c H H2:=λx o h n m=>b x o (a x o h n m) n m
theorem Keep.of_same {d c:Addr}{H H':Hp}(h:Same H H'):Keep d c H H':=λb o e _ _=>h b o e
theorem qA4 {H:Hp}{p:Addr}(h:H p=none)(o:HO):Same H (Ag H p o):=λb u q=>by rw[qA9 (qA6 q h)];exact q
theorem qZX {d c:Addr}{H:Hp}{p:Addr}(h:H p=none)(o:HO):Keep d c H (Ag H p o):=.of_same (qA4 h o)
theorem StAt.ndc {H:Hp}{d c:Addr}{t:Int}{ns:List Int}(S:StAt H d c t ns):d≠c:=qC1 S.dict S.list (by intro z;cases z)
theorem StAt.same {H H':Hp}{d c:Addr}{t:Int}{ns:List Int}(S:StAt H d c t ns)(h:Same H H'):StAt H' d c t ns:=⟨h _ _ S.dict,h _ _ S.list,S.ne,S.len,S.pos⟩
theorem StAt.new {H:Hp}{d c p:Addr}{t:Int}{ns:List Int}(S:StAt H d c t ns)(h:H p=none)(o:HO):StAt (Ag H p o) d c t ns:=S.same (qA4 h o)
theorem s_cs:¬(C0 "cells" = C0 "turn"):=by decide +kernel
theorem s_ct:¬((K9 (C0 "cells"):Key)=K9 (C0 "turn")):=λh=>s_cs (B02 h)
theorem qdO {H:Hp} {d c:Addr} {t:Int} {ns:List Int} (S:StAt H d c t ns):DGet H d (.str "turn") (some (.int t)):=by
 have h:=DGet.k (k:=K9 "turn") S.dict;rw[qB8 s_ct,qBE rfl] at h;exact h
theorem qOL {H:Hp} {d c:Addr} {t:Int} {ns:List Int} (S:StAt H d c t ns):DGet H d (.str "cells") (some (.ref c)):=by
 have h:=DGet.k (k:=K9 "cells") S.dict;rw[qBE rfl] at h;exact h
theorem qZ8 (c:Addr) (t u:Int):putK [((K9 "cells" : Key),V.ref c),(K9 "turn",V.int t)] (K9 "turn") (V.int u)=[((K9 "cells" : Key),V.ref c),(K9 "turn",V.int u)]:=by
 unfold putK;simp[s_cs]
theorem qdN {H:Hp} {d c:Addr} {t u:Int} {ns:List Int} (S:StAt H d c t ns):DPut H d (.str "turn") (.int u) (Ag H d (.dK [(K9 "cells",.ref c),(K9 "turn",.int u)])):=by
 have h:=DPut.k (k:=K9 "turn") (v:=.int u) S.dict (by rw[B24];exact(by decide:2<16777216))
 rw[qZ8] at h;exact h
theorem StAt.turn {H:Hp} {d c:Addr} {t u:Int} {ns:List Int} (S:StAt H d c t ns) (h:0<=u):StAt (Ag H d (.dK [(K9 "cells",.ref c),(K9 "turn",.int u)])) d c u ns:=
 ⟨qA1,by rw[qA9 (J6 S.ndc)];exact S.list,S.ne,S.len,h⟩
theorem StAt.put {H:Hp}{d c:Addr}{t:Int}{ns a:List Int}(S:StAt H d c t ns)(h:a.length=ns.length):StAt (Ag H c (.lst (a.map V.int))) d c t a:=
 ⟨by rw[qA9 S.ndc];exact S.dict,qA1,by rw[h];exact S.ne,by rw[h];exact S.len,S.pos⟩
abbrev TB:Int:=1000000000
def qSH:Sp:=λvs H Q _=>∃d c t ns m,vs=[.ref d,.int m]/\StAt H d c t ns/\t<=TB/\1<=m/\m<=1000000/\∀k ns' H',0<=k->k<m->StAt H' d c (t+1) ns'->Keep d c H H'->Q (.int k) H'
def qVS (K:Ab1):Sp:=λvs H Q _=>∃(a:Addr) (ns:List Int),vs=[.ref a]/\SqL K H a (ns.map V.int)/\ns.length<=63/\∀d c ms H',StAt H' d c 0 ms->Same H H'->H d=none->H c=none->Q (.ref d) H'
noncomputable def cutI {α:Type}(xs:List α)(lo hi:Option Int):List α:=(xs.drop (HT.sIx xs.length 0 lo)).take (HT.sIx xs.length xs.length hi-HT.sIx xs.length 0 lo)
theorem qaM {α:Type}(f:α->V)(xs:List α)(lo hi:Option Int):cutV (xs.map f) lo hi=(cutI xs lo hi).map f:=by
 unfold cutV cutI;rw[A0,<- List.map_drop,<- List.map_take]
theorem qaN {α:Type}(xs:List α)(lo hi:Option Int):(cutI xs lo hi).length<=xs.length:=by
 unfold cutI;rw[D8,Q8]
 lia
theorem qb5 (c:Addr) (t:Int):qKW [] [((K9 (C0 "cells"):Key),V.ref c),(K9 (C0 "turn"),V.int t)]=[((K9 (C0 "cells"):Key),V.ref c),(K9 (C0 "turn"),V.int t)]:=by
 unfold qKW;simp only[w6,List.foldl_nil];unfold putK;simp[s_cs]
theorem qd8 {xs:List V}{j:Nat}(h:j<xs.length):ixN xs.length (j:Int)=some j:=by
 unfold ixN;rw[if_pos (by lia),if_pos (by lia),D7]
def qgP (K:Ab1):Sp:=λvs H Q _=>∃(a:Addr) (ns:List Int),vs=[.ref a]/\SqL K H a (ns.map V.int)/\ns.length<=63/\∀H',Q (.bl true) H'
theorem cut {t u:TS}{D:Ends}{σ:St}{H:Hp}(h:∀N:St->Hp->Prop,(∀σ H,u D σ H->N σ H)->t {D with nx:=N} σ H):tSeq t u D σ H:=h _ λ_ _ z=>z
theorem opq {A:Prop}(h:∀G:Prop,(A->G)->G):A:=h A id
structure Rise (k:Int)(zs:List Int):Prop where
 up:zs.Pairwise (·<·)
 in_:∀x∈zs,0<=x/\x<k
theorem Rise.nil {k:Int}:Rise k []:=⟨.nil,λ_ h=>nomatch h⟩
theorem Rise.mono {j k:Int}{zs:List Int}(h:Rise j zs)(l:j<=k):Rise k zs:=⟨h.up,λx a=>⟨(h.in_ x a).1,by have:=(h.in_ x a).2;lia⟩⟩
theorem Rise.nodup {k:Int}{zs:List Int}(h:Rise k zs):zs.Nodup:=h.up.imp λ{a b} c=>by lia
theorem Rise.len {zs:List Int}{k:Nat}(h:Rise (k:Int) zs):zs.length<=k:=by
 have a:zs ⊆ (C3 k).map λ(i:Nat)=>(i:Int):=λx b=>by
  have:=h.in_ x b;exact D9.mpr ⟨x.toNat,E2.mpr (by lia),by lia⟩
 have:=T8 h.nodup a;simpa using this
theorem mem_addI {zs:List Int}{k x:Int}:x∈addI zs k↔x∈zs\/x=k:=by
 unfold addI
 split
 ·rename_i h
  constructor
  ·exact .inl
  ·rintro(z|rfl)
   ·exact z
   ·exact h
 ·simp
theorem qJ6 {zs:List Int}(e:zs.Pairwise (·<=·))(c:zs.Nodup):zs.Pairwise (·<·):=by
 have d:zs.Pairwise (λa b=>a<=b/\a≠b):=List.pairwise_and_iff.mpr ⟨e,c⟩;exact d.imp λ{a b} ⟨x,y⟩=>by lia
noncomputable def qAO (lo hi:Int):List Int:=(C3 (hi-lo).toNat).map λ(i:Nat)=>lo+i
theorem qKL (lo hi:Int):qGY lo hi=(qAO lo hi).map V.int:=by
 unfold qGY qAO;rw[T6]
 rfl
theorem mem_rangeI {lo hi x:Int}:x∈qAO lo hi↔lo<=x/\x<hi:=by
 unfold qAO;rw[D9]
 constructor
 ·rintro⟨i,a,e⟩;have:=E2.mp a
  lia
 ·intro h;exact⟨(x-lo).toNat,E2.mpr (by lia),by lia⟩
theorem qMO (lo hi:Int):(qAO lo hi).length=(hi-lo).toNat:=by unfold qAO;simp
theorem qFL (lo hi:Int):(qAO lo hi).Pairwise (·<·):=by
 unfold qAO;exact Q0.mpr (Y8.imp λ{a b} h=>by lia)
theorem qH5 {lo hi:Int}(h:0<=lo):Rise hi (qAO lo hi):=⟨qFL _ _,λx a=>by have:=mem_rangeI.mp a;lia⟩
abbrev NetL (H:Hp):List Addr->Aa0->Prop:=Paired λr zs=>H r=some (.tup (zs.map V.int))
theorem NetL.keep {d c:Addr}{H H':Hp}{a:List Addr}{Ae:Aa0}(h:NetL H a Ae)(b:∀r zs,H r=some (.tup zs)->r≠d/\r≠c)(k:Keep d c H H'):NetL H' a Ae:=by
 induction h with
 |nil=>exact .nil
 |cons r t ih=>exact .cons (k _ _ r (b _ _ r).1 (b _ _ r).2) ih
theorem NetL.same {H H':Hp}{a:List Addr}{Ae:Aa0}(h:NetL H a Ae)(k:∀r zs,H r=some (.tup zs)->H' r=some (.tup zs)):NetL H' a Ae:=by
 induction h with
 |nil=>exact .nil
 |cons r t ih=>exact .cons (k _ _ r) ih
theorem NetL.get {H:Hp}:∀{rs:List Addr} {Ae:Aa0} {i:Nat} {zs:List Int},NetL H rs Ae->Ae[i]?=some zs->∃r,rs[i]?=some r/\H r=some (.tup (zs.map V.int))
 |_,_,_,_,.nil,e=>by simp at e
 |_,_,0,_,.cons r _,e=>by simp at e;subst e;exact⟨_,rfl,r⟩
 |_,_,i+1,zs,.cons _ t,e=>by
  obtain⟨r,h1,h2⟩:=NetL.get (i:=i) (zs:=zs) t (by simpa using e)
  exact⟨r,by simpa using h1,h2⟩
def NetAt (H:Hp)(a:Addr)(Ae:Aa0):Prop:=∃rs:List Addr,H a=some (.tup (rs.map V.ref))/\NetL H rs Ae
theorem StAt.tup {H:Hp}{d c:Addr}{t:Int}{ns:List Int}(S:StAt H d c t ns){r:Addr}{zs:List V}(h:H r=some (.tup zs)):r≠d/\r≠c:=
 ⟨qC1 h S.dict (by intro z;cases z),qC1 h S.list (by intro z;cases z)⟩
theorem NetAt.keep {H H':Hp}{d c:Addr}{t:Int}{ns:List Int}(S:StAt H d c t ns){a:Addr}{Ae:Aa0}(h:NetAt H a Ae)(k:Keep d c H H'):NetAt H' a Ae:=by
 obtain⟨f,b,g⟩:=h;exact⟨f,k _ _ b (S.tup b).1 (S.tup b).2,g.keep (λr i e=>S.tup e) k⟩
theorem NetAt.same {H H':Hp}{a:Addr}{Ae:Aa0}(h:NetAt H a Ae)(k:Same H H'):NetAt H' a Ae:=by
 obtain⟨b,d,c⟩:=h;exact⟨b,k _ _ d,c.same λr f e=>k _ _ e⟩
theorem NetAt.len {H:Hp}{a:List Addr}{Ae:Aa0}(h:NetL H a Ae):a.length=Ae.length:=C6 h
def WFn (Ae:Aa0):Prop:=∀(i:Nat) zs,Ae[i]?=some zs->Rise (i:Int) zs
theorem qGJ {α β:Type}{F:α->β->Prop}{a:α}{b:β}{l₁:List α}{l₂:List β}(h:Paired F l₁ l₂)(r:F a b):Paired F (l₁++[a]) (l₂++[b]):=X4 h r
theorem qAB {H Hc:Hp}{p:Addr}{o:HO}(h:Same H Hc)(a:H p=none):Same H (Ag Hc p o):=λb u e=>by rw[qA9 (qA6 e a)];exact h b u e
theorem qHW {H:Hp}{p:Addr}{xs:List V}{o:HO}{a:List Addr}{Ae:Aa0}(h:NetL H a Ae)(b:H p=some (.lst xs)):NetL (Ag H p o) a Ae:=
 h.same λr c e=>by rw[qA9 (qC1 e b (by intro z;cases z))];exact e
theorem qBF (a:List Addr)(r:Addr):a.map V.ref++[V.ref r]=(a++[r]).map V.ref:=by rw[C2];rfl
theorem qAV {α β:Type}{F:α->β->Prop}:∀{l₁:List α} {l₂:List β} {i:Nat} {a:α},Paired F l₁ l₂->l₁[i]?=some a->∃b,l₂[i]?=some b/\F a b
 |_,_,_,_,.nil,e=>by simp at e
 |_,_,0,_,.cons r _,e=>by simp at e;subst e;exact⟨_,rfl,r⟩
 |_,_,i+1,a,.cons _ t,e=>by
  obtain⟨b,h1,h2⟩:=qAV (i:=i) (a:=a) t (by simpa using e)
  exact⟨b,by simpa using h1,h2⟩
theorem qMR {α β:Type}{F G:α->β->Prop}{l₁:List α}{l₂:List β}(h:Paired F l₁ l₂)(k:∀a b,F a b->G a b):Paired G l₁ l₂:=by
 induction h with
 |nil=>exact .nil
 |cons r t ih=>exact .cons (k _ _ r) ih
theorem qCR {a:List Addr}{i:Nat}{x:V}(h:(a.map V.ref)[i]?=some x):∃r,a[i]?=some r/\x=.ref r:=by
 rw[B6] at h;cases e:a[i]? with
 |none=>rw[e] at h;cases h
 |some r=>rw[e] at h;exact⟨r,rfl,(B0 h).symm⟩
theorem qAY {zs:List Int}{i:Nat}{x:V}(h:(zs.map V.int)[i]?=some x):∃z,zs[i]?=some z/\x=.int z:=by
 rw[B6] at h;cases e:zs[i]? with
 |none=>rw[e] at h;cases h
 |some r=>rw[e] at h;exact⟨r,rfl,(B0 h).symm⟩
theorem qO6 (a:Int)(zs:List Int):inV (.int a) (zs.map V.int)=decide (a∈zs):=by
 unfold inV
 induction zs with
 |nil=>simp
 |cons z r ih=>
  rw[C7,U1,ih];have e:eqV (.int z) (.int a)=decide (a=z):=by
   by_cases h:z=a
   ·subst h;simp[eqV]
   ·have b:¬a=z:=λq=>h q.symm;simp[eqV,h,b]
  rw[e];simp[B8]
theorem qIB (zs:List Int):(zs.map V.int).all qO7=true:=by
 rw[F5];intro x a;obtain⟨z,_,rfl⟩:=D9.mp a
 rfl
noncomputable def qDY (ns st:List Int) (Aa wk:Int):V:=if wk∈st then .str "there" else if∀x∈ns,x∈st then(if Aa<=(st.length:Int) then .str "full" else .non) else .str "needs"
noncomputable def qDQ (st:List Int) (wk:Int):V:=if wk∈st then .non else .str "empty"
def qPA:Sp:=λvs H Q _=>∃(a s:Addr) (Ae:Aa0) (st ns:List Int) (Aa wk:Int),vs=[.ref a,.int Aa,.ref s,.int wk]/\NetAt H a Ae/\H s=some (.tup (st.map V.int))/\st.length<=1000/\0<=wk/\Ae[wk.toNat]?=some ns/\
 ∀H',Same H H'->Q (qDY ns st Aa wk) H'
noncomputable def qD9 (ns st:List Int) (Aa:Int) (Ac:Str) (wk:Int):V:=if Ac = "do" then qDY ns st Aa wk else qDQ st wk
def qR2:Sp:=λvs H Q _=>∃(a s mv:Addr) (Ae:Aa0) (st ns:List Int) (Aa wk:Int) (Ac:Str),vs=[.ref a,.int Aa,.ref s,.ref mv]/\NetAt H a Ae/\H s=some (.tup (st.map V.int))/\st.length<=1000/\H mv=some (.tup [.str Ac,.int wk])/\(Ac = "do"\/Ac = "clear")/\0<=wk/\Ae[wk.toNat]?=some ns/\ns.length<=1000/\
 ∀H',Same H H'->Q (qD9 ns st Aa Ac wk) H'
theorem qQV (ns st:List Int)(Aa:Int)(Ac:Str)(a:Int):qD9 ns st Aa Ac a=.non\/∃y,qD9 ns st Aa Ac a=.str y:=by
 unfold qD9 qDY qDQ
 split
 ·split
  ·exact .inr ⟨_,rfl⟩
  ·split
   ·split
    ·exact .inr ⟨_,rfl⟩
    ·exact .inl rfl
   ·exact .inr ⟨_,rfl⟩
 ·split
  ·exact .inl rfl
  ·exact .inr ⟨_,rfl⟩
theorem qAA:¬(C0 "clear" = C0 "do"):=by decide +kernel
theorem qGZ {xs:List V}{i:Int}{x:V}(a:0<=i)(h:xs[i.toNat]?=some x):atI xs i=some x:=by
 have e:i=((i.toNat:Nat):Int):=by lia
 rw[e];exact qYK (by simpa using h)
theorem NetAt.get {H:Hp}{a:Addr}{Ae:Aa0}{ns:List Int}{i:Nat}(h:NetAt H a Ae)(e:Ae[i]?=some ns):∃(rs:List Addr) (r:Addr),H a=some (.tup (rs.map V.ref))/\rs.length=Ae.length/\(rs.map V.ref)[i]?=some (.ref r)/\H r=some (.tup (ns.map V.int)):=by
 obtain⟨rs,d,b⟩:=h;obtain⟨r,c,f⟩:=b.get e;exact⟨rs,r,d,C6 b,by rw[B6,c];rfl,f⟩
theorem qg2 {ns st:List Int}:(((ns.map λx=>decide (x∈st)).all id)=true)↔∀x∈ns,x∈st:=by
 rw[F5]
 constructor
 ·intro h x a;have:=h _ (D9.mpr ⟨x,a,rfl⟩);exact of_decide_eq_true this
 ·intro h b c;obtain⟨x,a,rfl⟩:=D9.mp c;exact decide_eq_true (h x a)
def seqO (b:Bool)(xs:List V):HO:=match b with|true=>.tup xs|false=>.lst xs
noncomputable def tyOf (b:Bool):Value:=match b with|true=>.type "tuple" |false=>.type "list"
section
variable{K:Ab1}
theorem qb7 (b:Bool):W3 K (tyOf b) (.type "tuple")=some b:=by cases b<;>rfl
theorem qfK:W3 K (.type "int") (.type "int")=some true:=by rfl
theorem qfL:W3 K (.type "int") (.type "bool")=some false:=by rfl
end
theorem qC9 {α:Type}{p:α->Bool}{l:List α}{i:Nat}{x:α}(h:l[i]?=some x):(l.take (i+1)).filter p=(l.take i).filter p++(if p x then[x] else[]):=by
 rw[C9,h,D0,Y3];by_cases a:p x=true
 ·simp[a]
 ·simp[a]
end Fw
namespace L2
open PySem PySem.Spec PyProof.Rows
def SqO (b:Bool)(K:Ab1)(H:Hp)(a:Addr)(xs:List V):Prop:=match b with|true=>SqT K H a xs|false=>SqL K H a xs
def ItO (b:Bool)(K:Ab1)(a:Addr):It:=match b with|true=>Itt K a|false=>Itl K a
def iSeq (K:Ab1)(tl:TE):TI:=λσ H R=>tl σ H λx H1=>∃(b:Bool) (a:Addr),x=.ref a/\(∃xs,SqO b K H1 a xs)/\R (ItO b K a) H1
section
variable{X:Cx}{tg:Expr}
theorem qf1 {l:Expr}{g:TE}(i:PE X l g):PI X tg l (iSeq X.K g):=by
 intro m s σ H R I h;refine thn (i m s σ H _ I h) λv s1 ⟨x,H1,I1,r1,q1⟩=>?_;obtain⟨b,a,e,⟨n,f⟩,q⟩:=q1;subst e;cases r1;cases b with
 |false=>
  obtain⟨c,j,p,k⟩:=I1.list f;refine B37 p.isList ?_;refine⟨s1.heap.objs.size,[s1.heap.objs.size],_,_,H1,rfl,I1.kept (t':=s1.toks) λb o e=>A5 _ e,qP1 a _,⟨_,B3 _ rfl,rfl,rfl⟩,λb d=>?_,q⟩;cases A6.mp d;exact I1.fpOk (A7 _) (I1.hok.fresh (A7 _))
 |true=>
  obtain⟨c,j,p,k⟩:=I1.tuple f;refine wpAny_pyIter_tuple (show s1.heap.IsTuple a c.toArray from p) ?_;refine⟨s1.heap.objs.size,[s1.heap.objs.size],_,_,H1,rfl,I1.kept (t':=s1.toks) λb o e=>A5 _ e,qMG a _,⟨_,B3 _ rfl,rfl,rfl⟩,λb d=>?_,q⟩;cases A6.mp d;exact I1.fpOk (A7 _) (I1.hok.fresh (A7 _))
end
theorem qfF {b:Bool}{K:Ab1}{a:Addr}{xs:List V}{g:TG}{h:TT}{f:TE}{Kf:Hp->Prop}{σ0:St}{H0:Hp}{p:Addr}(Pv:Nat->St->Hp->Prop)(j:Pv 0 σ0 H0)(c:∀i σ H,i<=xs.length->Pv i σ H->SqO b K H a xs)
  (d:∀i x σ H,xs[i]?=some x->Pv i σ H->g x σ H λσ2 H2=>h σ2 H2 λb H3=>if b=true then f σ2 H3 λy H4=>∃ys,H4 p=some (.lst ys)/\ys.length<B12/\Pv (i+1) σ2 (Ag H4 p (.lst (ys++[y]))) else Pv (i+1) σ2 H3)
  (e:∀σ H,Pv xs.length σ H->Kf H):
  LcG (ItO b K a) g h f Kf σ0 H0 p:=by
 cases b with
 |true=>exact qJ7 Pv j c d e
 |false=>exact qHB Pv j c d e
theorem qUY {a:Addr}{o:Obj}{Af:List (List Key×V)}{g:TG}{c:TS}{D:Ends}{σ:St}{H:Hp}(Pv:Nat->St->Hp->Prop)(t:Pv 0 σ H)(d:∀i σ H,i<=Af.length->Pv i σ H->H a=some (.frz o (.dT Af)))
  (f:∀i k v r σ H,Af[i]?=some (k,v)->H r=some (.tup (k.map kV))->Pv i σ H->g (.ref r) σ H λσ2 H2=>c {D with nx:=Pv (i+1),ct:=Pv (i+1),bk:=D.nx} σ2 H2) (h:∀σ H,Pv Af.length σ H->D.nx σ H):
  ForG (ItT a o Af) g c D σ H:=by
 refine⟨λi m σ H=>m=Af.length-i/\i<=Af.length/\Pv i σ H,⟨Af.length,by simp,E7 _,t⟩,?_⟩
 rintro i m σ H ⟨rfl,hi,p⟩;have q:=d i σ H hi p;by_cases b:i<Af.length
 ·refine .inr ⟨⟨b,q⟩,Pv (i+1),λσ' l n=>⟨Af.length-(i+1),by lia,rfl,b,n⟩,λx l y=>?_⟩
  obtain⟨e,k,v,r,u,j,s⟩:=y;subst e j;exact f i k v r σ _ u s p
 ·have e:i=Af.length:=by lia
  subst e;exact .inl ⟨⟨A7 _,q⟩,h σ H p⟩
def TyR (K:Ab1) (H:Hp) (x:V) (t:Value):Prop:=TyOf K H x t\/∃a xs,x=.ref a/\Rd H a (.tup xs)/\t=.type "tuple"
section
variable{X:Cx}
theorem qQI:qDX X (.builtin "isinstance") (λxs H Q=>∃x T t b,xs=[x,.ty T]/\TyR X.K H x t/\W3 X.K t (.type T)=some b/\Q (.bl b) H):=by
 intro f s σ H xs e Q I r h;obtain⟨x,T,t,b,rfl,c,d,q⟩:=h;rcases c with c|⟨a,ys,rfl,c,rfl⟩
 ·exact qCS f s σ H _ e Q I r ⟨x,T,t,b,rfl,c,d,q⟩
 ·rcases c with c|⟨ob,c⟩
  ·exact qCS f s σ H _ e Q I r ⟨_,T,_,b,rfl,TyOf.tup c,d,q⟩
  ·obtain⟨u,v,rfl,k,g⟩:=qQY r;cases g;cases(show u=C4 a from k);obtain⟨_,_,_,_,p⟩:=(show ObjOk X.prog X.w H s.heap a (.frz ob (.tup ys)) from I.hok a _ c);obtain⟨o,i,j,_⟩:=p;exact K5 A32 I.kIn ⟨o,i,j⟩ d (λz=>nomatch z) λl=>⟨.bl b,H,I.tok _,rfl,q⟩
theorem qbS {A:Around}{s:Shared}{Ab:Aa2}{σ:St}{H:Hp}(I:Inv X Ab σ H s)(hu:A.units<cLine){a b:Addr}{zs d:List Int}(r:H a=some (.tup (zs.map V.int)))(f:H b=some (.tup (d.map V.int))):SeqAt.EqAt A s (.ref a) (.ref b) (decide (zs=d)):=by
 have n:∀{u v:List Int},u.map V.int=v.map V.int->u=v:=by
  intro u
  induction u with
  |nil=>intro v h;cases v with|nil=>rfl|cons _ _=>cases h
  |cons x u ih=>
   intro v h;cases v with
   |nil=>cases h
   |cons y v=>
    rw[C7,C7] at h
    injection h with h1 h2
    injection h1 with h1
    rw[h1,ih h2]
 by_cases e:a=b
 ·subst e;rw[r] at f
  injection f with f
  injection f with f
  rw[decide_eq_true (n f)];exact w5 _
 ·obtain ⟨m,o,p1,z1⟩:=I.tuple (Ac0 r);obtain ⟨k,w,p2,z2⟩:=I.tuple (Ac0 f);have l1:=o.length;have p:=w.length;rw [A0] at l1 p;refine A40 e ?_;have g:=A50 (A:=A) (s:=s) (e:=fun j=>decide (zs[j]?=d[j]?)) p1 p2 hu (fun j h1 h2=>by
   rw[C1] at h1 h2;have hz:j<zs.length:=by lia
   have z:j<d.length:=by lia
   obtain⟨a,ea,ra⟩:=o.get (i:=j) (x:=.int zs[j]) (by rw[B6,A4 hz];rfl)
   obtain⟨b,l,rb⟩:=w.get (i:=j) (x:=.int d[j]) (by rw[B6,A4 z];rfl)
   obtain⟨t,rfl⟩:=ra;obtain⟨q,rfl⟩:=rb;have e1:m.toArray[j]=.int zs[j] t:=by
    rw[S4];exact B0 ((A4 h1).symm.trans ea)
   have e2:k.toArray[j]=.int d[j] q:=by
    rw[S4];exact B0 ((A4 h2).symm.trans l)
   rw[e1,e2];have:=X9 (A:=A.in1) (s:=s) zs[j] t d[j] q;rw[show(zs[j]==d[j])=decide (zs[j]?=d[j]?) by rw[A4 hz,A4 z];by_cases c:zs[j]=d[j]<;>simp[c]] at this
   exact this)
  have l:((C3 (min m.toArray.size k.toArray.size)).all (λj=>decide (zs[j]?=d[j]?))&&m.toArray.size==k.toArray.size)=decide (zs=d):=by
   rw[C1,C1,<- l1,<- p,G6,D6,F5,beq_iff_eq,decide_eq_true_eq]
   constructor
   ·rintro⟨h1,h2⟩;refine n0 λi=>?_;by_cases hi:i<zs.length
    ·exact of_decide_eq_true (h1 i (E2.mpr (by lia)))
    ·rw[M0 (by lia),M0 (by lia)]
   ·rintro rfl;exact⟨λ_ _=>decide_eq_true rfl,rfl⟩
  rw[l] at g;exact g
theorem qcD {b:List Addr}{c:List Value}(h:Vals (b.map V.ref) c):c=b.map C4:=by
 induction b generalizing c with
 |nil=>cases h;rfl
 |cons a b ih=>cases h with|cons h1 h2=>cases h1;rw[ih h2];rfl
theorem qNW (hu:X.A.units+64<cLine):OpR X (B30 .NotIn) (λx y H Q=>∃(p l:Addr) (zs:List Int) (rs:List Addr) (ts:Aa0),x=.ref p/\y=.ref l/\H p=some (.tup (zs.map V.int))/\SqL X.K H l (rs.map V.ref)/\Paired (λ(r:Addr) (t:List Int)=>H r=some (.tup (t.map V.int))) rs ts/\Q (.bl (decide (zs∉ts))) H):=by
 intro Ab s σ H x y v u Q I n ry h;obtain⟨p,l,zs,rs,ts,rfl,rfl,h1,j,T,q⟩:=h;cases n;cases ry;obtain⟨o,r,k,hz⟩:=I.list j;have ei:=qcD r;subst ei;have d:∀{rs:List Addr} {ts:Aa0},Paired (λ(r:Addr) (t:List Int)=>H r=some (.tup (t.map V.int))) rs ts->∀r∈rs,∃t:List Int,H r=some (.tup (t.map V.int)):=by
  intro rs ts h
  induction h with
  |nil=>exactλr a=>nomatch a
  |cons g _ ih=>exactλr a=>(B8.mp a).elim (λe=>⟨_,e▸g⟩) (ih r)
 refine A33 (λw=>decide (L2.G.keyH H w=zs)) k.isList (λw m=>?_) ⟨.bl _,H,I,rfl,?_⟩
 ·obtain⟨i,b,rfl⟩:=D9.mp (show w∈rs.map C4 by simpa using m)
  obtain⟨t,f⟩:=d T i b;rw[L2.G.keyH_at f];exact qbS I (by show X.A.units+1<cLine;lia) f h1
 ·have e:(!(rs.map C4).toArray.any λw=>decide (L2.G.keyH H w=zs))=decide (zs∉ts):=by
   have e2:((rs.map C4).any λw=>decide (L2.G.keyH H w=zs))=decide (zs∈ts):=by
    clear q r k hz j
    induction T with
    |nil=>simp
    |@cons i t rs ts g _ ih=>
     rw[C7,U1,ih,L2.G.keyH_at g,G6,G7,decide_eq_true_eq,decide_eq_true_eq,decide_eq_true_eq,B8];exact⟨λh=>h.imp B07 id,λh=>h.imp B07 id⟩
   rw[List.any_toArray,e2];by_cases c:zs∈ts
   ·rw[decide_eq_true c,decide_eq_false (λz=>z c)];rfl
   ·rw[decide_eq_false c,decide_eq_true c];rfl
  rw[e];exact q
end
end L2
namespace Fw
open PySem L2
abbrev MovL (H:Hp):List Addr->List (Str×Int)->Prop:=Paired λr m=>H r=some (.tup [.str m.1,.int m.2])
theorem MovL.same {H H':Hp}{a:List Addr}{b:List (Str×Int)}(h:MovL H a b)(k:Same H H'):MovL H' a b:=by
 induction h with
 |nil=>exact .nil
 |cons r t ih=>exact .cons (k _ _ r) ih
theorem MovL.put {H:Hp}{p:Addr}{xs:List V}{o:HO}{a:List Addr}{b:List (Str×Int)}(h:MovL H a b)(c:H p=some (.lst xs)):MovL (Ag H p o) a b:=by
 induction h with
 |nil=>exact .nil
 |cons r t ih=>exact .cons (by rw[qA9 (qC1 r c (by intro z;cases z))];exact r) ih
theorem qUE {α β:Type}{F:α->β->Prop}{a c:List α}{b d:List β}(h:Paired F a b)(k:Paired F c d):Paired F (a++c) (b++d):=by
 induction h with
 |nil=>exact k
 |cons r t ih=>exact .cons r ih
theorem qGF {α β:Type}{F:α->β->Prop}:∀{l₁:List α} {l₂:List β} {i:Nat} {b:β},Paired F l₁ l₂->l₂[i]?=some b->∃a,l₁[i]?=some a/\F a b
 |_,_,_,_,.nil,e=>by simp at e
 |_,_,0,_,.cons r _,e=>by simp at e;subst e;exact⟨_,rfl,r⟩
 |_,_,i+1,b,.cons _ t,e=>by
  obtain⟨a,h1,h2⟩:=qGF (i:=i) (b:=b) t (by simpa using e)
  exact⟨a,by simpa using h1,h2⟩
theorem MovL.snoc {H:Hp}{a:List Addr}{b:List (Str×Int)}{r:Addr}{c:Str}{x:Int}(h:MovL H a b)(e:H r=some (.tup [.str c,.int x])):MovL H (a++[r]) (b++[(c,x)]):=X4 h e
theorem MovL.app {H:Hp}{c a:List Addr}{d b:List (Str×Int)}(h:MovL H c d)(h':MovL H a b):MovL H (c++a) (d++b):=qUE h h'
noncomputable def qKT (w:Str)(n:Nat):List (Str×Int):=(C3 n).map λ(i:Nat)=>(w,(i:Int))
theorem qMT (w:Str)(n:Nat):qKT w (n+1)=qKT w n++[(w,0+(n:Int))]:=by
 unfold qKT;rw[T1,C2,A61]
 rfl
theorem qFP (w:Str)(n:Nat):(qKT w n).length=n:=by unfold qKT;simp
noncomputable def wd (Ae:Aa0)(st:List Int)(Aa:Int)(m:Str×Int):V:=qD9 ((Ae[m.2.toNat]?).getD []) st Aa m.1 m.2
noncomputable def qOI (n:Nat):List (Str×Int):=qKT "do" n++qKT "clear" n
noncomputable def qD7 (Ae:Aa0)(st:List Int)(Aa:Int):List (Str×Int):=(qOI Ae.length).filter λm=>decide (wd Ae st Aa m=.non)
theorem qQB (n:Nat):(qOI n).length=n+n:=by unfold qOI;rw[B7,qFP,qFP]
theorem qTK {n:Nat} {m:Str×Int} (h:m∈qOI n):(m.1 = "do"\/m.1 = "clear")/\0<=m.2/\m.2<(n:Int):=by
 unfold qOI qKT at h;rcases B4.mp h with h|h
 ·obtain⟨i,a,rfl⟩:=D9.mp h;have:=E2.mp a;exact⟨.inl rfl,by simp;lia⟩
 ·obtain⟨i,a,rfl⟩:=D9.mp h;have:=E2.mp a;exact⟨.inr rfl,by simp;lia⟩
def qKG:Sp:=λvs H Q _=>∃(a s:Addr) (Ae:Aa0) (st:List Int) (Aa:Int),vs=[.ref a,.int Aa,.ref s]/\NetAt H a Ae/\WFn Ae/\Ae.length<=1000/\H s=some (.tup (st.map V.int))/\st.length<=1000/\
 ∀l rs H',Same H H'->H l=none->H' l=some (.lst (rs.map V.ref))->MovL H' rs (qD7 Ae st Aa)->Q (.ref l) H'
theorem qDR {n:Int}{i:Nat}(h:(i:Int)<n):(qAO 0 n)[i]?=some (i:Int):=by
 unfold qAO;rw[B6,List.getElem?_range (by lia)]
 simp
theorem qBS {α:Type}{l:List α}{n:Nat}(h:l.length=n):l.take n=l:=F3 (by lia)
theorem qLC {p:Int->Bool}{l:List Int}{i:Nat}:((l.take i).filter p).length<=i:=by
 have:=F2 p (l.take i);rw[D8] at this
 lia
structure Cnt (n:Nat)(cs:List Int)(seen:List Int):Prop where
 len:cs.length=n
 at_:∀x:Nat,x<n->∃c,cs[x]?=some c/\0<=c/\(c=0↔(x:Int)∉seen)
theorem qTI:∀{Ae:Aa0} {B:Nat},(∀zs∈Ae,zs.length<=B)->Ae.flatten.length<=Ae.length*B
 |[],B,_=>by simp
 |zs::Ae,B,h=>by
  have h1:=h zs (by simp)
  have h2:=qTI (Ae:=Ae) (B:=B) λys hy=>h ys (by simp[hy])
  rw[O4,B7,C5,Nat.add_mul]
  lia
theorem qAQ {n:Nat}(h:n<=1000000):n<B12:=by rw[B24];lia
inductive Nd (Ae:Aa0)(Ad:List Int):Int->Prop
 |ask {x:Int}:x∈Ad->Nd Ae Ad x
 |need {w y:Int} {zs:List Int}:Nd Ae Ad w->Ae[w.toNat]?=some zs->y∈zs->Nd Ae Ad y
structure KeysI (Af:List (Key×V))(ks:List Int):Prop where
 keys:Af.map (·.1)=ks.map E8
 nd:ks.Nodup
theorem KeysI.len {Af:List (Key×V)}{a:List Int}(h:KeysI Af a):Af.length=a.length:=by
 have:=congrArg R7 h.keys;simpa using this
theorem KeysI.nil:KeysI [] []:=⟨rfl,.nil⟩
theorem qSA (k:Key):∀Af:List (Key×V),(Af.any λkv=>decide (kv.1=k))=true↔k∈Af.map (·.1)
 |[]=>by simp
 |p::r=>by
  rw[U1,C7,G7,qSA k r,B8,decide_eq_true_eq];exact or_congr_left ⟨B07,B07⟩
theorem KeysI.mem {Af:List (Key×V)}{a:List Int}(h:KeysI Af a)(x:Int):(E8 x:Key)∈Af.map (·.1)↔x∈a:=by
 rw[h.keys,D9];exact⟨λ⟨y,c,e⟩=>P1 e▸c,λb=>⟨x,b,rfl⟩⟩
theorem KeysI.has {Af:List (Key×V)}{a:List Int}(h:KeysI Af a)(x:Int):(valV Af (E8 x)).isSome=decide (x∈a):=by
 rw[<- qG5];have:=(qSA (E8 x) Af).trans (h.mem x);by_cases e:x∈a
 ·rw[decide_eq_true e];exact this.mpr e
 ·rw[decide_eq_false e];exact F8.mpr λz=>e (this.mp z)
theorem qT9 (k:Key)(v:V):∀Af:List (Key×V),(Af.map λkv=>if kv.1=k then(kv.1,v) else kv).map (·.1)=Af.map (·.1)
 |[]=>rfl
 |p::r=>by
  rw[C7,C7,C7,qT9 k v r];congr 1
  split<;>rfl
theorem KeysI.put {Af:List (Key×V)}{b:List Int}(h:KeysI Af b)(x:Int)(v:V):KeysI (putK Af (E8 x) v) (addI b x):=by
 have a:=(qSA (E8 x) Af).trans (h.mem x);unfold putK addI;by_cases e:x∈b
 ·rw[if_pos (a.mpr e),if_pos e];exact⟨by rw[qT9];exact h.keys,h.nd⟩
 ·rw[if_neg λz=>e (a.mp z),if_neg e];refine⟨by rw[C2,C2,h.keys];rfl,qNX h.nd e⟩
theorem qWR {a:List Int}{n:Nat}(h:a.Nodup)(b:∀x∈a,0<=x/\x<(n:Int)):a.length<=n:=by
 have c:a ⊆ (C3 n).map λ(i:Nat)=>(i:Int):=λx d=>by
  have:=b x d;exact D9.mpr ⟨x.toNat,E2.mpr (by lia),by lia⟩
 have:=T8 h c;simpa using this
structure Fnd (Ae:Aa0)(Ad ks:List Int)(j:Int):Prop where
 in_:∀x∈ks,(0<=x/\x<(Ae.length:Int))/\Nd Ae Ad x
 ask:∀x∈Ad,x∈ks
 clo:∀(w:Nat) zs,j<=(w:Int)->(w:Int)∈ks->Ae[w]?=some zs->∀y∈zs,y∈ks
theorem Fnd.all {Ae:Aa0}{Ad c:List Int}(d:WFn Ae)(h:Fnd Ae Ad c 0)(x:Int):x∈c↔Nd Ae Ad x:=by
 refine⟨λa=>(h.in_ x a).2,λa=>?_⟩
 induction a with
 |ask m=>exact h.ask _ m
 |@need w y zs _ e m ih=>
  have b:=(h.in_ w ih).1;exact h.clo w.toNat zs (by lia) (by rw[show((w.toNat:Nat):Int)=w by lia];exact ih) e y m
def qAE (Ae:Aa0)(Ad zs:List Int):Prop:=Rise (Ae.length:Int) zs/\∀x,x∈zs↔Nd Ae Ad x
theorem qJI:∀{l m:List Int},l.Pairwise (·<·)->m.Pairwise (·<·)->(∀x,x∈l↔x∈m)->l=m
 |[],[],_,_,_=>rfl
 |[],y::m,_,_,h=>absurd ((h y).mpr (by simp)) (by simp)
 |x::l,[],_,_,h=>absurd ((h x).mp (by simp)) (by simp)
 |x::l,y::m,hl,hm,h=>by
  have l1:=M7.mp hl;have m1:=M7.mp hm;have exy:x=y:=by
   rcases B8.mp ((h x).mp (by simp)) with e|e
   ·exact e
   ·rcases B8.mp ((h y).mpr (by simp)) with e2|e2
    ·exact e2.symm
    ·have:=m1.1 x e;have:=l1.1 y e2
     lia
  subst exy;rw[qJI l1.2 m1.2 λz=>?_]
  constructor
  ·intro hz;rcases B8.mp ((h z).mp (by simp[hz])) with e|e
   ·have:=l1.1 z hz;lia
   ·exact e
  ·intro hz;rcases B8.mp ((h z).mpr (by simp[hz])) with e|e
   ·have:=m1.1 z hz;lia
   ·exact e
noncomputable def qEY (ws:List Int)(x:Int):Option Int:=if x∈ws then some (ws.idxOf x:Int) else none
theorem qHT {ws:List Int}{x p:Int}(h:qEY ws x=some p):0<=p/\ws[p.toNat]?=some x:=by
 unfold qEY at h
 split at h
 ·rename_i m
  cases h;have a:=List.idxOf_lt_length_iff.mpr m;refine⟨by lia,?_⟩
  rw[D7,A4 a,List.getElem_idxOf]
 ·cases h
theorem qDG {ws:List Int}(b:ws.Nodup){x:Int}{i:Nat}(h:ws[i]?=some x):qEY ws x=some (i:Int):=by
 obtain⟨a,e⟩:=A3.mp h;unfold qEY;rw[if_pos (by rw[<- e];exact a9 a),<- e,b.idxOf_getElem]
theorem qUD {ws:List Int}(d:ws.Nodup){i:Nat}{y:Int}(h:ws[i]?=some y)(x:Int):qEY (ws.take (i+1)) x=if x=y then some (i:Int) else qEY (ws.take i) x:=by
 obtain⟨f,e⟩:=A3.mp h;have c:ws.take (i+1)=ws.take i++[y]:=by rw[C9,h];rfl
 have b:(ws.take (i+1)).Nodup:=d.sublist (Z2 _ _);by_cases a:x=y
 ·subst a;rw[if_pos rfl];exact qDG b (by rw[P0 (by lia)];exact h)
 ·rw[if_neg a];unfold qEY;rw[c];by_cases m:x∈ws.take i
  ·rw[if_pos (by simp[m]),if_pos m,List.idxOf_append,if_pos m]
  ·rw[if_neg (by simp[m,a]),if_neg m]
noncomputable def qBY (Ae:Aa0)(ws:List Int):Aa0:=ws.map λw=>((Ae[w.toNat]?).getD []).filterMap (qEY ws)
theorem qBV (Ae:Aa0)(ws:List Int):(qBY Ae ws).length=ws.length:=by simp[qBY]
theorem qHV {Ae:Aa0}{ws:List Int}{i:Nat}{w:Int}(h:ws[i]?=some w):(qBY Ae ws)[i]?=some (((Ae[w.toNat]?).getD []).filterMap (qEY ws)):=by
 unfold qBY;rw[B6,h]
 rfl
theorem qP0 {ws:List Int}(g:ws.Pairwise (·<·)){i j:Nat}{x y:Int}(k:ws[i]?=some x)(l:ws[j]?=some y):i<j↔x<y:=by
 obtain⟨e,n⟩:=A3.mp k;obtain⟨f,m⟩:=A3.mp l;have c:∀a b (ha:a<ws.length) (hb:b<ws.length),a<b->ws[a]<ws[b]:=λa b ha hb d=>G2.mp g a b ha hb d
 constructor
 ·intro h;have:=c i j e f h
  lia
 ·intro h;rcases n4 i j with z|z|z
  ·exact z
  ·subst z
   lia
  ·have:=c j i f e z
   lia
theorem qK7 {ws zs:List Int}(h:ws.Pairwise (·<·))(e:zs.Pairwise (·<·)):(zs.filterMap (qEY ws)).Pairwise (·<·):=by
 rw[List.pairwise_filterMap];refine e.imp λ{a b} c p f q d=>?_;obtain⟨k,g⟩:=qHT f;obtain⟨j,i⟩:=qHT d;have:=(qP0 h g i).mpr c
 lia
theorem qCJ {ws zs:List Int}(d:ws.Nodup){p:Int}:p∈zs.filterMap (qEY ws)↔0<=p/\∃x,ws[p.toNat]?=some x/\x∈zs:=by
 rw[X8]
 constructor
 ·rintro⟨x,a,e⟩;obtain⟨c,b⟩:=qHT e;exact⟨c,x,b,a⟩
 ·rintro⟨c,x,b,a⟩;refine⟨x,a,?_⟩;have:=qDG d b;rw[this];congr 1
  lia
theorem qHX {Ae:Aa0}(a:WFn Ae)(w:Nat):Rise (w:Int) ((Ae[w]?).getD []):=by
 cases e:Ae[w]? with
 |none=>exact Rise.nil
 |some zs=>exact a w zs e
theorem qCQ {Ae:Aa0}{ws:List Int}(e:WFn Ae)(r:Rise (Ae.length:Int) ws):WFn (qBY Ae ws):=by
 intro i j h;have a:i<ws.length:=by rw[<- qBV Ae ws];exact(A3.mp h).1
 have b:=A4 a;rw[qHV b] at h;cases h;have l:=(r.in_ ws[i] (a9 a)).1;have c:=qHX e ws[i].toNat;refine⟨qK7 r.up c.up,λp f=>?_⟩;obtain⟨m,x,g,d⟩:=(qCJ r.nodup).mp f;have k:=c.in_ x d;have:=(qP0 r.up g b).mpr (by lia)
 lia
theorem qZL {Ae:Aa0}(j:WFn Ae):qBY Ae (qAO 0 Ae.length)=Ae:=by
 have g:Rise (Ae.length:Int) (qAO 0 Ae.length):=qH5 (K7 0);apply n0;intro i;by_cases d:i<Ae.length
 ·have e:=qDR (n:=(Ae.length:Int)) (i:=i) (by lia)
  rw[qHV e,D7,A4 d];have a:=j i _ (A4 d);congr 1;show Ae[i].filterMap _=Ae[i];refine qJI (qK7 g.up a.up) a.up λp=>?_;rw[qCJ g.nodup]
  constructor
  ·rintro⟨l,x,c,h⟩;have k:=(A3.mp c).1;rw[qMO] at k;rw[qDR (by lia)] at c
   have:x=p:=by have:=B0 c;lia
   rw[<- this];exact h
  ·intro f;have b:=a.in_ p f;refine⟨b.1,p,?_,f⟩;rw[qDR (by lia)]
   congr 1
   lia
 ·rw[M0 (by rw[qBV,qMO];lia),M0 (by lia)]
def qeK:Sp:=λvs H Q _=>∃(r d:Addr) (zs:List Int) (Af:List (Key×V)) (num:Int->Option Int),vs=[.ref r,.ref d]/\H r=some (.tup (zs.map V.int))/\zs.length<=1000/\H d=some (.dK Af)/\(∀x,valV Af (E8 x)=(num x).map V.int)/\
 ∀r' H',Same H H'->H' r'=some (.tup ((zs.filterMap num).map V.int))->Q (.ref r') H'
abbrev Mv:=Str×Int
def nd (Ae:Aa0)(w:Int):List Int:=(Ae[w.toNat]?).getD []
theorem qCI {Ae:Aa0}{w:Int}{zs:List Int}(h:Ae[w.toNat]?=some zs):nd Ae w=zs:=by unfold nd;rw[h];rfl
noncomputable def qBJ (Ae:Aa0):List Int->Int->Option Int
 |[],_=>none
 |w::r,y=>match qBJ Ae r y with
  |some v=>some v
  |none=>if y∈nd Ae w then some w else none
theorem qMW {Ae:Aa0}{y v:Int}:∀{l:List Int},qBJ Ae l y=some v->v∈l/\y∈nd Ae v
 |[],h=>by cases h
 |w::r,h=>by
  unfold qBJ at h;cases e:qBJ Ae r y with
  |some u=>
   rw[e] at h;cases h;have:=qMW e;exact⟨A8 _ this.1,this.2⟩
  |none=>
   rw[e] at h;dsimp only at h
   split at h
   ·cases h;exact⟨E4,by assumption⟩
   ·cases h
theorem lastOf_none {Ae:Aa0}{y:Int}:∀{l:List Int},qBJ Ae l y=none↔∀v∈l,y∉nd Ae v
 |[]=>by simp[qBJ]
 |w::r=>by
  unfold qBJ;have ih:=lastOf_none (Ae:=Ae) (y:=y) (l:=r);cases e:qBJ Ae r y with
  |some u=>
   refine⟨λz=>(by cases z),λz=>?_⟩
   have:=ih.mpr λv hv=>z v (A8 _ hv);rw[e] at this;cases this
  |none=>
   dsimp only;have q:=ih.mp e
   constructor
   ·intro z v hv
    split at z
    ·cases z
    ·rcases B8.mp hv with rfl|hv
     ·assumption
     ·exact q v hv
   ·intro z;rw[if_neg (z w E4)]
theorem qL1 {Ae:Aa0}{w y:Int}:∀{l:List Int},qBJ Ae (l++[w]) y=if y∈nd Ae w then some w else qBJ Ae l y
 |[]=>by simp[qBJ]
 |x::l=>by
  rw[X0];unfold qBJ;rw[qL1 (l:=l)];by_cases h:y∈nd Ae w
  ·rw[if_pos h,if_pos h]
  ·rw[if_neg h,if_neg h]
def later (Ae:Aa0)(zs:List Int)(j:Nat)(x:Int):Prop:=∃v∈zs.drop j,x∈nd Ae v
instance (Ae:Aa0) (zs:List Int) (j:Nat) (x:Int):Decidable (later Ae zs j x):=by unfold later;infer_instance
theorem qX3 {Ae:Aa0}{zs:List Int}(n:zs.Nodup){i:Nat}{w:Int}(h:zs[i]?=some w)(y:Int):qBJ Ae zs y=some w↔y∈nd Ae w/\¬later Ae zs (i+1) y:=by
 obtain⟨k,e⟩:=A3.mp h;have split:zs=zs.take i++w::zs.drop (i+1):=by rw[<- e,<- F4 k,a6]
 have c:∀(a b:List Int),w∉a->w∉b->(qBJ Ae (a++w::b) y=some w↔y∈nd Ae w/\¬ ∃v∈b,y∈nd Ae v):=by
  intro a b f p
  induction a with
  |nil=>
   show qBJ Ae (w::b) y=some w↔_;unfold qBJ;cases q:qBJ Ae b y with
   |some v=>
    have:=qMW q
    constructor
    ·intro z;cases z;exact absurd this.1 p
    ·rintro⟨_,z⟩;exact absurd ⟨v,this.1,this.2⟩ z
   |none=>
    have:=lastOf_none.mp q;dsimp only
    constructor
    ·intro z
     split at z
     ·rename_i hy
      exact⟨hy,λ⟨v,o,d⟩=>this v o d⟩
     ·cases z
    ·rintro⟨z,_⟩;rw[if_pos z]
  |cons x a ih=>
   have ih:=ih λz=>f (A8 _ z);rw[X0];unfold qBJ;cases q:qBJ Ae (a++w::b) y with
   |some v=>
    rw[q] at ih;exact ih
   |none=>
    rw[q] at ih;dsimp only
    constructor
    ·intro z
     split at z
     ·cases z;exact absurd E4 f
     ·cases z
    ·intro z;exact absurd (ih.mpr z) (by simp)
 have g:=n;rw[split] at g;have j:=n5.mp g;have m:w∉zs.drop (i+1):=(L6.mp j.2.1).1;have l:w∉zs.take i:=λz=>j.2.2 w z w E4 rfl;have:=c (zs.take i) (zs.drop (i+1)) l m;rw[<- split] at this;exact this
noncomputable def clrs (Ae:Aa0)(Ad zs:List Int)(w:Int):List Int:=(nd Ae w).filter λy=>decide (qBJ Ae zs y=some w/\y∉Ad)
noncomputable def qKR (Ae:Aa0) (Ad zs:List Int) (w:Int):List Mv:=("do",w)::(clrs Ae Ad zs w).map λy=>("clear",y)
noncomputable def qCH (Ae:Aa0)(Ad zs:List Int):List Mv:=zs.flatMap (qKR Ae Ad zs)
inductive Run (Ae:Aa0)(Aa:Int):List Int->List Mv->List Int->Prop
 |nil {s:List Int}:Run Ae Aa s [] s
 |do_ {s s' t:List Int} {w:Int} {ms:List Mv}:w∉s->(∀y∈nd Ae w,y∈s)->(s.length:Int)<Aa->s'.Perm (s++[w])->s'.Pairwise (·<·)->Run Ae Aa s' ms t->Run Ae Aa s (("do",w)::ms) t
 |clear {s t:List Int} {w:Int} {ms:List Mv}:w∈s->Run Ae Aa (s.filter λx=>decide (x≠w)) ms t->Run Ae Aa s (("clear",w)::ms) t
noncomputable def qBB (ms:List Mv):List Int:=ms.filterMap λ(m:Mv)=>if m.1=C0 "do" then some m.2 else none
theorem qIE (a b:List Mv):qBB (a++b)=qBB a++qBB b:=V4
theorem qSU:∀{s:List Int} {w:Int},s.Nodup->w∈s->(s.filter λx=>decide (x≠w)).length+1=s.length
 |[],w,_,h=>by cases h
 |x::s,w,n,h=>by
  have n2:=L6.mp n;by_cases e:x=w
  ·subst e;have:s.filter (λy=>decide (y≠x))=s:=U3.mpr λy hy=>decide_eq_true λz=>n2.1 (z▸hy);rw[K8,if_neg (by simp),this,C5]
  ·rw[K8,if_pos (by simpa using e),C5,C5,qSU n2.2 ((B8.mp h).resolve_left λz=>e z.symm)]
theorem Run.len {Ae:Aa0}{Aa:Int}{s t:List Int}{c:List Mv}(h:Run Ae Aa s c t):s.Nodup->c.length+t.length=s.length+2*(qBB c).length:=by
 induction h with
 |nil=>intro _;simp[qBB]
 |@do_ s s' t w c h1 h2 h3 h4 h5 h6 ih=>
  intro _;have e:=ih (h5.imp λ{a b} f=>by lia)
  have l:=h4.length_eq;rw[B7,F1] at l;have d:(qBB (("do",w)::c)).length=(qBB c).length+1:=by simp[qBB]
  rw[d,C5]
  lia
 |@clear s t w c h1 h2 ih=>
  intro n;have e:=ih (n.filter _);have l:=qSU n h1;have d:qBB (("clear",w)::c)=qBB c:=by unfold qBB;rw[F9,if_neg qAA]
  rw[d,C5]
  lia
theorem qMM {Ae:Aa0} {Aa:Int} {t:List Int} {ms:List Mv}:∀{cs s:List Int},cs.Nodup->(∀y∈cs,y∈s)->Run Ae Aa (s.filter λx=>decide (x∉cs)) ms t->Run Ae Aa s ((cs.map λy=>(("clear",y):Mv))++ms) t
 |[],s,_,_,h=>by
  have:(s.filter λx=>decide (x∉([]:List Int)))=s:=U3.mpr λx _=>decide_eq_true (by simp)
  rw[this] at h;exact h
 |c::cs,s,n,hs,h=>by
  have n2:=L6.mp n;refine .clear (hs c E4) (qMM n2.2 (λy hy=>B9.mpr ⟨hs y (A8 _ hy),decide_eq_true λz=>n2.1 (z▸hy)⟩) ?_);rw[j8];have:(s.filter λx=>decide (x∉cs)&&decide (x≠c))=s.filter λx=>decide (x∉c::cs):=by
   refine n6 λx _=>?_;rw[<- Bool.decide_and];exact decide_eq_decide.mpr ⟨λ⟨a,b⟩ z=>(B8.mp z).elim b a,λz=>⟨λq=>z (A8 _ q),λq=>z (q▸E4)⟩⟩
  rw[this];exact h
noncomputable def stAt (Ae:Aa0)(Ad zs:List Int)(i:Nat):List Int:=(zs.take i).filter λx=>decide (x∈Ad\/later Ae zs i x)
section
variable{Ae:Aa0}{Ad zs:List Int}
theorem qIP (f:WFn Ae)(N:qAE Ae Ad zs){i:Nat}{w y:Int}(h:zs[i]?=some w)(a:y∈nd Ae w):y∈zs.take i/\y<w:=by
 have c:=A9 h;have l:=N.1.in_ w c;have d:w.toNat<Ae.length:=by lia
 have e:=A4 d;rw[qCI e] at a;have m:=(f w.toNat _ e).in_ y a;have j:y∈zs:=(N.2 y).mpr (.need ((N.2 w).mp c) e a);obtain⟨k,b⟩:=J5 j;have g:k<i:=(qP0 N.1.up b h).mpr (by lia)
 refine⟨A9 (i:=k) (by rw[P0 g];exact b),by lia⟩
theorem qaS (N:qAE Ae Ad zs)(b:WFn Ae){i:Nat}{w:Int}(h:zs[i]?=some w):w∈Ad\/later Ae zs (i+1) w:=by
 have d:=A9 h;cases(N.2 w).mp d with
 |ask m=>exact .inl m
 |@need v _ ns hv e hm=>
  have c:=(N.2 v).mpr hv;obtain⟨k,a⟩:=J5 c;have q:=qIP b N a (by rw[qCI e];exact hm)
  have f:i<k:=(qP0 N.1.up h a).mpr q.2;refine .inr ⟨v,A9 (i:=k-(i+1)) ?_,by rw[qCI e];exact hm⟩
  rw[A36,show i+1+(k-(i+1))=k by lia]
  exact a
theorem qVH (N:qAE Ae Ad zs){i:Nat}{w x:Int}(h:zs[i]?=some w)(c:x∈zs.take i):x<w:=by
 obtain⟨k,a⟩:=J5 c;have b:k<i:=by have:=(A3.mp a).1;rw[D8] at this;lia
 rw[P0 b] at a;exact(qP0 N.1.up a h).mp b
theorem qc2 (N:qAE Ae Ad zs)(i:Nat):(stAt Ae Ad zs i).Pairwise (·<·):=(N.1.up.sublist (Z2 _ _)).filter _
theorem qMH (N:qAE Ae Ad zs){i:Nat}{w:Int}(h:zs[i]?=some w):(stAt Ae Ad zs i++[w]).Pairwise (·<·):=by
 refine P3.mpr ⟨qc2 N i,M8 _ _,λx a y b=>?_⟩;rw[A6.mp b];exact qVH N h (B9.mp a).1
theorem mem_st {i:Nat}{x:Int}:x∈stAt Ae Ad zs i↔x∈zs.take i/\(x∈Ad\/later Ae zs i x):=by
 unfold stAt;rw[B9,decide_eq_true_eq]
theorem qMV {i:Nat}{w x:Int}(h:zs[i]?=some w):later Ae zs i x↔x∈nd Ae w\/later Ae zs (i+1) x:=by
 obtain⟨a,e⟩:=A3.mp h;unfold later;rw[F4 a,e];simp only[B8,exists_eq_or_imp]
theorem qWQ (b:WFn Ae)(N:qAE Ae Ad zs){i:Nat}{w y:Int}(h:zs[i]?=some w)(a:y∈nd Ae w):y∈stAt Ae Ad zs i:=mem_st.mpr ⟨(qIP b N h a).1,.inr ((qMV h).mpr (.inl a))⟩
theorem qNZ (N:qAE Ae Ad zs){i:Nat}{w:Int}(h:zs[i]?=some w){x:Int}:x∈clrs Ae Ad zs w↔x∈nd Ae w/\¬later Ae zs (i+1) x/\x∉Ad:=by
 unfold clrs;rw[B9,decide_eq_true_eq,qX3 N.1.nodup h]
 constructor
 ·rintro⟨a,⟨_,b⟩,c⟩;exact⟨a,b,c⟩
 ·rintro⟨a,b,c⟩;exact⟨a,⟨a,b⟩,c⟩
theorem qd0 (a:WFn Ae)(w:Int):(nd Ae w).Pairwise (·<·):=(qHX a w.toNat).up
theorem qdS (a:WFn Ae)(w:Int):(clrs Ae Ad zs w).Pairwise (·<·):=(qd0 a w).filter _
theorem qc3 (e:WFn Ae)(N:qAE Ae Ad zs){i:Nat}{w:Int}(h:zs[i]?=some w):((stAt Ae Ad zs i++[w]).filter λx=>decide (x∉clrs Ae Ad zs w))=stAt Ae Ad zs (i+1):=by
 refine qJI ((qMH N h).filter _) (qc2 N (i+1)) λx=>?_;rw[B9,decide_eq_true_eq,qNZ N h,B4,A6,mem_st,mem_st,qMV h,C9,h,D0,B4,A6]
 constructor
 ·rintro⟨a|a,b⟩
  ·refine⟨.inl a.1,?_⟩;rcases a.2 with q|q|q
   ·exact .inl q
   ·by_cases c:x∈Ad
    ·exact .inl c
    ·by_cases l:later Ae zs (i+1) x
     ·exact .inr l
     ·exact absurd ⟨q,l,c⟩ b
   ·exact .inr q
  ·rw[a];exact⟨.inr rfl,qaS N e h⟩
 ·rintro⟨a|a,b⟩
  ·exact⟨.inl ⟨a,b.imp id .inr⟩,λ⟨_,c,d⟩=>b.elim d c⟩
  ·exact⟨.inr a,λ⟨_,c,d⟩=>b.elim d c⟩
theorem qeH (i:Nat):(stAt Ae Ad zs i).length<=i:=by
 have:=F2 (λx=>decide (x∈Ad\/later Ae zs i x)) (zs.take i);rw[D8] at this;unfold stAt
 lia
theorem st_end (N:qAE Ae Ad zs)(b:Ad.Pairwise (·<·)):stAt Ae Ad zs zs.length=Ad:=by
 refine qJI (qc2 N _) b λx=>?_;rw[mem_st,G3]
 constructor
 ·rintro⟨_,q|⟨v,a,_⟩⟩
  ·exact q
  ·rw[X3] at a;cases a
 ·intro q;exact⟨(N.2 x).mpr (.ask q),.inl q⟩
theorem qT0 (wf:WFn Ae)(N:qAE Ae Ad zs)(ua:Ad.Pairwise (·<·)):∀(m i:Nat),zs.length-i=m->i<=zs.length->Run Ae (Ae.length:Int) (stAt Ae Ad zs i) ((zs.drop i).flatMap (qKR Ae Ad zs)) Ad
 |0,i,hm,hi=>by
  have e:i=zs.length:=by lia
  rw[e,X3,st_end N ua];exact .nil
 |m+1,i,hm,hi=>by
  have lt:i<zs.length:=by lia
  have h:=A4 lt;rw[F4 lt,A53];generalize zs[i]=w at h;have lz:=N.1.len;have ls:=qeH (Ae:=Ae) (Ad:=Ad) (zs:=zs) i;refine .do_ (λz=>?_) (λy hy=>qWQ wf N h hy) (by lia) (.refl _) (qMH N h) (qMM ((qdS wf w).imp λ{a b} hab=>by lia) (λy hy=>B4.mpr (.inl (qWQ wf N h ((qNZ N h).mp hy).1))) ?_)
  ·have:=qVH N h (mem_st.mp z).1
   lia
  ·rw[qc3 wf N h];exact qT0 wf N ua m (i+1) (by lia) (by lia)
theorem qcL (a:WFn Ae)(N:qAE Ae Ad zs)(b:Ad.Pairwise (·<·)):Run Ae (Ae.length:Int) [] (qCH Ae Ad zs) Ad:=by
 have:=qT0 a N b zs.length 0 rfl (E7 _);exact this
theorem qaH (w:Int):qBB (qKR Ae Ad zs w)=[w]:=by
 unfold qKR qBB;rw[F9,if_pos rfl];dsimp only;congr 1;rw[List.filterMap_map];exact List.filterMap_eq_nil_iff.mpr λy _=>if_neg (t:=some y) qAA
theorem qaI (l:List Int):qBB (l.flatMap (qKR Ae Ad zs))=l:=by
 induction l with
 |nil=>rfl
 |cons w l ih=>
  rw[A53,qIE,qaH,ih]
  rfl
theorem qZC (c:WFn Ae) (N:qAE Ae Ad zs) {m:Mv} (h:m∈qCH Ae Ad zs):(m.1 = "do"\/m.1 = "clear")/\0<=m.2/\m.2<(Ae.length:Int):=by
 obtain⟨w,b,d⟩:=List.mem_flatMap.mp h;obtain⟨i,a⟩:=J5 b;have f:=N.1.in_ w b;rcases B8.mp d with e|e
 ·rw[e];exact⟨.inl rfl,f⟩
 ·obtain⟨y,j,e⟩:=D9.mp e;rw[<- e];have:=qIP c N a ((qNZ N a).mp j).1;have g:=N.1.in_ y (P4 this.1);exact⟨.inr rfl,g⟩
theorem qEL {c:List Int}(a:qAE Ae Ad zs)(b:qAE Ae Ad c):zs=c:=qJI a.1.up b.1.up λx=>(a.2 x).trans (b.2 x).symm
end
def PlanAt (H:Hp)(l:Addr)(ms:List Mv):Prop:=∃rs:List Addr,H l=some (.lst (rs.map V.ref))/\MovL H rs ms
theorem PlanAt.same {H H':Hp}{l:Addr}{a:List Mv}(h:PlanAt H l a)(k:Same H H'):PlanAt H' l a:=by
 obtain⟨b,d,c⟩:=h;exact⟨b,k _ _ d,c.same k⟩
def qFB (H:Hp)(t:Addr)(Ae:Aa0)(Ad:List Int):Prop:=H t=some (.tup (Ad.map V.int))/\Rise (Ae.length:Int) Ad
noncomputable def lv (L:List Int)(x:Int):Int:=(L[x.toNat]?).getD 0
structure Lev (Ae:Aa0)(L:List Int):Prop where
 len:L.length=Ae.length
 at_:∀(i:Nat) zs,Ae[i]?=some zs->∃l,L[i]?=some l/\0<=l/\l<=(i:Int)/\(∀y∈zs,lv L y+1<=l)/\(l=0\/∃y∈zs,lv L y+1=l)
structure Fd (n:Nat)(L:List Int)(S:Int->Prop)(fs:List Int):Prop where
 len:fs.length=n
 at_:∀w:Nat,w<n->(S w->fs[w]?=some (lv L w))/\(¬S w->fs[w]?=some 0)
noncomputable def nds (Ae:Aa0)(ws:List Int):List Int:=(ws.map (nd Ae)).flatten
structure CntX (n:Nat)(cs:List Int)(seen:List Int):Prop where
 len:cs.length=n
 at_:∀x:Nat,x<n->cs[x]?=some ((seen.count (x:Int):Nat):Int)
theorem qh1 {Ae:Aa0}(b:WFn Ae){a x:Int}(h:Nd Ae [a] x):x<=a:=by
 induction h with
 |ask m=>rw[A6.mp m];exact K7 _
 |@need w y zs _ e m ih=>
  have:=(b _ _ e).in_ y m
  lia
theorem qgX {P:B13}{w:World}{X:Cx}:qN6 (CX1 P w) X E0:=by
 rintro _ _ _ _ _ _ _ ⟨e,cls,dd,H',B,nt,_,_,_,_,z⟩;exact z.elim
noncomputable def xfs (n w:V):List (Str×V):=putF "word" w [("move",n)]
theorem qYV {H:Hp}{x a:Addr}{o c u:HO}(h:a≠x):Ag (Ag (Ag H x o) a u) x c=Ag (Ag H a u) x c:=by
 funext b
 unfold Ag;by_cases d:b=x
 ·simp[d]
 ·simp[d]
theorem qVC {H:Hp}{x a:Addr}{o u e:HO}(h:a≠x):Ag (Ag (Ag H a u) x o) a e=Ag (Ag H a e) x o:=by
 funext b
 unfold Ag;by_cases c:b=a
 ·subst c;simp[h]
 ·by_cases d:b=x
  ·subst d;simp[c]
  ·simp[c,d]
def qVN (C:Addr):Sp:=λvs H Q _=>∃(x:Addr) (a b:V),vs=[.ref x,a,b]/\H x=some (ExcN x C none)/\∀dx,H dx=none->dx≠x->Q .non (Ag (Ag H dx (XDic dx (xfs a b))) x (ExcN x C (some dx)))
def Beh (st st':List Int) (Ac:Str) (wk:Int):Prop:=(Ac = "do"->st'.Perm (st++[wk])/\st'.Pairwise (·<=·))/\(Ac = "clear"->st'=st.filter λx=>decide (x≠wk))
theorem qML:∀{l m:List Int},l.Perm m->l.Pairwise (·<=·)->m.Pairwise (·<=·)->l=m:=by
 intro l m d e f;exact d.eq_of_pairwise (λa b _ _ g c=>Int.le_antisymm g c) e f
theorem Beh.one {st a b:List Int} {Ac:Str} {d:Int} (g:Ac = "do"\/Ac = "clear") (c:Beh st a Ac d) (f:Beh st b Ac d):a=b:=by
 rcases g with e|e
 ·obtain⟨h,j⟩:=c.1 e;obtain⟨k,i⟩:=f.1 e;exact qML (h.trans k.symm) j i
 ·rw[c.2 e,f.2 e]
def qHN:Sp:=λvs H Q _=>∃(s mv:Addr) (st:List Int) (Ac:Str) (wk:Int),vs=[.ref s,.ref mv]/\H s=some (.tup (st.map V.int))/\st.length<=62/\H mv=some (.tup [.str Ac,.int wk])/\(Ac = "do"\/Ac = "clear")/\
 ∀r st' H',Same H H'->H' r=some (.tup (st'.map V.int))->Beh st st' Ac wk->Q (.ref r) H'
inductive Play (Ae:Aa0)(Aa:Int):List Int->List Mv->Aa0->V->Prop
 |nil {st}:Play Ae Aa st [] [] .non
 |stop {st m ms w0}:wd Ae st Aa m=.str w0->Play Ae Aa st (m::ms) [] (.str w0)
 |go {st st' m ms sts v}:wd Ae st Aa m=.non->Beh st st' m.1 m.2->Play Ae Aa st' ms sts v->Play Ae Aa st (m::ms) (st'::sts) v
def MvOk (Ae:Aa0) (ms:List Mv):Prop:=∀m∈ms,(m.1 = "do"\/m.1 = "clear")/\0<=m.2/\m.2<(Ae.length:Int)
theorem Play.one {Ae:Aa0}{Aa:Int}{st:List Int}{d:List Mv}{a b:Aa0}{v u:V}(g:MvOk Ae d)(h:Play Ae Aa st d a v)(f:Play Ae Aa st d b u):a=b/\v=u:=by
 induction h generalizing b u with
 |nil=>cases f;exact⟨rfl,rfl⟩
 |stop e=>
  cases f with
  |stop e2=>rw[e] at e2;exact⟨rfl,e2⟩
  |go e2 _ _=>rw[e] at e2;cases e2
 |go e bh p ih=>
  cases f with
  |stop e2=>rw[e] at e2;cases e2
  |go e2 bh2 p2=>
   have:=bh.one (g _ (by simp)).1 bh2
   subst this;obtain⟨x,y⟩:=ih (λm c=>g m (A8 _ c)) p2;exact⟨by rw[x],y⟩
theorem Beh.fits {Ae:Aa0} {Aa:Int} {st a:List Int} {m:Mv} (c:m.1 = "do"\/m.1 = "clear") (e:wd Ae st Aa m=.non) (b:Beh st a m.1 m.2) (h:(st.length:Int)<=Aa):(a.length:Int)<=Aa:=by
 rcases c with d|d
 ·have l:=(b.1 d).1.length_eq;rw[B7,F1] at l;unfold wd qD9 qDY at e;rw[if_pos d] at e
  split at e
  ·cases e
  ·split at e
   ·split at e
    ·cases e
    ·lia
   ·cases e
 ·rw[b.2 d];have:=F2 (λx=>decide (x≠m.2)) st
  lia
def qTV (H:Hp)(l:Addr)(sts:Aa0):Prop:=∃rs:List Addr,H l=some (.lst (rs.map V.ref))/\NetL H rs sts
theorem NetL.sm {H H':Hp}{b:List Addr}{a:Aa0}(h:NetL H b a)(s:Same H H'):NetL H' b a:=h.same λr c e=>s _ _ e
theorem NetL.put {H:Hp}{p:Addr}{xs:List V}{o:HO}{b:List Addr}{a:Aa0}(h:NetL H b a)(c:H p=some (.lst xs)):NetL (Ag H p o) b a:=h.same λr d e=>by
 rw[qA9 (qC1 e c (by intro z;cases z))]
 exact e
def PlayIn (H:Hp)(a l:Addr)(Ae:Aa0)(ms:List Mv)(Aa:Int):Prop:=NetAt H a Ae/\WFn Ae/\Ae.length<=400/\PlanAt H l ms/\ms.length<=10000/\MvOk Ae ms/\0<=Aa/\Aa<=60
theorem PlayIn.same {H H':Hp}{a l:Addr}{Ae:Aa0}{b:List Mv}{Aa:Int}(h:PlayIn H a l Ae b Aa)(s:Same H H'):PlayIn H' a l Ae b Aa:=by
 obtain⟨f,g,j,d,e,i,c⟩:=h;exact⟨f.same s,g,j,d.same s,e,i,c⟩
def qVL (C:Addr):Sp:=λvs H Q E=>∃(a l:Addr) (Ae:Aa0) (ms:List Mv) (Aa:Int),vs=[.ref a,.int Aa,.ref l]/\PlayIn H a l Ae ms Aa/\
 (∀ls sts H',Same H H'->Play Ae Aa [] ms sts .non->H ls=none->qTV H' ls ([]::sts)->Q (.ref ls) H')/\
 (∀sts w0 dx H',Same H H'->Play Ae Aa [] ms sts (.str w0)->H' dx=some (XDic dx (xfs (.int (sts.length:Int)) (.str w0)))->E (.ref C) (some dx) H')
noncomputable def isDo (m:Mv):Bool:=decide (m.1 = "do")
noncomputable def doN (ms:List Mv):Int:=((ms.filter isDo).length:Nat)
theorem qaC {α:Type}{p:α->Bool}{l:List α}{i:Nat}:((l.take i).filter p).length<=i:=
 E3 (F2 _ _) (by rw[D8];lia)
theorem qVG {α:Type}{l:List α}{i:Nat}{x:α}(h:l[i]?=some x):l.take (i+1)=l.take i++[x]:=by
 rw[List.take_succ,h]
 rfl
noncomputable def lens (sts:Aa0):List Int:=sts.map λz=>(z.length:Int)
def qVK:Sp:=λvs H Q _=>∃(l:Addr) (ms:List Mv),vs=[.ref l]/\PlanAt H l ms/\ms.length<=10000/\∀H',Same H H'->Q (.int (doN ms)) H'
def qaV (C:Addr):Sp:=λvs H Q E=>∃(a l:Addr) (Ae:Aa0) (ms:List Mv),vs=[.ref a,.ref l]/\PlayIn H a l Ae ms (Ae.length:Int)/\
 (∀sts m H',Same H H'->Play Ae (Ae.length:Int) [] ms sts .non->topD none (lens ([]::sts))=some m->Q (.int m) H')/\
 (∀sts w0 dx H',Same H H'->Play Ae (Ae.length:Int) [] ms sts (.str w0)->H' dx=some (XDic dx (xfs (.int (sts.length:Int)) (.str w0)))->E (.ref C) (some dx) H')
theorem Play.len {Ae:Aa0}{Aa:Int}{st:List Int}{b:List Mv}{a:Aa0}{v:V}(h:Play Ae Aa st b a v):a.length<=b.length:=by
 induction h with
 |nil=>exact A7 _
 |stop _=>exact E7 _
 |go _ _ _ ih=>rw[C5,C5];lia
structure YNa (K:Ab1)(C:Addr):Prop where
 Ae:qTW K C "net"
 Aa:qTW K C "rooms"
 made:qTW K C "made"
 stands:qTW K C "stands"
noncomputable def yfs (a:Addr) (Aa:Int) (lm ls:Addr):List (Str×V):=putF "stands" (.ref ls) (putF "made" (.ref lm) (putF "rooms" (.int Aa) (putF "net" (.ref a) [])))
noncomputable def qPV (st:List Int):Aa0->List Int
 |[]=>st
 |s::r=>qPV s r
theorem qd7:∀{rs:List Addr} {st:List Int} {sts:Aa0} {H:Hp},NetL H rs (st::sts)->∃ss r,rs=ss++[r]/\H r=some (.tup ((qPV st sts).map V.int)):=by
 intro rs st sts
 induction sts generalizing rs st with
 |nil=>
  intro H h;cases h with
  |cons a b=>cases b;exact⟨[],_,rfl,a⟩
 |cons s r ih=>
  intro H h;cases h with
  |cons a b=>
   obtain⟨ss,q,rfl,g⟩:=ih b;exact⟨_::ss,q,rfl,g⟩
structure YardAt (C:Addr)(H:Hp)(y a lm ls:Addr)(Ae:Aa0)(Aa:Int)(ms:List Mv)(sts:Aa0):Prop where
 obj:∃dx,H y=some (.ins C dx (yfs a Aa lm ls))
 nat:NetAt H a Ae
 wf:WFn Ae
 n400:Ae.length<=400
 r0:0<=Aa
 r62:Aa<=62
 made:PlanAt H lm ms
 ok:MvOk Ae ms
 len:ms.length<=10000
 stands:qTV H ls ([]::sts)
 play:Play Ae Aa [] ms sts .non
 ne:lm≠ls
section
variable{Ae:Aa0}
noncomputable def qdR (Ae:Aa0):Nat->List Int
 |0=>[]
 |i+1=>qdR Ae i++[if nd Ae (i:Int)=[] then 1 else((nd Ae (i:Int)).map λz=>(qdR Ae i).getD z.toNat 0).sum]
noncomputable def cn (Ae:Aa0)(z:Int):Int:=(qdR Ae (z.toNat+1)).getD z.toNat 0
def hd (p:List Int):Int:=p.headD 0
noncomputable def apF (Ae:Aa0):Nat->List Int->Aa0
 |0,p=>[p]
 |n+1,p=>if nd Ae (hd p)=[] then[p] else((nd Ae (hd p)).reverse.map λz=>apF Ae n (z::p)).flatten
noncomputable def aP (Ae:Aa0)(p:List Int):Aa0:=apF Ae ((hd p).toNat+1) p
structure POk (Ae:Aa0)(p:List Int):Prop where
 ne:p≠[]
 h0:0<=hd p
 h1:hd p<(Ae.length:Int)
 len:(p.length:Int)+hd p<=(Ae.length:Int)
structure PWay (Ae:Aa0)(work:Int)(fs st:Aa0):Prop where
 all:fs++(st.map (aP Ae)).flatten=aP Ae [work]
 ok:∀p∈st,POk Ae p
 fok:∀p∈fs,POk Ae p
end
noncomputable def rowN (n b:Nat):Aa0:=(C3 n).map λk=>qAO ((k-b:Nat):Int) k
noncomputable def sqW (m w:Nat):List Int:=(if m<=w then[(w:Int)-m] else[])++(if 0<w%m then[(w:Int)-1] else[])
noncomputable def sqN (n m:Nat):Aa0:=(C3 (n*m)).map (sqW m)
noncomputable def off (n:Nat):Nat->Nat
 |0=>0
 |r+1=>off n r+(n-r)
noncomputable def qYZ (n:Nat):Nat->Aa0
 |0=>E5 n []
 |r+1=>(C3 (n-(r+1))).map λp=>[((off n r+p:Nat):Int),((off n r+p:Nat):Int)+1]
noncomputable def stUp (n r:Nat):Aa0:=(C3 r).flatMap (qYZ n)
def stN (n:Nat):Aa0:=stUp n n
theorem qKA (n r:Nat):stUp n (r+1)=stUp n r++qYZ n r:=by unfold stUp;rw[T1,A24];simp
theorem qVJ (n r:Nat):(qYZ n r).length=n-r:=by cases r<;>simp[qYZ]
theorem qNE (n:Nat):∀r,(stUp n r).length=off n r
 |0=>rfl
 |r+1=>by rw[qKA,B7,qNE n r,qVJ];rfl
theorem qb4 (n:Nat):∀r,off n r<=r*n
 |0=>by simp[off]
 |r+1=>by
  have:=qb4 n r;rw[Nat.succ_mul];show off n r+(n-r)<=_
  lia
noncomputable abbrev keyOf (s:Nat×Nat):List Key:=[E8 (s.1:Int),E8 (s.2:Int)]
theorem Paired.app {α β:Type}{F:α->β->Prop}{l₁ b:List α}{l₂ a:List β}(h:Paired F l₁ l₂)(c:Paired F b a):Paired F (l₁++b) (l₂++a):=by
 induction h with
 |nil=>exact c
 |cons r t ih=>exact .cons r ih
theorem qKU {i j:Int}(h:0<=j)(a:j<=1000):CMul i j:=.inr ⟨by lia,by lia⟩
theorem qcW {H H':Hp}{p:Addr}(s:Same H H')(h:H' p=none):H p=none:=by
 cases e:H p with
 |none=>rfl
 |some o=>rw[s _ _ e] at h;cases h
theorem qcC (n:Nat)(a:Addr):(E5 n [V.ref a]).flatten=(E5 n a).map V.ref:=by
 rw[List.map_replicate]
 induction n with
 |zero=>rfl
 |succ n ih=>rw[O3,O4,ih,O3];rfl
theorem qT8 {H:Hp}{a:Addr}(h:H a=some (.tup [])):∀n,NetL H (E5 n a) (E5 n [])
 |0=>.nil
 |n+1=>.cons h (qT8 h n)
structure NumP (rs:List Addr)(ss:List (Nat×Nat))(j:Nat)(ps:List (List Key×Addr×V)):Prop where
 keys:ps.map (·.1)=(ss.take j).map keyOf
 at_:∀(k:Nat) (s:Nat×Nat),k<j->ss[k]?=some s->∃a,ps[k]?=some (keyOf s,a,.int (k:Int))
def qSJ:Sp:=λvs H Q _=>∃n b:Nat,vs=[.int n,.int b]/\n<=400/\b<=400/\∀a H',Same H H'->NetAt H' a (rowN n b)->Q (.ref a) H'
def qP6:Sp:=λvs H Q _=>∃(m w:Nat) (i j:Int),vs=[.int m,.int i,.int j]/\m<=400/\0<=i/\0<=j/\j<m/\i*m+j=w/\∀a H',Same H H'->H' a=some (.tup ((sqW m w).map V.int))->Q (.ref a) H'
def qZ0:Sp:=λvs H Q _=>∃n m:Nat,vs=[.int n,.int m]/\1<=m/\m<=400/\n*m<=400/\∀a H',Same H H'->NetAt H' a (sqN n m)->Q (.ref a) H'
def qc5:Sp:=λvs H Q _=>∃n:Nat,vs=[.int n]/\1<=n/\n<=30/\∀a H',Same H H'->NetAt H' a (stN n)->Q (.ref a) H'
def qSK:Sp:=λvs H Q _=>∃i:Int,vs=[.int i]/\Q (.bl true) H
def qVR:Sp:=λvs H Q _=>∃i k:Int,vs=[.int i,.int k]/\0<=i/\i<k/\Q (.bl true) H
noncomputable def qdB (ins:List (Int×Int))(x:Int):Option Int:=(ins.find? λq=>decide (q.1=x)).map (·.2)
noncomputable def qgS (ins:List (Int×Int))(i:Nat):Nat:=((C3 i).filter λ(x:Nat)=>(qdB ins (x:Int)).isNone).length
noncomputable def numO (m:Nat)(ins:List (Int×Int))(x:Nat):Int:=match qdB ins (x:Int) with|some v=>v|none=>((m+qgS ins x:Nat):Int)
structure InsAt (H:Hp)(i:Addr)(ins:List (Int×Int)):Prop where
 at_:∃rs:List Addr,BareT H i (rs.map V.ref)/\Paired (λr (q:Int×Int)=>H r=some (.tup [.int q.1,.int q.2])) rs ins
 nodup:(ins.map (·.1)).Nodup
structure InsOk (m:Nat)(other:Aa0)(k:Nat)(ins:List (Int×Int))(fs:List Int):Prop where
 st:∀q∈ins,(0<=q.1/\q.1<(k:Int))/\other[q.1.toNat]?=some []/\0<=q.2/\q.2<(m:Int)
 nd1:(ins.map (·.1)).Nodup
 nd2:(ins.map (·.2)).Nodup
 fr:fs.Nodup
 fin:∀x∈fs,(0<=x/\x<(m:Int))/\x∉ins.map (·.2)
 len:ins.length<=k
noncomputable def pm (m:Mv):Int:=if m.1 = "do" then 1 else -1
noncomputable def peak:Int->List Mv->Int
 |n,[]=>n
 |n,m::ms=>max n (peak (n+pm m) ms)
theorem qeX (w:Int):pm ("do",w)=1:=rfl
theorem qSZ (w:Int):pm ("clear",w) = -1:=if_neg (qAA)
theorem qW9:∀(n:Int) (ms:List Mv),n<=peak n ms
 |n,[]=>K7 _
 |n,m::ms=>by show n<=max n _;lia
theorem Run.app {Ae:Aa0}{Aa:Int}{s t u:List Int}{a b:List Mv}(h:Run Ae Aa s a t)(k:Run Ae Aa t b u):Run Ae Aa s (a++b) u:=by
 induction h with
 |nil=>exact k
 |do_ h1 h2 h3 h4 h5 _ ih=>exact .do_ h1 h2 h3 h4 h5 (ih k)
 |clear h1 _ ih=>exact .clear h1 (ih k)
theorem qET {s:List Int}(h:s.Pairwise (·<·)):s.Nodup:=h.imp λ{a b} c=>by lia
noncomputable def less (th s:List Int):List Int:=s.filter λx=>decide (x∉th)
noncomputable def qh9 (th:List Int)(ms:List Mv):List Mv:=ms.filter λm=>decide (m.2∉th)
theorem Run.play {Ae:Aa0}{Aa:Int}{s t:List Int}{c:List Mv}(h:Run Ae Aa s c t):s.Pairwise (·<·)->∃sts,Play Ae Aa s c sts .non/\qPV s sts=t/\topD none (lens (s::sts))=some (peak (s.length:Int) c)/\∀z∈sts,(z.length:Int)<=peak (s.length:Int) c:=by
 induction h with
 |nil=>intro _;exact⟨[],.nil,rfl,rfl,λ_ z=>nomatch z⟩
 |@do_ s s' t w c h1 h2 h3 h4 h5 h6 ih=>
  intro n;obtain⟨sts,p,l,d,j⟩:=ih h5;have r:=h4.length_eq;rw[B7,F1] at r;have i:peak (s.length:Int) (("do",w)::c)=max (s.length:Int) (peak (s'.length:Int) c):=by
   show max _ (peak ((s.length:Int)+pm ("do",w)) c)=_
   rw[qeX,show((s.length:Int)+1)=(s'.length:Int) by lia]
  have y:=qW9 (s'.length:Int) c;refine⟨s'::sts,.go ?_ ⟨λ_=>⟨h4,h5.imp λ{a b} a0=>by lia⟩,λz=>absurd z.symm qAA⟩ p,l,?_,λz v=>?_⟩
  ·unfold wd qD9 qDY;rw[if_pos rfl,if_neg h1,if_pos (show∀x∈(Ae[w.toNat]?).getD [],x∈s from h2),if_neg (by lia)]
  ·unfold lens at d ⊢;rw[C7] at d;rw[C7,C7,i];show some (topI _ _)=_;have e:topI (s'.length:Int) (sts.map λz=>(z.length:Int))=peak (s'.length:Int) c:=B0 d;have g:=qK8 ((s'.length:Int)::sts.map λz=>(z.length:Int)) (s.length:Int);have f:=qK8 (sts.map λz=>(z.length:Int)) (s'.length:Int);rw[e] at f;congr 1;have u:∀x∈(s'.length:Int)::sts.map (λz=>(z.length:Int)),x<=peak (s'.length:Int) c:=λx o=>by
    rcases B8.mp o with q|q
    ·lia
    ·exact f.2.1 x q
   have k:peak (s'.length:Int) c∈(s'.length:Int)::sts.map (λz=>(z.length:Int)):=by
    rcases f.2.2 with q|q
    ·rw[q];exact E4
    ·exact A8 _ q
   have b3:=g.2.1 _ k;rcases g.2.2 with q|q
   ·lia
   ·have:=u _ q
    lia
  ·rw[i];rcases B8.mp v with q|q
   ·rw[q];lia
   ·have:=j z q;lia
 |@clear s t w c h1 h2 ih=>
  intro n;obtain⟨sts,p,l,d,j⟩:=ih (n.filter _);have r:=qSU (qET n) h1;generalize hs':(s.filter λx=>decide (x≠w))=s' at p l d j r;have i:peak (s.length:Int) (("clear",w)::c)=max (s.length:Int) (peak (s'.length:Int) c):=by
   show max _ (peak ((s.length:Int)+pm ("clear",w)) c)=_;rw[qSZ,show((s.length:Int) + -1)=(s'.length:Int) by lia]
  have y:=qW9 (s'.length:Int) c;refine⟨s'::sts,.go ?_ ⟨λz=>absurd z qAA,λ_=>hs'.symm⟩ p,l,?_,λz v=>?_⟩
  ·unfold wd qD9 qDQ;rw[if_neg (show¬(("clear",w):Mv).1 = "do" fromλz=>qAA z),if_pos h1]
  ·unfold lens at d ⊢;rw[C7] at d;rw[C7,C7,i];show some (topI _ _)=_;have e:topI (s'.length:Int) (sts.map λz=>(z.length:Int))=peak (s'.length:Int) c:=B0 d;have g:=qK8 ((s'.length:Int)::sts.map λz=>(z.length:Int)) (s.length:Int);have f:=qK8 (sts.map λz=>(z.length:Int)) (s'.length:Int);rw[e] at f;congr 1;have u:∀x∈(s'.length:Int)::sts.map (λz=>(z.length:Int)),x<=peak (s'.length:Int) c:=λx o=>by
    rcases B8.mp o with q|q
    ·lia
    ·exact f.2.1 x q
   have k:peak (s'.length:Int) c∈(s'.length:Int)::sts.map (λz=>(z.length:Int)):=by
    rcases f.2.2 with q|q
    ·rw[q];exact E4
    ·exact A8 _ q
   have b3:=g.2.1 _ k;rcases g.2.2 with q|q
   ·lia
   ·have:=u _ q
    lia
  ·rw[i];rcases B8.mp v with q|q
   ·rw[q];lia
   ·have:=j z q;lia
noncomputable def pbGo (num:Int->Int)(jn:Int->Bool)(pl:Int->List Mv):List Int->List Mv->List Mv
 |_,[]=>[]
 |th,m::c=>if m.1 = "clear" then("clear",num m.2)::pbGo num jn pl (th.filter λx=>decide (x≠num m.2)) c else(if jn m.2 then qh9 th (pl (num m.2)) else[("do",num m.2)])++pbGo num jn pl (th++[num m.2]) c
structure ThOk (n:Nat)(num:Int->Int)(th s:List Int):Prop where
 perm:th.Perm (s.map num)
 rise:Rise (n:Int) s
theorem Run.inv {Ae:Aa0} {Aa:Int} {s t:List Int} {m:Mv} {a:List Mv} (h:Run Ae Aa s (m::a) t):(m.1 = "do"/\∃s',m.2∉s/\(∀y∈nd Ae m.2,y∈s)/\(s.length:Int)<Aa/\s'.Perm (s++[m.2])/\s'.Pairwise (·<·)/\Run Ae Aa s' a t)\/(m.1 = "clear"/\m.2∈s/\Run Ae Aa (s.filter λx=>decide (x≠m.2)) a t):=by
 cases h with
 |do_ h1 h2 h3 h4 h5 h6=>exact .inl ⟨rfl,_,h1,h2,h3,h4,h5,h6⟩
 |clear h1 h2=>exact .inr ⟨rfl,h1,h2⟩
structure TopO (Ae:Aa0)(zs:List Int):Prop where
 nodup:zs.Nodup
 in_:∀x∈zs,0<=x/\x<(Ae.length:Int)
 bef:∀(p:Nat) (o:Int),zs[p]?=some o->∀x∈nd Ae o,x∈zs.take p
 aft:∀(p:Nat) (o:Int),zs[p]?=some o->p+1<zs.length->later Ae zs (p+1) o
structure Begun (Ae:Aa0)(some_ ord:List Int):Prop where
 nodup:ord.Nodup
 sub:∀x∈ord,x∈some_
 bef:∀(p:Nat) (o:Int),ord[p]?=some o->∀x∈nd Ae o,x∈ord.take p
def qPB:Sp:=λvs H Q _=>∃(a t:Addr) (Ae:Aa0) (Ad:List Int),vs=[.ref a,.ref t]/\NetAt H a Ae/\WFn Ae/\Ae.length<=60/\H t=some (.tup (Ad.map V.int))/\(∀x∈Ad,0<=x/\x<(Ae.length:Int))/\
 ∀l zs H',Same H H'->H l=none->H' l=some (.lst (zs.map V.int))->qAE Ae Ad zs->Q (.ref l) H'
def qNH:Sp:=λvs H Q _=>∃(a t:Addr) (Ae:Aa0) (Ad:List Int),vs=[.ref a,.ref t]/\NetAt H a Ae/\WFn Ae/\Ae.length<=60/\qFB H t Ae Ad/\
 ∀l zs H',Same H H'->H l=none->qAE Ae Ad zs->PlanAt H' l (qCH Ae Ad zs)->Q (.ref l) H'
noncomputable def ndOf (Ae:Aa0)(Ad:List Int):List Int:=by
 classical
 exact if h:∃zs,qAE Ae Ad zs then A70 h else[]
noncomputable def qaZ (Ae:Aa0)(w:Int):List Mv:=qCH Ae [w] (ndOf Ae [w])
def numF (m:Nat)(ins:List (Int×Int))(x:Int):Int:=numO m ins x.toNat
noncomputable def qhC (ins:List (Int×Int))(x:Int):Bool:=(qdB ins x).isSome
noncomputable def qhP (one:Aa0)(ins:List (Int×Int))(ms:List Mv):List Mv:=pbGo (numF one.length ins) (qhC ins) (qaZ one) [] ms
noncomputable def qh4 (one:Aa0)(ins:List (Int×Int)):Int:=(topD (some 1) (ins.map λq=>peak 0 (qaZ one q.2))).getD 0
noncomputable def qhO (one:Aa0)(ins:List (Int×Int))(ms:List Mv):Int:=match ins with|[]=>peak 0 ms|_::_=>qh4 one ins+peak 0 ms-1
structure BehIn (H:Hp)(a b i l:Addr)(one other:Aa0)(ins:List (Int×Int))(ms:List Mv)(st:List Int):Prop where
 gA:NetAt H a one
 wf1:WFn one
 gB:NetAt H b other
 wf2:WFn other
 gI:InsAt H i ins
 ok:∃fs,InsOk one.length other other.length ins fs
 plan:PlanAt H l ms
 mv:MvOk other ms
 len:ms.length<=400
 run:Run other (other.length:Int) [] ms st
 o1:1<=one.length
 o2:one.length<=60
 o3:1<=other.length
 o4:other.length<=60
theorem qZ3 {Ae:Aa0}{Aa:Int}{a:List Mv}{st:List Int}(c:MvOk Ae a)(R:Run Ae Aa [] a st):(∀sts m,Play Ae Aa [] a sts .non->topD none (lens ([]::sts))=some m->m=peak 0 a)/\∀sts w0,¬Play Ae Aa [] a sts (.str w0):=by
 obtain⟨b,d,f,e,_⟩:=R.play .nil;refine⟨λsts m p h=>?_,λsts w0 p=>?_⟩
 ·rw[(Play.one c p d).1,e] at h;exact(B0 h).symm
 ·have:=(Play.one c p d).2;cases this
theorem qZN {Ae:Aa0}{Ad:List Int}(a:WFn Ae)(r:Rise (Ae.length:Int) Ad){x:Int}(h:Nd Ae Ad x):0<=x/\x<(Ae.length:Int):=by
 induction h with
 |ask m=>exact r.in_ _ m
 |need _ e hy ih=>
  have c:=(a _ _ e).in_ _ hy;have b:=(A3.mp e).1
  lia
theorem qPO {Ae:Aa0}{Ad:List Int}(a:WFn Ae)(r:Rise (Ae.length:Int) Ad):∃zs,qAE Ae Ad zs:=by
 classical
 refine⟨(qAO 0 Ae.length).filter λx=>decide (Nd Ae Ad x),⟨(qFL _ _).filter _,λx b=>?_⟩,λx=>?_⟩
 ·have:=mem_rangeI.mp (B9.mp b).1
  lia
 ·rw[B9,decide_eq_true_eq,mem_rangeI];exact⟨λh=>h.2,λh=>⟨qZN a r h,h⟩⟩
def qVO:Sp:=λvs H Q _=>∃(a l t:Addr) (Ae:Aa0) (ms:List Mv) (Aa:Int) (Ad:List Int),vs=[.ref a,.int Aa,.ref l,.ref t]/\PlayIn H a l Ae ms Aa/\H t=some (.tup (Ad.map V.int))/\Ad.length<=1000/\
 (∀sts H',Same H H'->Play Ae Aa [] ms sts .non->Q (.bl (decide (∀x∈Ad,x∈qPV [] sts))) H')/\(∀sts w0 H',Same H H'->Play Ae Aa [] ms sts (.str w0)->Q (.bl false) H')
structure TwoIn (H:Hp)(a b i:Addr)(one other:Aa0)(ins:List (Int×Int)):Prop where
 gA:NetAt H a one
 wf1:WFn one
 gB:NetAt H b other
 wf2:WFn other
 gI:InsAt H i ins
 ok:∃fs,InsOk one.length other other.length ins fs
 o1:1<=one.length
 o2:one.length<=40
 o3:1<=other.length
 o4:other.length<=7
theorem qaT {Ae:Aa0} {st:List Int} {Aa:Int} {Ac:Str} {b:Int} (c:Ac = "do"\/Ac = "clear") (e:wd Ae st Aa (Ac,b)=.non):(Ac = "do"->b∉st/\(∀y∈nd Ae b,y∈st)/\(st.length:Int)<Aa)/\(Ac = "clear"->b∈st):=by
 rcases c with d|d
 ·subst d;refine⟨λ_=>?_,λz=>absurd z.symm qAA⟩;have a:qDY ((Ae[b.toNat]?).getD []) st Aa b=.non:=by
   have:=e;unfold wd qD9 at this;rw[if_pos rfl] at this;exact this
  unfold qDY at a
  split at a
  ·cases a
  rename_i hn
  split at a
  ·rename_i hall
   split at a
   ·cases a
   ·exact⟨hn,hall,by lia⟩
  ·cases a
 ·subst d;refine⟨λz=>absurd z qAA,λ_=>?_⟩;have a:qDQ st b=.non:=by
   have:=e;unfold wd qD9 at this;rw[if_neg (show¬C0 "clear" = C0 "do" from qAA)] at this
   exact this
  unfold qDQ at a
  split at a
  ·rename_i hin;exact hin
  ·cases a
theorem qaQ {n:Nat} {st a:List Int} {Ac:Str} {c:Int} (r:Rise (n:Int) st) (g:Ac = "do"\/Ac = "clear") (i:0<=c) (j:c<(n:Int)) (h:Ac = "do"->c∉st) (b:Beh st a Ac c):Rise (n:Int) a:=by
 rcases g with d|d
 ·obtain⟨f,k⟩:=b.1 d;refine⟨qJ6 k (f.nodup_iff.mpr (qNX r.nodup (h d))),λx e=>?_⟩;rcases B4.mp (f.mem_iff.mp e) with q|q
  ·exact r.in_ x q
  ·rw[A6.mp q];exact⟨i,j⟩
 ·rw[b.2 d];exact⟨r.up.filter _,λx e=>r.in_ x (B9.mp e).1⟩
theorem qW3 {Ae:Aa0}{c:List Mv}{R Aa:Int}{s t:List Int}{g:Aa0}(R0:Run Ae R s c t):s.Pairwise (·<·)->(s.length:Int)<=Aa->Aa<peak (s.length:Int) c->¬Play Ae Aa s c g .non:=by
 intro u hs q w;generalize hv:V.non=v at w
 induction w generalizing t with
 |@nil st=>exact absurd (show Aa<(st.length:Int) from q) (by lia)
 |stop _=>cases hv
 |@go st st' m c g v e b p ih=>
  obtain⟨Ac,j⟩:=m;rcases R0.inv with⟨d,y,i,h,h3,o,k,z⟩|⟨d,i,h⟩
  ·dsimp only at d i h h3 o k;subst d;have r:=b.1 rfl;have f:st'=y:=qML (r.1.trans o.symm) r.2 (k.imp λ{a b} x=>by lia)
   subst f;have n:=o.length_eq;rw[B7,F1] at n;have lt:=((qaT (.inl rfl) e).1 rfl).2.2;have l:peak (st.length:Int) ((("do",j):Mv)::c)=max (st.length:Int) (peak (st'.length:Int) c):=by
    show max _ (peak ((st.length:Int)+pm ("do",j)) c)=_
    rw[qeX,show((st.length:Int)+1)=(st'.length:Int) by lia]
   rw[l] at q;exact ih z k (by lia) (by lia) hv
  ·dsimp only at d i h;subst d;have f:=b.2 rfl;dsimp only at f;rw[<- f] at h;have n:=qSU (qET u) i;rw[<- f] at n;have l:peak (st.length:Int) ((("clear",j):Mv)::c)=max (st.length:Int) (peak (st'.length:Int) c):=by
    show max _ (peak ((st.length:Int)+pm ("clear",j)) c)=_;rw[qSZ,show((st.length:Int) + -1)=(st'.length:Int) by lia]
   rw[l] at q;exact ih h (by rw[f];exact u.filter _) (by lia) (by lia) hv
structure Ord (Ae:Aa0)(Ad os:List Int):Prop where
 nodup:os.Nodup
 in_:∀w∈os,0<=w/\w<(Ae.length:Int)
 has:∀(i:Nat) (w y:Int),os[i]?=some w->y∈nd Ae w->y∈os.take i
 used:∀(i:Nat) (w:Int),os[i]?=some w->w∈Ad\/later Ae os (i+1) w
 ask:∀x∈Ad,x∈os
theorem qWZ {a b:List Int}(c:a.Nodup)(d:b.Nodup)(h:∀x∈a,x∈b):a.length<=b.length:=by
 have p:a.Perm (b.filter λx=>decide (x∈a)):=(V8 c (d.filter _)).mpr λx=>by
  rw[B9,decide_eq_true_eq];exact⟨λm=>⟨h x m,m⟩,λm=>m.2⟩
 have l:=p.length_eq;have f:=F2 (λx=>decide (x∈a)) b
 lia
structure Span (Ae:Aa0)(Ad os:List Int)(K:Nat):Prop where
 near:∀(q r:Nat) (x v:Int),os[q]?=some x->os[r]?=some v->x∈nd Ae v->r<=q+K
 last:∀x∈Ad,∀q:Nat,os[q]?=some x->q+1=os.length
theorem qH6 (N:Nat):(qAO 0 (N:Int)).length=N:=by unfold qAO;rw[A0,J2];lia
theorem qg1 {Ae:Aa0}(a:∀x:Nat,x+1<Ae.length->∃v:Nat,x<v/\v<Ae.length/\(x:Int)∈nd Ae (v:Int)):∀(k x:Nat),Ae.length-x=k->x<Ae.length->Nd Ae [((Ae.length:Int)-1)] (x:Int):=by
 intro k
 induction k using A79 with
 |ind k ih=>
  intro x h g;by_cases c:x+1=Ae.length
  ·refine .ask (A6.mpr ?_)
   lia
  ·obtain⟨v,i,f,b⟩:=a x (by lia)
   have d:((v:Int)).toNat<Ae.length:=by lia
   have e:=A4 d;rw[qCI e] at b;exact .need (ih (Ae.length-v) (by lia) v rfl f) e b
theorem qh2 {Ae:Aa0}{a x:Int}(b:WFn Ae)(c:0<=a)(h:Nd Ae [a] x):0<=x:=by
 cases h with
 |ask m=>rw[A6.mp m];exact c
 |need _ e hm=>exact((b _ _ e).in_ x hm).1
theorem qOU {Ae:Aa0}(b:WFn Ae)(c:1<=Ae.length)(a:∀x:Nat,x+1<Ae.length->∃v:Nat,x<v/\v<Ae.length/\(x:Int)∈nd Ae (v:Int)):qAE Ae [((Ae.length:Int)-1)] (qAO 0 (Ae.length:Int)):=by
 refine⟨qH5 (by decide),λx=>?_⟩
 rw[mem_rangeI]
 constructor
 ·intro h;have:=qg1 a _ x.toNat rfl (by lia)
  rw[show((x.toNat:Nat):Int)=x by lia] at this
  exact this
 ·intro h;have l:=qh1 b h;have g:=qh2 b (by lia) h
  lia
theorem qNT (n b:Nat):(rowN n b).length=n:=by unfold rowN;rw[A0,J2]
theorem qKC (n m:Nat):(sqN n m).length=n*m:=by unfold sqN;rw[A0,J2]
noncomputable def colN (n m:Nat):List Int:=(C3 (n*m)).map λp=>(((p%n)*m+p/n:Nat):Int)
theorem qKB (n:Nat):(stN n).length=off n n:=qNE n n
noncomputable def colK (n m j:Nat):List Int:=(C3 (n*j)).map λp=>(((p%n)*m+p/n:Nat):Int)
theorem qY4 {n m j:Nat}(c:1<=n):colK n m (j+1)=colK n m j++(C3 n).map λi=>((i*m+j:Nat):Int):=by
 unfold colK;rw[Nat.mul_succ,List.range_add,C2,T6];congr 1;refine O5 λi b=>?_;have a:=E2.mp b;show((((n*j+i)%n)*m+(n*j+i)/n:Nat):Int)=_;rw[Nat.mul_add_mod,Nat.mod_eq_of_lt a,Nat.mul_add_div (by lia),Nat.div_eq_of_lt a,A59]
theorem qaO (n m j:Nat):(colK n m j).length=n*j:=by unfold colK;rw[A0,J2]
noncomputable def qNF (n m:Nat):List Int:=if n<m then colN n m else qAO 0 ((n*m:Nat):Int)
noncomputable def qR1 (n m:Nat):Nat:=if n*m=1 then 0 else min n m
structure Told (Ae:Aa0)(R:Int)(ms:List Mv):Prop where
 run:Run Ae R [] ms [(Ae.length:Int)-1]
 top:peak 0 ms=R
 ok:MvOk Ae ms
 once:(qBB ms).Perm (qAO 0 (Ae.length:Int))
 len:ms.length<=2*Ae.length
def qNK:Sp:=λvs H Q _=>∃(a t lo:Addr) (Ae:Aa0) (Ad zs:List Int),vs=[.ref a,.ref t,.ref lo]/\NetAt H a Ae/\WFn Ae/\Ae.length<=400/\qFB H t Ae Ad/\H lo=some (.lst (zs.map V.int))/\(∀x∈zs,0<=x/\x<(Ae.length:Int))/\zs.length<=Ae.length/\
 ∀l H',Same H H'->H l=none->PlanAt H' l (qCH Ae Ad zs)->Q (.ref l) H'
def qIL:Sp:=λvs H Q _=>∃n b:Nat,vs=[.int n,.int b]/\1<=n/\n<=400/\b<=400/\Q (.int (((min (n-1) b:Nat):Int)+1)) H
def qKE:Sp:=λvs H Q _=>∃n m:Nat,vs=[.int n,.int m]/\1<=n/\1<=m/\n<=400/\m<=400/\Q (.int ((qR1 n m:Int)+1)) H
def qP4:Sp:=λvs H Q _=>∃n:Nat,vs=[.int n]/\1<=n/\n<=400/\Q (.int (((if n=1 then 0 else n:Nat):Int)+1)) H
def qVP:Sp:=λvs H Q _=>∃n m:Nat,vs=[.int n,.int m]/\1<=n/\1<=m/\n<=400/\m<=400/\n*m<=400/\∀l H',Same H H'->H l=none->H' l=some (.lst ((colN n m).map V.int))->Q (.ref l) H'
noncomputable def mskN (zs:List Int):Nat:=(zs.map λz=>2^z.toNat).sum
noncomputable def cntN (n b:Nat):Nat:=((C3 n).map λk=>b/2^k%2).sum
def clrb (b k:Nat):Nat:=b-2^k*(b/2^k%2)
noncomputable def nxt (Ae:Aa0)(k:Nat):Nat:=mskN ((Ae[k]?).getD [])
def can (Ae:Aa0)(Aa:Int)(b k:Nat):Prop:=(cntN Ae.length b:Int)<Aa/\k<Ae.length/\b &&& nxt Ae k=nxt Ae k
inductive Rm (Ae:Aa0)(Aa:Int):Nat->Nat->Prop
 |zero:Rm Ae Aa 0 0
 |clr {m b k:Nat}:Rm Ae Aa m b->k<Ae.length->Rm Ae Aa m (clrb b k)
 |do_ {m b k:Nat}:Rm Ae Aa m b->can Ae Aa b k->Rm Ae Aa (m+1) (b ||| 2^k)
def Mn (Ae:Aa0)(Aa:Int)(m b:Nat):Prop:=Rm Ae Aa m b/\∀m',m'<m->¬Rm Ae Aa m' b
theorem qdT (b k:Nat):clrb b k<=b:=Nat.sub_le _ _
theorem Rm.lt {Ae:Aa0}{Aa:Int}{m b:Nat}(h:Rm Ae Aa m b):b<2^Ae.length:=by
 induction h with
 |zero=>exact Nat.two_pow_pos _
 |clr _ _ ih=>exact Y1 (qdT _ _) ih
 |do_ _ c ih=>exact Nat.or_lt_two_pow ih (A12 (by decide) c.2.1)
theorem Rm.mono {Ae:Aa0}{r a:Int}(h:r<=a){m b:Nat}(x:Rm Ae r m b):Rm Ae a m b:=by
 induction x with
 |zero=>exact .zero
 |clr _ k ih=>exact .clr ih k
 |do_ _ c ih=>exact .do_ ih ⟨Int.lt_of_lt_of_le c.1 h,c.2⟩
theorem qR0 {α:Type}[DecidableEq α]:∀{l r:List α},l.Nodup->(∀x∈l,x∈r)->l.length<=r.length
 |[],r,_,_=>E7 _
 |a::l,r,nd,h=>by
  have nd':=L6.mp nd;have ha:=h a (E4 ..);have:=qR0 (r:=r.erase a) nd'.2 λx hx=>(List.mem_erase_of_ne (λ(e:x=a)=>nd'.1 (e▸hx))).mpr (h x (A8 _ hx));rw[List.length_erase_of_mem ha] at this;have:0<r.length:=Y9 ha;rw[C5]
  lia
theorem qLP {a:List Nat}{n:Nat}(c:a.Nodup)(h:∀b∈a,b<n):a.length<=n:=by
 have:=qR0 (r:=C3 n) c λx d=>E2.mpr (h x d)
 rwa[J2] at this
structure FdC (Ae:Aa0)(Aa:Int)(many:Nat)(ks:List Nat)(f:Nat->Nat):Prop where
 nd:ks.Nodup
 snd:∀b∈ks,f b<=many/\Mn Ae Aa (f b) b
 zero:0∈ks
 full:∀m,m<many->∀b,Rm Ae Aa m b->b∈ks
section
variable{Ae:Aa0}{Aa:Int}{many:Nat}{ks cl ly:List Nat}{f:Nat->Nat}{at_ wk:Nat}
structure A1 (Ae:Aa0)(Aa:Int)(many:Nat)(ks:List Nat)(f:Nat->Nat)(cl:List Nat)(at_ wk:Nat):Prop where
 fd:FdC Ae Aa many ks f
 dos:∀m b k,m+1=many->Rm Ae Aa m b->can Ae Aa b k->b ||| 2^k∈ks
 clm:∀b,b∈cl↔b∈ks/\f b=many
 nd:cl.Nodup
 done:∀i b,cl[i]?=some b->i<at_->∀k,k<Ae.length->clrb b k∈ks
 dk:∀b,cl[at_]?=some b->∀k,k<wk->clrb b k∈ks
structure A2 (Ae:Aa0)(Aa:Int)(many:Nat)(ks:List Nat)(f:Nat->Nat)(cl ly:List Nat)(at_ wk:Nat):Prop where
 fd:FdC Ae Aa (many+1) ks f
 clm:∀b,b∈cl↔b∈ks/\f b=many
 lym:∀b,b∈ly↔b∈ks/\f b=many+1
 nd:ly.Nodup
 done:∀i b,cl[i]?=some b->i<at_->∀k,can Ae Aa b k->b ||| 2^k∈ks
 dk:∀b,cl[at_]?=some b->∀k,k<wk->can Ae Aa b k->b ||| 2^k∈ks
structure Come (Ae:Aa0)(Aa:Int)(ks:List Nat)(f:Nat->Nat):Prop where
 nd:ks.Nodup
 snd:∀b∈ks,Mn Ae Aa (f b) b
 all:∀m b,Rm Ae Aa m b->b∈ks
end
noncomputable def qOY (ws Ad:List Int):Nat:=mskN ((qAO 0 ws.length).filter λp=>decide ((ws[p.toNat]?).getD 0∈Ad))
def qFE (Ae:Aa0)(ws Ad:List Int)(r:Int):Prop:=∃m b,Rm (qBY Ae ws) r m b/\b &&& qOY ws Ad=qOY ws Ad
def LeastR (Ae:Aa0)(ws Ad:List Int)(r:Int):Prop:=1<=r/\qFE Ae ws Ad r/\∀r',1<=r'->r'<r->¬qFE Ae ws Ad r'
theorem LeastR.one {Ae:Aa0}{ws Ad:List Int}{r c:Int}(h:LeastR Ae ws Ad r)(h':LeastR Ae ws Ad c):r=c:=by
 have a:¬r<c:=λz=>h'.2.2 r h.1 z h.2.1;have b:¬c<r:=λz=>h.2.2 c h'.1 z h'.2.1
 lia
noncomputable def canB (n:Nat)(ms:List Nat)(Aa b k:Nat):Bool:=decide (cntN n b<Aa)&&decide (b &&& ms.getD k 0=ms.getD k 0)
noncomputable def qS6 (n:Nat)(ms:List Nat)(Aa S:Nat):Bool:=
 S.testBit 0&&(C3 (2^n)).all λb=>!S.testBit b||(C3 n).all λk=>S.testBit (clrb b k)&&(!canB n ms Aa b k||S.testBit (b ||| 2^k))
noncomputable def qQX (n:Nat)(ms:List Nat)(Aa:Nat):Nat->List (Bool×Nat)->Option Nat
 |b,[]=>some b
 |b,(true,k)::r=>if decide (k<n)&&canB n ms Aa b k then qQX n ms Aa (b ||| 2^k) r else none
 |b,(false,k)::r=>if decide (k<n) then qQX n ms Aa (clrb b k) r else none
noncomputable def qPR (Ae:Aa0):List Nat:=Ae.map mskN
theorem qWP (Ae:Aa0)(k:Nat):(qPR Ae).getD k 0=nxt Ae k:=by
 unfold qPR nxt;rw[O1,B6];cases Ae[k]? with
 |none=>rfl
 |some zs=>rfl
theorem qTR {Ae:Aa0}{Aa b k:Nat}(c:k<Ae.length):canB Ae.length (qPR Ae) Aa b k=true↔can Ae (Aa:Int) b k:=by
 unfold canB can;rw[qWP,D6,decide_eq_true_eq,decide_eq_true_eq]
 constructor
 ·rintro⟨d,a⟩;exact⟨by lia,c,a⟩
 ·rintro⟨d,_,a⟩;exact⟨by lia,a⟩
theorem qY7 {Ae:Aa0}{Aa S:Nat}(h:qS6 Ae.length (qPR Ae) Aa S=true){m b:Nat}(r:Rm Ae (Aa:Int) m b):S.testBit b=true:=by
 unfold qS6 at h;rw[D6,F5] at h;have a:∀{b k},S.testBit b=true->b<2^Ae.length->k<Ae.length->S.testBit (clrb b k)=true/\(can Ae (Aa:Int) b k->S.testBit (b ||| 2^k)=true):=by
  intro b k g e d;have:=h.2 b (E2.mpr e);rw[g,c6,o9,F5] at this;have:=this k (E2.mpr d);rw[D6] at this;refine⟨this.1,λc=>?_⟩;have f:=(qTR d).mpr c;have:=this.2;rw[f,c6,o9] at this;exact this
 induction r with
 |zero=>exact h.1
 |clr r d ih=>exact(a ih r.lt d).1
 |do_ r c ih=>exact(a ih r.lt c.2.1).2 c
theorem qQW {Ae:Aa0}{Aa:Nat}:∀{ms:List (Bool×Nat)} {m b e:Nat},Rm Ae (Aa:Int) m b->qQX Ae.length (qPR Ae) Aa b ms=some e->∃m',Rm Ae (Aa:Int) m' e
 |[],m,b,e,r,h=>⟨m,by cases h;exact r⟩
 |(true,k)::ms,m,b,e,r,h=>by
  unfold qQX at h
  split at h
  ·rename_i c
   rw[D6,decide_eq_true_eq] at c;exact qQW (.do_ r ((qTR c.1).mp c.2)) h
  ·cases h
 |(false,k)::ms,m,b,e,r,h=>by
  unfold qQX at h
  split at h
  ·rename_i c
   exact qQW (.clr r (of_decide_eq_true c)) h
  ·cases h
noncomputable def qdD (Ae:Aa0)(want due S:Nat)(ms:List (Bool×Nat)):Bool:=
 decide (1<=due)&&(match qQX Ae.length (qPR Ae) due 0 ms with|some e=>decide (e &&& want=want)|none=>false)&&qS6 Ae.length (qPR Ae) (due-1) S&&(C3 (2^Ae.length)).all λb=>!S.testBit b || !decide (b &&& want=want)
theorem qUX {Ae:Aa0}{ws Ad:List Int}{a S:Nat}{g:List (Bool×Nat)}(i:qBY Ae ws=Ae)(h:qdD Ae (qOY ws Ad) a S g=true):LeastR Ae ws Ad (a:Int):=by
 unfold qdD at h;rw[D6,D6,D6,decide_eq_true_eq] at h;obtain⟨⟨⟨q,c⟩,n⟩,d⟩:=h;refine⟨by lia,?_,λp s t=>?_⟩
 ·cases e:qQX Ae.length (qPR Ae) a 0 g with
  |none=>rw[e] at c;cases c
  |some x=>
   rw[e] at c;obtain⟨m,r⟩:=qQW .zero e;exact⟨m,x,by rw[i];exact r,of_decide_eq_true c⟩
 ·rintro⟨m,b,r,o⟩;rw[i] at r;have f:Rm Ae ((a-1:Nat):Int) m b:=r.mono (by lia)
  have j:=qY7 n f;rw[F5] at d;have:=d b (E2.mpr f.lt);rw[j,decide_eq_true o] at this;cases this
noncomputable def qh3 (l:List Nat):List (Bool×Nat):=l.map λk=>if k<16 then(true,k) else(false,k-16)
theorem qWS {k:Nat}:∀{st:List Int},(∀x∈st,(k:Int)<=x)->∃a,mskN st=2^k*a
 |[],_=>⟨0,rfl⟩
 |z::st,h=>by
  obtain⟨a,ha⟩:=qWS (st:=st) λx hx=>h x (A8 _ hx);have hz:=h z (by simp)
  refine⟨2^(z.toNat-k)+a,?_⟩;show 2^z.toNat+mskN st=_;rw[ha,Nat.mul_add,<- Nat.pow_add,show k+(z.toNat-k)=z.toNat by lia]
theorem qNY:∀{st:List Int},st.Pairwise (·<·)->(∀x∈st,0<=x)->∀j:Nat,(mskN st).testBit j=decide ((j:Int)∈st)
 |[],_,_,j=>by show(0:Nat).testBit j=_;simp
 |z::st,up,nn,j=>by
  have up':=M7.mp up;have hz:=nn z (by simp)
  obtain⟨a,ha⟩:=qWS (k:=z.toNat+1) (st:=st) λx hx=>by have:=up'.1 x hx;lia
  have ih:=qNY up'.2 (λx hx=>nn x (A8 _ hx)) j;have e:mskN (z::st)=2^(z.toNat+1)*a+2^z.toNat:=by show 2^z.toNat+mskN st=_;rw[ha,Nat.add_comm]
  rw[e,Nat.testBit_two_pow_mul_add a (A12 (by decide) (by lia)) j]
  by_cases c:j<z.toNat+1
  ·rw[if_pos c,Q3];refine decide_eq_decide.mpr ⟨λh=>?_,λh=>?_⟩
   ·rw[B8];left;lia
   ·rcases B8.mp h with h|h
    ·lia
    ·have:=up'.1 _ h;lia
  ·rw[if_neg c];rw[ha,Nat.testBit_two_pow_mul] at ih;have:decide (j>=z.toNat+1)=true:=decide_eq_true (by lia)
   rw[this,p6] at ih;rw[ih];refine decide_eq_decide.mpr ⟨λh=>A8 _ h,λh=>?_⟩;rcases B8.mp h with h|h
   ·lia
   ·exact h
theorem Rise.nn {n:Int}{st:List Int}(r:Rise n st):∀x∈st,0<=x:=λx a=>(r.in_ x a).1
theorem qAR {n:Int}{st:List Int}(r:Rise n st)(j:Nat):(mskN st).testBit j=decide ((j:Int)∈st):=qNY r.up r.nn j
theorem qWT {n:Int}{st a:List Int}(r:Rise n st)(c:Rise n a)(h:mskN st=mskN a):st=a:=by
 refine qJI r.up c.up λx=>?_
 constructor
 ·intro b;have e:=qAR r x.toNat;rw[h,qAR c x.toNat] at e;have d:=r.nn x b;rw[show((x.toNat:Nat):Int)=x by lia,decide_eq_true b] at e
  exact of_decide_eq_true e
 ·intro b;have e:=qAR r x.toNat;rw[h,qAR c x.toNat] at e;have d:=c.nn x b;rw[show((x.toNat:Nat):Int)=x by lia,decide_eq_true b] at e
  exact of_decide_eq_true e.symm
theorem qS9 (b k:Nat):b/2^k%2=if b.testBit k=true then 1 else 0:=by
 rw[Nat.testBit_eq_decide_div_mod_eq];by_cases h:b/2^k%2=1
 ·rw[decide_eq_true h,if_pos rfl,h]
 ·rw[decide_eq_false h,if_neg B1]
  lia
theorem qZO {a b:List Int}(h:a.Perm b):mskN a=mskN b:=by
 induction h with
 |nil=>rfl
 |cons x _ ih=>show 2^x.toNat+mskN _=2^x.toNat+mskN _;rw[ih]
 |swap x y l=>show 2^y.toNat+(2^x.toNat+mskN l)=2^x.toNat+(2^y.toNat+mskN l);lia
 |trans _ _ h1 h2=>exact h1.trans h2
theorem qLD {st:List Int}(a:st.Nodup){k:Int}(h:k∈st):st.Perm (k::st.filter λx=>decide (x≠k)):=by
 have e:(st.filter λx=>decide (x≠k))=st.erase k:=by
  rw[a.erase_eq_filter];exact n6 λx _=>by simp[bne,BEq.beq]
 rw[e];exact List.perm_cons_erase h
theorem qOO {n:Int}{st:List Int}(r:Rise n st)(k:Nat):clrb (mskN st) k=mskN (st.filter λx=>decide (x≠(k:Int))):=by
 unfold clrb;rw[qS9,qAR r];by_cases h:(k:Int)∈st
 ·rw[decide_eq_true h,if_pos rfl,Nat.mul_one,qZO (qLD r.nodup h)];show 2^((k:Int)).toNat+mskN _-_=_;rw[D7,Nat.add_sub_cancel_left]
 ·rw[decide_eq_false h,if_neg B1,Nat.mul_zero,A57];congr 1;exact(U3.mpr λx a=>by rw[decide_eq_true_eq];intro e;exact h (e▸a)).symm
theorem qJ2 {n:Int}{st ns:List Int}(r:Rise n st)(a:Rise n ns):mskN st &&& mskN ns=mskN ns↔∀y∈ns,y∈st:=by
 constructor
 ·intro h y d;have e:=congrArg (λb=>Nat.testBit b y.toNat) h;simp only[T5,qAR r,qAR a] at e;have f:=a.nn y d;rw[show((y.toNat:Nat):Int)=y by lia,decide_eq_true d,A42] at e
  exact of_decide_eq_true e
 ·intro h;refine M9 λj=>?_;rw[T5,qAR r,qAR a];by_cases c:(j:Int)∈ns
  ·rw[decide_eq_true c,decide_eq_true (h _ c)];rfl
  ·rw[decide_eq_false c,W5]
noncomputable def insL:List Int->Int->List Int
 |[],k=>[k]
 |x::r,k=>if k<x then k::x::r else x::insL r k
theorem qEM:∀(st:List Int) (k:Int),(insL st k).Perm (st++[k])
 |[],k=>.refl _
 |x::r,k=>by
  unfold insL
  split
  ·exact(y9 (l₁:=x::r) (l₂:=[k])).symm
  ·exact(qEM r k).cons x
theorem mem_insL {st:List Int}{k x:Int}:x∈insL st k↔x∈st\/x=k:=by
 rw[(qEM st k).mem_iff,B4,A6]
theorem qXD:∀{st:List Int} {k:Int},st.Pairwise (·<=·)->(insL st k).Pairwise (·<=·)
 |[],k,_=>by simp[insL]
 |x::r,k,h=>by
  have h':=M7.mp h;unfold insL
  split
  ·rename_i c
   refine M7.mpr ⟨λy hy=>?_,h⟩;rcases B8.mp hy with e|e
   ·lia
   ·have:=h'.1 y e;lia
  ·rename_i c
   refine M7.mpr ⟨λy hy=>?_,qXD h'.2⟩;rcases mem_insL.mp hy with e|e
   ·exact h'.1 y e
   ·lia
theorem qTD (st:List Int)(k:Int):(insL st k).length=st.length+1:=by rw[(qEM st k).length_eq,B7];rfl
noncomputable def behL (st:List Int) (m:Mv):List Int:=if m.1=C0 "do" then insL st m.2 else st.filter λx=>decide (x≠m.2)
theorem qOT {n:Int} {st:List Int} {m:Mv} (r:Rise n st) (a:m.1 = "do"\/m.1 = "clear"):Beh st (behL st m) m.1 m.2:=by
 refine⟨λe=>?_,λe=>?_⟩
 ·unfold behL;rw[if_pos e];exact⟨qEM _ _,qXD (r.up.imp λh=>j5 h)⟩
 ·unfold behL;rw[if_neg (λz=>by rw[e] at z;exact qAA z)]
theorem qbJ {n:Int} {st a:List Int} {m:Mv} (r:Rise n st) (b:m.1 = "do"\/m.1 = "clear") (h:Beh st a m.1 m.2):a=behL st m:=Beh.one b h (qOT r b)
theorem qb2 {n:Int}{st:List Int}(r:Rise n st){k:Nat}(b:(k:Int)∉st)(a:Rise n (insL st (k:Int))):mskN st ||| 2^k=mskN (insL st (k:Int)):=by
 refine M9 λj=>?_;rw[Z9,qAR r,qAR a,Q3,G6,G7,decide_eq_true_eq,decide_eq_true_eq,decide_eq_true_eq,mem_insL]
 constructor
 ·rintro(h|h)
  ·exact .inl h
  ·exact .inr (by lia)
 ·rintro(h|h)
  ·exact .inl h
  ·exact .inr (by lia)
theorem qK9 (p:Nat->Bool):∀l:List Nat,(l.map λk=>if p k=true then 1 else 0).sum=(l.filter p).length
 |[]=>rfl
 |k::l=>by
  rw[C7,List.sum_cons,qK9 p l,K8];cases p k
  ·simp
  ·simp;lia
theorem qY6 {n:Nat}{st:List Int}(r:Rise (n:Int) st):cntN n (mskN st)=st.length:=by
 unfold cntN;have e:((C3 n).map λk=>mskN st/2^k%2)=(C3 n).map λ(k:Nat)=>if(decide ((k:Int)∈st))=true then 1 else 0:=O5 λk _=>by rw[qS9,qAR r]
 rw[e,qK9 (λ(k:Nat)=>decide ((k:Int)∈st))];have c:(((C3 n).filter λ(k:Nat)=>decide ((k:Int)∈st)).map λ(k:Nat)=>(k:Int))=st:=by
  refine qJI ?_ r.up λx=>?_
  ·refine Q0.mpr ?_;exact(Y8.filter _).imp λh=>by lia
  ·rw[D9]
   constructor
   ·rintro⟨k,b,rfl⟩;exact of_decide_eq_true (B9.mp b).2
   ·intro a;have d:=r.in_ x a;exact⟨x.toNat,B9.mpr ⟨E2.mpr (by lia),decide_eq_true (by rw[show((x.toNat:Nat):Int)=x by lia];exact a)⟩,by lia⟩
 have:=congrArg R7 c
 rwa[A0] at this
section
variable{Ae:Aa0}{Aa:Int}
theorem due_iff {st:List Int} {m:Mv}:m∈qD7 Ae st Aa↔((m.1 = "do"\/m.1 = "clear")/\0<=m.2/\m.2<(Ae.length:Int))/\(m.1 = "do"->m.2∉st/\(∀y∈nd Ae m.2,y∈st)/\(st.length:Int)<Aa)/\(m.1 = "clear"->m.2∈st):=by
 unfold qD7;rw[B9,decide_eq_true_eq]
 constructor
 ·rintro⟨f,d⟩;have a:=qTK f;exact⟨a,qaT a.1 d⟩
 ·rintro⟨⟨f,d,h⟩,i,k⟩;obtain⟨j,g⟩:=m;refine⟨?_,?_⟩
  ·unfold qOI qKT;rw[B4,D9,D9];rcases f with e|e
   ·exact .inl ⟨g.toNat,E2.mpr (by dsimp only at d h;lia),by dsimp only at e d ⊢;rw[e];congr 1;lia⟩
   ·exact .inr ⟨g.toNat,E2.mpr (by dsimp only at d h;lia),by dsimp only at e d ⊢;rw[e];congr 1;lia⟩
  ·show qD9 _ st Aa j g=.non;unfold qD9;rcases f with e|e
   ·obtain⟨a,b,c⟩:=i e;dsimp only at e;rw[if_pos e];unfold qDY;rw[if_neg a,if_pos (show∀y∈(Ae[g.toNat]?).getD [],y∈st from b),if_neg (by lia)]
   ·have a:=k e;dsimp only at e;rw[if_neg (λz=>by rw[e] at z;exact qAA z)]
    unfold qDQ;rw[if_pos a]
inductive Pt (Ae:Aa0)(Aa:Int):Nat->List Int->Prop
 |zero:Pt Ae Aa 0 []
 |step {t:Nat} {st:List Int} {m:Mv}:Pt Ae Aa t st->m∈qD7 Ae st Aa->Pt Ae Aa (t+1) (behL st m)
theorem Pt.rise {t:Nat}{st:List Int}(h:Pt Ae Aa t st):Rise (Ae.length:Int) st:=by
 induction h with
 |zero=>exact .nil
 |step _ hm ih=>
  obtain⟨⟨a,b,c⟩,d,e⟩:=due_iff.mp hm;exact qaQ ih a b c (λz=>(d z).1) (qOT ih a)
theorem qLQ {st:List Int} (r:Rise (Ae.length:Int) st) {m:Mv} (f:m∈qD7 Ae st Aa):(m.1 = "do"/\(behL st m).length=st.length+1)\/(m.1 = "clear"/\(behL st m).length+1=st.length):=by
 obtain⟨⟨a,b,c⟩,d,e⟩:=due_iff.mp f;rcases a with a|a
 ·refine .inl ⟨a,?_⟩;unfold behL;rw[if_pos a,qTD]
 ·refine .inr ⟨a,?_⟩;unfold behL;rw[if_neg (λz=>by rw[a] at z;exact qAA z)]
  have:=(qLD r.nodup (e a)).length_eq;rw[C5] at this
  lia
theorem qRH (a:WFn Ae){w:Int}(h:w<(Ae.length:Int)):Rise (Ae.length:Int) (nd Ae w):=by
 by_cases b:0<=w
 ·exact(qHX a w.toNat).mono (by lia)
 ·have:=qHX a w.toNat;rw[show w.toNat=0 by lia] at this
  unfold nd;rw[show w.toNat=0 by lia]
  exact this.mono (by lia)
theorem Pt.bits (o:WFn Ae){t:Nat}{st:List Int}(h:Pt Ae Aa t st):∃m,2*m=t+st.length/\Rm Ae Aa m (mskN st):=by
 induction h with
 |zero=>exact⟨0,rfl,.zero⟩
 |@step t st m h hm ih=>
  obtain⟨d,e,R⟩:=ih;have r:=h.rise;have i:=(Pt.step h hm).rise;obtain⟨⟨a,b,c⟩,j,u⟩:=due_iff.mp hm;have f:((m.2.toNat:Nat):Int)=m.2:=by lia
  rcases qLQ r hm with⟨w,l⟩|⟨w,l⟩
  ·refine⟨d+1,by lia,?_⟩
   obtain⟨n,p,s⟩:=j w;have g:behL st m=insL st m.2:=by unfold behL;rw[if_pos w]
   rw[g] at i ⊢;have:=qb2 (k:=m.2.toNat) r (by rw[f];exact n) (by rw[f];exact i)
   rw[f] at this;rw[<- this];refine .do_ R ⟨by rw[qY6 r];exact s,by lia,?_⟩
   have q:Rise (Ae.length:Int) (nd Ae m.2):=qRH o c;exact(qJ2 r q).mpr p
  ·refine⟨d,by lia,?_⟩
   have g:behL st m=st.filter λx=>decide (x≠m.2):=by unfold behL;rw[if_neg (λz=>by rw[w] at z;exact qAA z)]
   rw[g];have:=qOO r m.2.toNat;rw[f] at this;rw[<- this];exact .clr R (by lia)
theorem qcQ {b k:Nat}(h:b.testBit k=true):b ||| 2^k=b:=by
 refine M9 λj=>?_;rw[Z9,Q3];by_cases e:k=j
 ·subst e;simp[h]
 ·simp[e]
theorem Rm.path (n:WFn Ae){m b:Nat}(h:Rm Ae Aa m b):∃st t,b=mskN st/\Pt Ae Aa t st/\t+st.length<=2*m:=by
 induction h with
 |zero=>exact⟨[],0,rfl,.zero,by simp⟩
 |@clr m b k _ hk ih=>
  obtain⟨st,t,rfl,P,l⟩:=ih;have r:=P.rise;by_cases c:(k:Int)∈st
  ·have a:((C0 "clear",(k:Int)):Mv)∈qD7 Ae st Aa:=due_iff.mpr ⟨⟨.inr rfl,by show(0:Int)<=(k:Int);lia,by show(k:Int)<_;lia⟩,λz=>absurd z qAA,λ_=>c⟩
   refine⟨_,t+1,?_,.step P a,?_⟩
   ·rw[qOO r];unfold behL;rw[if_neg qAA]
   ·rcases qLQ r a with⟨w,_⟩|⟨_,u⟩
    ·exact absurd w qAA
    ·lia
  ·refine⟨st,t,?_,P,l⟩;rw[qOO r];congr 1;exact U3.mpr λx o=>by rw[decide_eq_true_eq];intro e;exact c (e▸o)
 |@do_ m b k _ hc ih=>
  obtain⟨st,t,rfl,P,l⟩:=ih;have r:=P.rise;by_cases c:(k:Int)∈st
  ·exact⟨st,t,qcQ (by rw[qAR r];exact decide_eq_true c),P,by lia⟩
  ·obtain⟨i,s,j⟩:=hc;rw[qY6 r] at i;have q:Rise (Ae.length:Int) (nd Ae (k:Int)):=qRH n (by lia)
   have p:nxt Ae k=mskN (nd Ae (k:Int)):=by unfold nxt nd;rw[D7]
   rw[p] at j;have a:((C0 "do",(k:Int)):Mv)∈qD7 Ae st Aa:=due_iff.mpr ⟨⟨.inl rfl,by show(0:Int)<=(k:Int);lia,by show(k:Int)<_;lia⟩,λ_=>⟨c,(qJ2 r q).mp j,i⟩,λz=>absurd z.symm qAA⟩
   have d:=Pt.step P a;have g:behL st ((C0 "do",(k:Int)):Mv)=insL st (k:Int):=by unfold behL;rw[if_pos rfl]
   refine⟨_,t+1,?_,d,?_⟩
   ·have f:=d.rise;rw[g] at f ⊢;exact qb2 r c f
   ·rw[g,qTD]
    lia
def Mt (Ae:Aa0)(Aa:Int)(t:Nat)(st:List Int):Prop:=Pt Ae Aa t st/\∀u,u<t->¬Pt Ae Aa u st
theorem Mt.one {t u:Nat}{st:List Int}(h:Mt Ae Aa t st)(h':Mt Ae Aa u st):t=u:=by
 rcases n4 t u with c|c|c
 ·exact absurd h.1 (h'.2 t c)
 ·exact c
 ·exact absurd h'.1 (h.2 u c)
structure BF (Ae:Aa0)(Aa:Int)(t:Nat)(ks due ly:Aa0)(f:List Int->Nat)(i k:Nat):Prop where
 nd:ks.Nodup
 snd:∀s∈ks,∃u,u<=t+1/\Mt Ae Aa u s/\2*f s=u+s.length
 full:∀u s,u<=t->Pt Ae Aa u s->s∈ks
 duem:∀s,s∈due↔Mt Ae Aa t s
 lym:∀s,s∈ly↔s∈ks/\Mt Ae Aa (t+1) s
 done:∀j s,due[j]?=some s->j<i->∀m∈qD7 Ae s Aa,behL s m∈ks
 dk:∀s,due[i]?=some s->∀m∈(qD7 Ae s Aa).take k,behL s m∈ks
theorem BF.start:BF Ae Aa 0 [[]] [[]] [] (λ_=>0) 0 0:=by
 have z:∀s,Pt Ae Aa 0 s->s=[]:=λs h=>by cases h;rfl
 have a:Mt Ae Aa 0 []:=⟨.zero,λu b=>absurd b (z8 _)⟩;refine⟨by simp,λs c=>?_,λu s b p=>?_,λs=>?_,λs=>?_,λj s _ f=>absurd f (z8 _),λs _ m d=>by simp at d⟩
 ·rw[A6.mp c];exact⟨0,by lia,a,rfl⟩
 ·have:u=0:=by lia
  subst this;rw[z s p];simp
 ·rw[A6];exact⟨λe=>e▸a,λh=>z s h.1⟩
 ·constructor
  ·intro h;cases h
  ·rintro⟨h,m⟩;rw[A6.mp h] at m;exact absurd (Mt.one m a) (by lia)
section
variable{t:Nat}{ks due ly:Aa0}{f:List Int->Nat}{i k:Nat}
theorem BF.hit (h:BF Ae Aa t ks due ly f i k){s:List Int}{m:Mv}(b:due[i]?=some s)(c:(qD7 Ae s Aa)[k]?=some m)(d:behL s m∈ks):BF Ae Aa t ks due ly f i (k+1):=by
 refine⟨h.nd,h.snd,h.full,h.duem,h.lym,h.done,λj e g a=>?_⟩;rw[b] at e;cases e;rw[C9,c,D0,B4,A6] at a;rcases a with z|z
 ·exact h.dk s b g z
 ·rw[z];exact d
noncomputable def qJO (f:List Int->Nat)(x:List Int)(v:Nat):List Int->Nat:=λy=>if y=x then v else f y
theorem qN1 (f:List Int->Nat)(x:List Int)(v:Nat):qJO f x v x=v:=if_pos rfl
theorem qJY {f:List Int->Nat}{x y:List Int}{v:Nat}{a:Aa0}(h:y∈a)(b:x∉a):qJO f x v y=f y:=if_neg λe=>b (by rw[<- e];exact h)
theorem qKH {c:Aa0}{x:List Int}(f:c.Nodup)(h:x∉c):(c++[x]).Nodup:=by
 rw[n5];exact⟨f,by simp,λa g b d e=>h (by rw[A6.mp d] at e;exact e▸g)⟩
theorem BF.val (h:BF Ae Aa t ks due ly f i k){s:List Int}(b:s∈due):s∈ks/\2*f s=t+s.length:=by
 have m:=(h.duem s).mp b;have a:=h.full t s (A7 _) m.1;obtain⟨u,_,c,e⟩:=h.snd s a;rw[Mt.one c m] at e;exact⟨a,e⟩
theorem BF.add (h:BF Ae Aa t ks due ly f i k){s:List Int}{m:Mv}(c:due[i]?=some s)(n:(qD7 Ae s Aa)[k]?=some m)(d:behL s m∉ks):
  BF Ae Aa t (ks++[behL s m]) due (ly++[behL s m]) (qJO f (behL s m) (f s+if m.1=C0 "do" then 1 else 0)) i (k+1):=by
 have b:=A9 c;have q:=(h.duem s).mp b;obtain⟨a0,ev⟩:=h.val b;have v:=A9 n;have o:Mt Ae Aa (t+1) (behL s m):=⟨.step q.1 v,λu r p=>d (h.full u _ (by lia) p)⟩
 refine⟨qKH h.nd d,λx y=>?_,λu x r p=>B4.mpr (.inl (h.full u x r p)),h.duem,λx=>?_,λj x e hj g a=>B4.mpr (.inl (h.done j x e hj g a)),λx e g a=>?_⟩
 ·rcases B4.mp y with z|z
  ·rw[qJY z d];exact h.snd x z
  ·rw[A6.mp z,qN1];refine⟨t+1,A7 _,o,?_⟩;rcases qLQ q.1.rise v with⟨w,l⟩|⟨w,l⟩
   ·rw[if_pos w];lia
   ·rw[if_neg (λz=>by rw[w] at z;exact qAA z)];lia
 ·rw[B4,B4,A6,h.lym x]
  constructor
  ·rintro(z|z)
   ·exact⟨.inl z.1,z.2⟩
   ·exact⟨.inr z,z▸o⟩
  ·rintro⟨z|z,e⟩
   ·exact .inl ⟨z,e⟩
   ·exact .inr z
 ·rw[c] at e;cases e;rw[C9,n,D0,B4,A6] at a;rcases a with z|z
  ·exact B4.mpr (.inl (h.dk s c g z))
  ·rw[z];simp
theorem BF.next (h:BF Ae Aa t ks due ly f i k){s:List Int}(b:due[i]?=some s)(c:(qD7 Ae s Aa).length<=k):BF Ae Aa t ks due ly f (i+1) 0:=by
 refine⟨h.nd,h.snd,h.full,h.duem,h.lym,λj x e g m a=>?_,λs _ m a=>by simp at a⟩
 by_cases d:j=i
 ·subst d;rw[b] at e;cases e;exact h.dk s b m (by rw[F3 c];exact a)
 ·exact h.done j x e (by lia) m a
theorem BF.level (h:BF Ae Aa t ks due ly f i k)(hi:due.length<=i):BF Ae Aa (t+1) ks ly [] f 0 0:=by
 have full:∀u s,u<=t+1->Pt Ae Aa u s->s∈ks:=λu s g p=>by
  cases p with
  |zero=>exact h.full 0 [] (by lia) .zero
  |@step u st m p hm=>
   have d:=h.full u st (by lia) p
   obtain⟨v,q,b,_⟩:=h.snd st d;have l:v<=u:=by
    apply O6;intro z;exact b.2 u (by lia) p
   by_cases e:v=t
   ·subst e;obtain⟨j,c,o⟩:=L8 ((h.duem st).mpr b);exact h.done j st (by rw[A4 c,o]) (by lia) m hm
   ·exact h.full (v+1) _ (by lia) (.step b.1 hm)
 refine⟨h.nd,λs a=>?_,full,λs=>?_,λs=>?_,λj s _ c=>absurd c (z8 _),λs _ m hm=>by simp at hm⟩
 ·obtain⟨u,g,r⟩:=h.snd s a;exact⟨u,by lia,r⟩
 ·rw[h.lym s];exact⟨λz=>z.2,λz=>⟨full _ _ (A7 _) z.1,z⟩⟩
 ·constructor
  ·intro z;cases z
  ·rintro⟨a,m⟩;obtain⟨u,g,n,_⟩:=h.snd s a;exact absurd (Mt.one n m) (by lia)
structure Rch (Ae:Aa0)(Aa:Int)(ks:Aa0)(f:List Int->Nat):Prop where
 nd:ks.Nodup
 snd:∀s∈ks,∃u,Mt Ae Aa u s/\2*f s=u+s.length
 all:∀u s,Pt Ae Aa u s->s∈ks
theorem BF.rch (h:BF Ae Aa t ks [] [] f i k):Rch Ae Aa ks f:=by
 have d:∀s∈ks,∃u,u<t/\Mt Ae Aa u s:=λs a=>by
  obtain⟨u,j,b,_⟩:=h.snd s a;have g:u≠t:=λe=>nomatch(h.duem s).mpr (e▸b);have m:u≠t+1:=λe=>nomatch(h.lym s).mpr ⟨a,e▸b⟩;exact⟨u,by lia,b⟩
 refine⟨h.nd,λs a=>let⟨u,_,r⟩:=h.snd s a;⟨u,r⟩,λu s p=>?_⟩
 induction p with
 |zero=>exact h.full 0 [] (by lia) .zero
 |step p hm ih=>
  obtain⟨v,l,c⟩:=d _ ih;exact h.full (v+1) _ (by lia) (.step c.1 hm)
theorem BF.len (h:BF Ae Aa t ks due ly f i k):ks.length<=2^Ae.length:=by
 have d:∀s∈ks,Rise (Ae.length:Int) s:=λs c=>let⟨_,_,m,_⟩:=h.snd s c;m.1.rise
 have nd:(ks.map mskN).Nodup:=by
  refine Q0.mpr (h.nd.imp_of_mem λ{a b} o l g e=>g (qWT (d a o) (d b l) e))
 have:=qLP (n:=2^Ae.length) nd λb l=>by
  obtain⟨s,c,rfl⟩:=D9.mp l;refine k8 _ λj p=>?_;rw[qAR (d s c)];refine decide_eq_false λz=>?_;have:=((d s c).in_ _ z).2
  lia
 rwa[A0] at this
end
theorem Rch.le {a:Aa0}{f:List Int->Nat}(h:Rch Ae Aa a f){s:List Int}(b:s∈a){t:Nat}(p:Pt Ae Aa t s):2*f s<=t+s.length:=by
 obtain⟨u,m,e⟩:=h.snd s b;have:u<=t:=by
  apply O6;intro z;exact m.2 t (by lia) p
 lia
end
theorem _root_.L2.lm_hu {X:Cx}{a:Scope}{p:Str}{fv:List Nat}{q:Str}(z:LmZ):(lmCx X a p fv q z).A.units+1<cLine:=by
 have:=z.rm.un;show z.A.units+3+1<cLine
 lia
theorem _root_.L2.hu2_of {k:Nat}{A:Around}(a:Room k A):A.in1.units+1<cLine:=by
 have:=a.units;show A.units+1+1<cLine
 lia
noncomputable def keyS (s:List Int):List Key:=s.map E8
theorem qDT (s:List Int):(keyS s).map kV=s.map V.int:=by unfold keyS;rw[T6];rfl
theorem qI2 {s s':List Int}(h:keyS s=keyS s'):s=s':=by
 unfold keyS at h;exact List.map_inj_right (λa b e=>P1 e) |>.mp h
def Val3 (H:Hp)(v:V)(n:Nat):Prop:=∃r x y,v=.ref r/\H r=some (.tup [.int (n:Int),x,y])
theorem Val3.same {H H':Hp}{v:V}{n:Nat}(h:Val3 H v n)(a:Same H H'):Val3 H' v n:=let⟨r,x,y,e,g⟩:=h;⟨r,x,y,e,a _ _ g⟩
def Ent (H:Hp)(Af:List (List Key×V))(ks:Aa0)(f:List Int->Nat):Prop:=Paired (λ(kv:List Key×V) s=>kv.1=keyS s/\Val3 H kv.2 (f s)) Af ks
section
variable{H H':Hp}{Af:List (List Key×V)}{ks:Aa0}{f:List Int->Nat}
theorem Ent.same (h:Ent H Af ks f)(a:Same H H'):Ent H' Af ks f:=Paired.mapP h λ_ _ z=>⟨z.1,z.2.same a⟩
theorem Ent.val:∀{Af:List (List Key×V)} {ks:Aa0},Ent H Af ks f->∀{s:List Int},s∈ks->∃v,valV Af (keyS s)=some v/\Val3 H v (f s)
 |_,_,.nil,s,hs=>nomatch hs
 |_,_,.cons (a:=kv) (b:=s0) ⟨e,v3⟩ t,s,hs=>by
  by_cases c:s0=s
  ·subst c;exact⟨kv.2,qBE e,v3⟩
  ·rw[qB8 (λz=>c (qI2 (e.symm.trans z)))];exact Ent.val t ((B8.mp hs).resolve_left λz=>c z.symm)
theorem Ent.none:∀{Af:List (List Key×V)} {ks:Aa0},Ent H Af ks f->∀{s:List Int},s∉ks->valV Af (keyS s)=none
 |_,_,.nil,s,hs=>rfl
 |_,_,.cons (a:=kv) (b:=s0) ⟨e,v3⟩ t,s,hs=>by
  rw[qB8 (λz=>hs (by rw[qI2 (e.symm.trans z)];simp))]
  exact Ent.none t λz=>hs (A8 _ z)
theorem Ent.len (h:Ent H Af ks f):Af.length=ks.length:=C6 h
end
def StL (H:Hp)(rs:List Addr)(ss:Aa0):Prop:=Paired (λ(r:Addr) (s:List Int)=>H r=some (.tup (s.map V.int))) rs ss
theorem StL.same {H H':Hp}{a:List Addr}{b:Aa0}(h:StL H a b)(c:Same H H'):StL H' a b:=Paired.mapP h λ_ _ z=>c _ _ z
theorem StL.put {H:Hp}{a:List Addr}{b:Aa0}{d:Addr}{o u:HO}(h:StL H a b)(f:H d=some o)(c:∀xs,o≠.tup xs):StL (Ag H d u) a b:=Paired.mapP h λr s z=>by
 rw[qA9 (qC1 z f λe=>c _ e.symm)];exact z
theorem StL.snoc {H:Hp}{b:List Addr}{c:Aa0}{r:Addr}{s:List Int}(h:StL H b c)(g:H r=some (.tup (s.map V.int))):StL H (b++[r]) (c++[s]):=by
 induction h with
 |nil=>exact .cons g .nil
 |cons a _ ih=>exact .cons a ih
theorem MovL.putG {H:Hp}{a:List Addr}{b:List Mv}{d:Addr}{o u:HO}(h:MovL H a b)(c:H d=some o)(f:∀xs,o≠.tup xs):MovL (Ag H d u) a b:=Paired.mapP h λr s z=>by
 rw[qA9 (qC1 z c λe=>f _ e.symm)];exact z
theorem qIR:∀a b c:List Int,HT.lexLt a b=false->HT.lexLt b c=false->HT.lexLt a c=false
 |[],[],c,_,h=>h
 |[],_::_,c,h,_=>by cases h
 |x::a,[],[],_,_=>rfl
 |x::a,[],_::_,_,h=>by cases h
 |x::a,y::b,[],_,_=>rfl
 |x::a,y::b,z::c,h1,h2=>by
  rw[HT.lexLt_cons] at h1 h2 ⊢;by_cases e1:x=y
  ·subst e1;rw[if_pos rfl] at h1;by_cases e2:x=z
   ·rw[if_pos e2] at h2 ⊢;exact qIR a b c h1 h2
   ·rw[if_neg e2] at h2 ⊢;exact h2
  ·rw[if_neg e1] at h1;have h1:=of_decide_eq_false h1;by_cases e2:y=z
   ·subst e2;rw[if_neg e1];exact decide_eq_false h1
   ·rw[if_neg e2] at h2;have h2:=of_decide_eq_false h2;rw[if_neg (by lia)]
    exact decide_eq_false (by lia)
theorem qTB:∀a b:List Int,HT.lexLt a b=true->HT.lexLt b a=false
 |[],[],_=>rfl
 |[],_::_,_=>rfl
 |_::_,[],h=>by cases h
 |x::a,y::b,h=>by
  rw[HT.lexLt_cons] at h ⊢;by_cases e:x=y
  ·subst e;rw[if_pos rfl] at h ⊢;exact qTB a b h
  ·rw[if_neg e] at h;have h:=of_decide_eq_true h;rw[if_neg (by lia)]
   exact decide_eq_false (by lia)
theorem qKN:∀(r:List (V×List Int)) (b:V×List Int),∃k,(qFG b r,k)∈b::r/\∀q∈b::r,HT.lexLt q.2 k=false
 |[],b=>⟨b.2,by simp[qFG],λq hq=>by rw[A6.mp hq];exact qRL _⟩
 |x::r,b=>by
  by_cases e:HT.lexLt x.2 b.2=true
  ·obtain⟨k,h1,h2⟩:=qKN r x;have ep:qFG b (x::r)=qFG x r:=by rw[qFG,if_pos e]
   rw[ep];refine⟨k,A8 _ h1,λq hq=>?_⟩;rcases B8.mp hq with z|z
   ·rw[z];exact qIR _ _ _ (qTB _ _ e) (h2 x (by simp))
   ·exact h2 q z
  ·obtain⟨k,h1,h2⟩:=qKN r b;have ep:qFG b (x::r)=qFG b r:=by rw[qFG,if_neg e]
   rw[ep];refine⟨k,?_,λq hq=>?_⟩
   ·rcases B8.mp h1 with z|z
    ·rw[z];simp
    ·exact A8 _ (A8 _ z)
   ·rcases B8.mp hq with z|z
    ·exact h2 q (by rw[z];simp)
    ·rcases B8.mp z with z|z
     ·rw[z];exact qIR _ _ _ (F8.mpr e) (h2 b (by simp))
     ·exact h2 q (A8 _ z)
def TabB (H:Hp) (Pt:Addr):Prop:=H Pt=some (.tbl (.tab "best_end.<locals>.<lambda>"))
def qVQ (Pt:Addr):Sp:=λvs H Q _=>∃(d t:Addr) (o:Obj) (Af:List (List Key×V)) (ks:Aa0) (f:List Int->Nat) (Ad:List Int),vs=[.ref d,.ref t]/\TabB H Pt/\H d=some (.frz o (.dT Af))/\Ent H Af ks f/\ks.length<=4096/\H t=some (.tup (Ad.map V.int))/\Ad.length<=1000/\
 ∀H',Same H H'->((∀s∈ks,¬ ∀x∈Ad,x∈s)->Q .non H')/\∀r s,H' r=some (.tup (s.map V.int))->s∈ks->(∀x∈Ad,x∈s)->(∀s'∈ks,(∀x∈Ad,x∈s')->f s<=f s')->Q (.ref r) H'
def LB (Ae:Aa0)(Aa:Int)(Ad:List Int):Option Nat->Prop
 |none=>∀m b,Rm Ae Aa m b->¬b &&& mskN Ad=mskN Ad
 |some k=>(∃b,Rm Ae Aa k b/\b &&& mskN Ad=mskN Ad)/\∀m b,Rm Ae Aa m b->b &&& mskN Ad=mskN Ad->k<=m
section
variable{Ae:Aa0}{Aa:Int}{Ad:List Int}
theorem qQO (j:WFn Ae)(n:Rise (Ae.length:Int) Ad){i:Aa0}{f:List Int->Nat}(h:Rch Ae Aa i f){s:List Int}(o:s∈i)(p:∀x∈Ad,x∈s)(le:∀s'∈i,(∀x∈Ad,x∈s')->f s<=f s'):LB Ae Aa Ad (some (f s)):=by
 obtain⟨u,m,e⟩:=h.snd s o;obtain⟨d,z,R⟩:=m.1.bits j;have v:d=f s:=by lia
 subst v;refine⟨⟨_,R,(qJ2 m.1.rise n).mpr p⟩,λy b q w=>?_⟩;obtain⟨k,t,r,P,l⟩:=q.path j;subst r;have g:=h.all t k P;have a:=le k g ((qJ2 P.rise n).mp w);have c:=h.le g P
 lia
theorem qQP (d:WFn Ae)(j:Rise (Ae.length:Int) Ad){c:Aa0}{f:List Int->Nat}(h:Rch Ae Aa c f)(g:∀s∈c,¬ ∀x∈Ad,x∈s):LB Ae Aa Ad none:=λm b R e=>by
 obtain⟨a,t,i,P,l⟩:=R.path d;subst i;exact g a (h.all t a P) ((qJ2 P.rise j).mp e)
theorem Rm.done_ (i:WFn Ae){m b:Nat}(h:Rm Ae Aa m b):∃D:List Int,D.Nodup/\D.length<=m/\(∀k:Nat,b.testBit k=true->(k:Int)∈D)/\∀w∈D,0<=w/\w<(Ae.length:Int)/\∀y∈nd Ae w,y∈D:=by
 induction h with
 |zero=>exact⟨[],.nil,A7 _,λk z=>by simp at z,λ_ z=>nomatch z⟩
 |@clr m b k R hk ih=>
  obtain⟨D,f,o,d,g⟩:=ih;refine⟨D,f,o,λj a=>?_,g⟩;obtain⟨u,t,l,P,_⟩:=R.path i;subst l;rw[qOO P.rise,qAR (n:=(Ae.length:Int)) ⟨P.rise.up.filter _,λx hx=>P.rise.in_ x (B9.mp hx).1⟩] at a;exact d j (by rw[qAR P.rise];exact decide_eq_true (B9.mp (of_decide_eq_true a)).1)
 |@do_ m b k R hc ih=>
  obtain⟨D,f,o,d,g⟩:=ih;obtain⟨h1,h2,p⟩:=hc;have s:∀y∈nd Ae (k:Int),y∈D:=λy e=>by
   obtain⟨u,t,l,P,_⟩:=R.path i;subst l;have rn:Rise (Ae.length:Int) (nd Ae (k:Int)):=qRH i (by lia)
   have q:nxt Ae k=mskN (nd Ae (k:Int)):=by unfold nxt nd;rw[D7]
   rw[q] at p;have:=(qJ2 P.rise rn).mp p y e;have y0:=P.rise.nn y this;have:=d y.toNat (by rw[qAR P.rise];exact decide_eq_true (by rw[show((y.toNat:Nat):Int)=y by lia];exact this))
   rwa[show((y.toNat:Nat):Int)=y by lia] at this
  by_cases c:(k:Int)∈D
  ·refine⟨D,f,by lia,λj a=>?_,g⟩
   rw[Z9,Q3,G7,decide_eq_true_eq] at a;rcases a with z|z
   ·exact d j z
   ·rw[<- z];exact c
  ·refine⟨D++[(k:Int)],qNX f c,by rw[B7,F1];lia,λj a=>?_,λw v=>?_⟩
   ·rw[Z9,Q3,G7,decide_eq_true_eq] at a;rcases a with z|z
    ·exact B4.mpr (.inl (d j z))
    ·rw[<- z];simp
   ·rcases B4.mp v with z|z
    ·obtain⟨a1,r,a3⟩:=g w z;exact⟨a1,r,λy e=>B4.mpr (.inl (a3 y e))⟩
    ·rw[A6.mp z];exact⟨by lia,by lia,λy e=>B4.mpr (.inl (s y e))⟩
theorem qcZ (f:WFn Ae)(d:Rise (Ae.length:Int) Ad){zs:List Int}(N:qAE Ae Ad zs){m b:Nat}(R:Rm Ae Aa m b)(e:b &&& mskN Ad=mskN Ad):zs.length<=m:=by
 obtain⟨D,h,k,g,i⟩:=R.done_ f;have c:∀x,Nd Ae Ad x->x∈D:=by
  intro x a
  induction a with
  |ask a=>
   rename_i x
   have j:=d.nn x a;have q:=congrArg (λb=>Nat.testBit b x.toNat) e;simp only[T5,qAR d] at q;rw[show((x.toNat:Nat):Int)=x by lia,decide_eq_true a,A42] at q
   have:=g x.toNat q
   rwa[show((x.toNat:Nat):Int)=x by lia] at this
  |need _ hz hy ih=>exact(i _ ih).2.2 _ (by unfold nd;rw[hz];exact hy)
 have:=qWZ N.1.nodup h λx a=>c x ((N.2 x).mp a)
 lia
theorem qVV {a:List Mv}{s t:List Int}(h:Run Ae Aa s a t):∀{u:Nat},(∀m∈a,0<=m.2/\m.2<(Ae.length:Int))->Pt Ae Aa u s->Pt Ae Aa (u+a.length) t:=by
 induction h with
 |nil=>exactλ_ p=>p
 |@do_ s s' t w a h1 h2 h3 h4 h5 h6 ih=>
  intro u c p;have d:((C0 "do",w):Mv)∈qD7 Ae s Aa:=due_iff.mpr ⟨⟨.inl rfl,(c _ (by simp)).1,(c _ (by simp)).2⟩,λ_=>⟨h1,h2,h3⟩,λz=>absurd z.symm qAA⟩
  have e:s'=behL s (C0 "do",w):=by
   unfold behL;rw[if_pos rfl];refine qJI h5 ((Pt.step p d).rise.up |> λz=>by unfold behL at z;rw[if_pos rfl] at z;exact z) λx=>?_
   rw[h4.mem_iff,mem_insL,B4,A6]
  have:=ih (u:=u+1) (λm b=>c m (A8 _ b)) (by rw[e];exact .step p d)
  rw[C5,show u+(a.length+1)=u+1+a.length by lia]
  exact this
 |@clear s t w a h1 h2 ih=>
  intro u c p;have d:((C0 "clear",w):Mv)∈qD7 Ae s Aa:=due_iff.mpr ⟨⟨.inr rfl,(c _ (by simp)).1,(c _ (by simp)).2⟩,λz=>absurd z qAA,λ_=>h1⟩
  have:=ih (u:=u+1) (fun m b=>c m (A8 _ b)) (by
   have q:=Pt.step p d;unfold behL at q;rw[if_neg qAA] at q;exact q)
  rw[C5,show u+(a.length+1)=u+1+a.length by lia]
  exact this
theorem qdF (a:WFn Ae)(f:Rise (Ae.length:Int) Ad){zs:List Int}(N:qAE Ae Ad zs):Rm Ae (Ae.length:Int) zs.length (mskN Ad):=by
 have R:=qcL a N f.up;have l:=R.len .nil;rw[show qBB (qCH Ae Ad zs)=zs from qaI zs,K4] at l;have P:=qVV R (u:=0) (λm c=>(qZC a N c).2) .zero;obtain⟨d,e,b⟩:=P.bits a
 rwa[show d=zs.length by lia] at b
theorem qdG (a:WFn Ae)(c:Rise (Ae.length:Int) Ad){zs:List Int}(N:qAE Ae Ad zs):LB Ae (Ae.length:Int) Ad (some zs.length):=
 ⟨⟨_,qdF a c N,Nat.and_self _⟩,λm b R e=>qcZ a c N R e⟩
theorem qZR {P:Nat->Prop}:∀n,P n->∃k,P k/\∀m,P m->k<=m:=by
 intro n
 induction n using A79 with
 |_ n ih=>
  intro h;by_cases c:∃m,m<n/\P m
  ·obtain⟨m,b,a⟩:=c;exact ih m b a
  ·exact⟨n,h,λm d=>q9 λz=>c ⟨m,z,d⟩⟩
theorem qh6 (Ae:Aa0)(Aa:Int)(Ad:List Int):∃o,LB Ae Aa Ad o:=by
 by_cases c:∃m b,Rm Ae Aa m b/\b &&& mskN Ad=mskN Ad
 ·obtain⟨m,b,R,e⟩:=c;obtain⟨k,⟨f,a,d⟩,l⟩:=qZR (P:=λm=>∃b,Rm Ae Aa m b/\b &&& mskN Ad=mskN Ad) m ⟨b,R,e⟩;exact⟨some k,⟨f,a,d⟩,λm b R e=>l m ⟨b,R,e⟩⟩
 ·exact⟨none,λm b R e=>c ⟨m,b,R,e⟩⟩
noncomputable def lstO (Ae:Aa0)(Aa:Int)(Ad:List Int):Option Nat:=A70 (qh6 Ae Aa Ad)
noncomputable def upS (Ae:Aa0)(Ad:List Int)(r:Nat):List (Nat×Nat):=(C3 r).filterMap λi=>(lstO Ae ((i+1:Nat):Int) Ad).map λk=>(i+1,k)
end
theorem Rch.len {Ae:Aa0}{Aa:Int}{g:Aa0}{f:List Int->Nat}(h:Rch Ae Aa g f):g.length<=2^Ae.length:=by
 have d:∀s∈g,Rise (Ae.length:Int) s:=λs c=>let⟨_,m,_⟩:=h.snd s c;m.1.rise
 have nd:(g.map mskN).Nodup:=Q0.mpr (h.nd.imp_of_mem λ{a b} l k i e=>i (qWT (d a l) (d b k) e));have:=qLP (n:=2^Ae.length) nd λb k=>by
  obtain⟨s,c,rfl⟩:=D9.mp k;refine k8 _ λj o=>?_;rw[qAR (d s c)];refine decide_eq_false λz=>?_;have:=((d s c).in_ _ z).2
  lia
 rwa[A0] at this
def qSM (K:Ab1)(Pt:Addr):Sp:=λvs H Q E=>TabB H Pt/\qgP K vs H Q E
abbrev Prv:=Option (List Int×Mv)
def ValX (H:Hp)(v:V)(n:Nat):Prv->Prop
 |none=>∃r,v=.ref r/\H r=some (.tup [.int (n:Int),.non,.non])
 |some (p,m)=>∃r rp rm,v=.ref r/\H r=some (.tup [.int (n:Int),.ref rp,.ref rm])/\H rp=some (.tup (p.map V.int))/\H rm=some (.tup [.str m.1,.int m.2])
theorem ValX.same {H H':Hp}{v:V}{n:Nat}{o:Prv}(h:ValX H v n o)(a:Same H H'):ValX H' v n o:=by
 cases o with
 |none=>obtain⟨r,e,g⟩:=h;exact⟨r,e,a _ _ g⟩
 |some pm=>obtain⟨r,f,d,e,b,i,c⟩:=h;exact⟨r,f,d,e,a _ _ b,a _ _ i,a _ _ c⟩
theorem ValX.put {H:Hp}{v:V}{n:Nat}{q:Prv}{d:Addr}{o u:HO}(h:ValX H v n q)(b:H d=some o)(i:∀xs,o≠.tup xs):ValX (Ag H d u) v n q:=by
 have k:∀(r:Addr) (xs:List V),H r=some (.tup xs)->(Ag H d u) r=some (.tup xs):=λr xs g=>by
  rw[qA9 (qC1 g b λz=>i _ z.symm)];exact g
 cases q with
 |none=>obtain⟨r,e,g⟩:=h;exact⟨r,e,k _ _ g⟩
 |some pm=>obtain⟨r,j,f,e,a,l,c⟩:=h;exact⟨r,j,f,e,k _ _ a,k _ _ l,k _ _ c⟩
theorem ValX.val3 {H:Hp}{v:V}{n:Nat}{o:Prv}(h:ValX H v n o):Val3 H v n:=by
 cases o with
 |none=>obtain⟨r,e,g⟩:=h;exact⟨r,_,_,e,g⟩
 |some pm=>obtain⟨r,b,a,e,g,_⟩:=h;exact⟨r,_,_,e,g⟩
def EntX (H:Hp)(Af:List (List Key×V))(ks:Aa0)(f:List Int->Nat)(g:List Int->Prv):Prop:=Paired (λ(kv:List Key×V) s=>kv.1=keyS s/\ValX H kv.2 (f s) (g s)) Af ks
noncomputable def gset (g:List Int->Prv)(x:List Int)(v:Prv):List Int->Prv:=λy=>if y=x then v else g y
section
variable{H H':Hp}{Af:List (List Key×V)}{ks:Aa0}{f:List Int->Nat}{g:List Int->Prv}
theorem EntX.same (h:EntX H Af ks f g)(a:Same H H'):EntX H' Af ks f g:=Paired.mapP h λ_ _ z=>⟨z.1,z.2.same a⟩
theorem EntX.put {d:Addr}{o u:HO}(h:EntX H Af ks f g)(b:H d=some o)(a:∀xs,o≠.tup xs):EntX (Ag H d u) Af ks f g:=Paired.mapP h λ_ _ z=>⟨z.1,z.2.put b a⟩
theorem EntX.ent (h:EntX H Af ks f g):Ent H Af ks f:=Paired.mapP h λ_ _ z=>⟨z.1,z.2.val3⟩
theorem EntX.val:∀{Af:List (List Key×V)} {ks:Aa0},EntX H Af ks f g->∀{s:List Int},s∈ks->∃v,valV Af (keyS s)=some v/\ValX H v (f s) (g s)
 |_,_,.nil,s,hs=>nomatch hs
 |_,_,.cons (a:=kv) (b:=s0) ⟨e,v3⟩ t,s,hs=>by
  by_cases c:s0=s
  ·subst c;exact⟨kv.2,qBE e,v3⟩
  ·rw[qB8 (λz=>c (qI2 (e.symm.trans z)))];exact EntX.val t ((B8.mp hs).resolve_left λz=>c z.symm)
theorem EntX.snoc (h:EntX H Af ks f g){s:List Int}(c:s∉ks){v:V}{n:Nat}{o:Prv}(d:ValX H v n o):EntX H (putK Af (keyS s) v) (ks++[s]) (qJO f s n) (gset g s o):=by
 rw[qSX v (h.ent.none c)];have e:EntX H Af ks (qJO f s n) (gset g s o):=by
  have:∀{Af:List (List Key×V)} {ks:Aa0},EntX H Af ks f g->s∉ks->EntX H Af ks (qJO f s n) (gset g s o):=by
   intro Af ks h
   induction h with
   |nil=>exactλ_=>.nil
   |@cons kv s0 l1 l2 a t ih=>exactλb=>.cons ⟨a.1,by rw[show qJO f s n s0=f s0 from if_neg λz=>b (by rw[z];simp),show gset g s o s0=g s0 from if_neg λz=>b (by rw[z];simp)];exact a.2⟩ (ih λz=>b (A8 _ z))
  exact this h c
 have:∀{Af:List (List Key×V)} {ks:Aa0},EntX H Af ks (qJO f s n) (gset g s o)->EntX H (Af++[(keyS s,v)]) (ks++[s]) (qJO f s n) (gset g s o):=by
  intro Af ks h
  induction h with
  |nil=>exact .cons ⟨rfl,by rw[show qJO f s n s=n from if_pos rfl,show gset g s o s=o from if_pos rfl];exact d⟩ .nil
  |cons a _ ih=>exact .cons a ih
 exact this e
end
section
variable{Ae:Aa0}{Aa:Int}{ks ks':Aa0}{f f':List Int->Nat}{g g':List Int->Prv}
def Prov (Ae:Aa0)(Aa:Int)(ks:Aa0)(f:List Int->Nat)(g:List Int->Prv):Prop:=
 ∀s∈ks,(s=[]/\g s=none/\f s=0)\/∃p m,g s=some (p,m)/\p∈ks/\m∈qD7 Ae p Aa/\s=behL p m/\f s=f p+if m.1=C0 "do" then 1 else 0
theorem qd5 {a b:Aa0}(d:a.Nodup)(e:b.Nodup)(h:∀x∈a,x∈b):a.length<=b.length:=by
 have p:a.Perm (b.filter λx=>decide (x∈a)):=(V8 d (e.filter _)).mpr λx=>by
  rw[B9,decide_eq_true_eq];exact⟨λc=>⟨h x c,c⟩,λc=>c.2⟩
 rw[p.length_eq];exact F2 _ _
noncomputable def qFO (g:List Int->Prv):Nat->List Int->List Mv
 |0,_=>[]
 |n+1,s=>match g s with
  |none=>[]
  |some (p,m)=>qFO g n p++[m]
noncomputable def pth (f:List Int->Nat)(g:List Int->Prv)(s:List Int):List Mv:=qFO g (2*f s-s.length) s
theorem qND (R:Rch Ae Aa ks f) {p:List Int} {m:Mv} (c:p∈ks) (d:m∈qD7 Ae p Aa) {u:Nat} (e:2*(f p+if m.1=C0 "do" then 1 else 0)=u+(behL p m).length):∃v,u=v+1/\2*f p=v+p.length:=by
 obtain⟨v,a,b⟩:=R.snd p c;refine⟨v,?_,b⟩;rcases qLQ a.1.rise d with⟨w,l⟩|⟨w,l⟩
 ·rw[if_pos w] at e;lia
 ·rw[if_neg (λz=>by rw[w] at z;exact qAA z)] at e;lia
theorem qcB (l:WFn Ae){p:List Int}{m:Mv}{t:Nat}(P:Pt Ae Aa t p)(f:m∈qD7 Ae p Aa):Run Ae Aa p [m] (behL p m):=by
 have r:=P.rise;have i:=(Pt.step P f).rise;obtain⟨⟨a,b,c⟩,d,e⟩:=due_iff.mp f;obtain⟨g,n⟩:=m;rcases a with a|a
 ·have a:g=C0 "do":=a
  subst a;obtain⟨h,j,k⟩:=d rfl;exact .do_ h j k (by unfold behL;rw[if_pos rfl];exact qEM _ _) i.up .nil
 ·have a:g=C0 "clear":=a;subst a;unfold behL;rw[if_neg (λz=>qAA z)];exact .clear (e rfl) .nil
theorem qT2 (wf:WFn Ae)(R:Rch Ae Aa ks f)(pv:Prov Ae Aa ks f g):∀(u:Nat) (s:List Int),s∈ks->2*f s=u+s.length->Run Ae Aa [] (qFO g u s) s/\(qBB (qFO g u s)).length=f s/\MvOk Ae (qFO g u s)/\(qFO g u s).length=u/\
  ∃L:Aa0,L.length=u+1/\L.Nodup/\∀x∈L,x∈ks/\∃v,v<=u/\2*f x=v+x.length
 |0,s,hs,e=>by
  rcases pv s hs with⟨a1,a2,a3⟩|⟨p,m,a1,a2,a3,a4,a5⟩
  ·subst a1;refine⟨.nil,by rw[a3];rfl,(λ_ z=>by cases z),rfl,[[]],rfl,by simp,λx hx=>by rw[A6.mp hx];exact⟨hs,0,A7 _,e⟩⟩
  ·rw[a5,a4] at e;obtain⟨v,z,_⟩:=qND R a2 a3 e
   lia
 |u+1,s,hs,e=>by
  rcases pv s hs with⟨a1,a2,a3⟩|⟨p,m,a1,a2,a3,a4,a5⟩
  ·rw[a3,a1] at e;simp at e
  ·have e2:=e;rw[a5,a4] at e2;obtain⟨v,z1,z2⟩:=qND R a2 a3 e2;have:v=u:=by lia
   subst this;obtain⟨i1,i2,i3,i4,L,i5,i6,i7⟩:=qT2 wf R pv v p a2 z2;obtain⟨_,mp,_⟩:=R.snd p a2;have ep:qFO g (v+1) s=qFO g v p++[m]:=by show(match g s with|none=>[]|some (p,m)=>qFO g v p++[m])=_;rw[a1]
   rw[ep];have one:=qcB wf mp.1 a3;rw[<- a4] at one;have dd:(qBB [m]).length=if m.1=C0 "do" then 1 else 0:=by
    unfold qBB;rw[F9]
    split<;>rename_i h
    ·split at h
     ·cases h
     ·rename_i hn;rw[if_neg hn];rfl
    ·split at h
     ·rename_i hy;rw[if_pos hy];rfl
     ·cases h
   refine⟨i1.app one,by rw[qIE,B7,i2,dd,a5],λx hx=>?_,by rw[B7,i4];rfl,L++[s],by rw[B7,i5];rfl,qKH i6 λhz=>?_,λx hx=>?_⟩
   ·rcases B4.mp hx with z|z
    ·exact i3 x z
    ·rw[A6.mp z];exact(due_iff.mp a3).1
   ·obtain⟨_,w,w1,w2⟩:=i7 s hz
    lia
   ·rcases B4.mp hx with z|z
    ·obtain⟨j1,w,w1,w2⟩:=i7 x z;exact⟨j1,w,by lia,w2⟩
    ·rw[A6.mp z];exact⟨hs,v+1,A7 _,e⟩
theorem qVX (h:WFn Ae)(R:Rch Ae Aa ks f)(i:Prov Ae Aa ks f g){s:List Int}(a:s∈ks):Run Ae Aa [] (pth f g s) s/\(qBB (pth f g s)).length=f s/\MvOk Ae (pth f g s)/\(pth f g s).length+1<=ks.length:=by
 obtain⟨u,_,e⟩:=R.snd s a;have b:2*f s-s.length=u:=by lia
 obtain⟨j,k,m,n,L,o,l,d⟩:=qT2 h R i u s a e;unfold pth;rw[b];refine⟨j,k,m,?_⟩;have:=qd5 l R.nd λx c=>(d x c).1
 lia
end
structure EntZ (H:Hp)(Af:List (List Key×V))(ks:Aa0)(f:List Int->Nat)(Φ:(List Int->Prv)->Prop):Prop where
 ex:∃g,EntX H Af ks f g/\Φ g
section
variable{H H':Hp}{Af:List (List Key×V)}{ks:Aa0}{f:List Int->Nat}{Φ Ψ:(List Int->Prv)->Prop}
theorem EntZ.same (h:EntZ H Af ks f Φ)(c:Same H H'):EntZ H' Af ks f Φ:=let⟨g,a,b⟩:=h.ex;⟨g,a.same c,b⟩
theorem EntZ.put {d:Addr}{o u:HO}(h:EntZ H Af ks f Φ)(e:H d=some o)(c:∀xs,o≠.tup xs):EntZ (Ag H d u) Af ks f Φ:=let⟨g,a,b⟩:=h.ex;⟨g,a.put e c,b⟩
theorem EntZ.ent (h:EntZ H Af ks f Φ):Ent H Af ks f:=let⟨_,a,_⟩:=h.ex;a.ent
theorem EntZ.len (h:EntZ H Af ks f Φ):Af.length=ks.length:=h.ent.len
theorem EntZ.val (h:EntZ H Af ks f Φ){s:List Int}(a:s∈ks):∃v,valV Af (keyS s)=some v/\Val3 H v (f s):=h.ent.val a
theorem EntZ.none (h:EntZ H Af ks f Φ){s:List Int}(a:s∉ks):valV Af (keyS s)=none:=h.ent.none a
theorem EntZ.snoc (h:EntZ H Af ks f Φ){s p:List Int}{m:Mv}(e:s∉ks){r d c:Addr}{n:Nat}(j:H r=some (.tup [.int (n:Int),.ref d,.ref c]))(l:H d=some (.tup (p.map V.int)))(k:H c=some (.tup [.str m.1,.int m.2]))(i:∀g,Φ g->Ψ (gset g s (some (p,m)))):
  EntZ H (putK Af (keyS s) (.ref r)) (ks++[s]) (qJO f s n) Ψ:=let⟨g,a,b⟩:=h.ex;⟨_,a.snoc (v:=.ref r) (n:=n) (o:=some (p,m)) e ⟨r,d,c,rfl,j,l,k⟩,i g b⟩
end
noncomputable def renW (ws:List Int)(i:Int):Int:=(ws[i.toNat]?).getD 0
noncomputable def renM (ws:List Int)(ms:List Mv):List Mv:=ms.map λm=>(m.1,renW ws m.2)
section
variable{Ae:Aa0}{Ad ws:List Int}{Aa:Int}
noncomputable def qBH (ws Ad:List Int):List Int:=Ad.filterMap (qEY ws)
theorem qEH (N:qAE Ae Ad ws)(c:Rise (Ae.length:Int) Ad):Rise ((qBY Ae ws).length:Int) (qBH ws Ad):=by
 refine⟨qK7 N.1.up c.up,λx b=>?_⟩;obtain⟨d,y,a,_⟩:=(qCJ N.1.nodup).mp b;have:=(A3.mp a).1;rw[qBV]
 lia
theorem qHL (N:qAE Ae Ad ws)(e:Rise (Ae.length:Int) Ad):qOY ws Ad=mskN (qBH ws Ad):=by
 unfold qOY;congr 1;refine qJI ((qFL 0 ws.length).filter _) (qK7 N.1.up e.up) λx=>?_;rw[B9,show x∈qBH ws Ad↔_ from qCJ N.1.nodup,mem_rangeI,decide_eq_true_eq]
 constructor
 ·rintro⟨⟨b,f⟩,a⟩;have c:x.toNat<ws.length:=by lia
  rw[A4 c] at a ⊢;exact⟨b,_,rfl,a⟩
 ·rintro⟨b,y,d,a⟩;have c:=(A3.mp d).1;rw[d];exact⟨⟨b,by lia⟩,a⟩
theorem qRM (N:qAE Ae Ad ws)(a:Rise (Ae.length:Int) Ad){k:Nat}(h:LB (qBY Ae ws) Aa (qBH ws Ad) (some k)):qFE Ae ws Ad Aa:=by
 obtain⟨⟨b,R,e⟩,_⟩:=h;exact⟨k,b,R,by rw[qHL N a];exact e⟩
theorem qb6 (N:qAE Ae Ad ws)(a:Rise (Ae.length:Int) Ad)(h:LB (qBY Ae ws) Aa (qBH ws Ad) none):¬qFE Ae ws Ad Aa:=by
 rintro⟨m,b,R,e⟩;rw[qHL N a] at e;exact h m b R e
end
def qNJ:Sp:=λvs H Q _=>∃(t u:Addr) (ws Ad:List Int),vs=[.ref t,.ref u]/\BareT H t (ws.map V.int)/\H u=some (.tup (Ad.map V.int))/\ws.Nodup/\Ad.length<=1000/\ws.length<=1000/\(∀x∈Ad,x∈ws)/\
 ∀r H',Same H H'->H' r=some (.tup ((qBH ws Ad).map V.int))->Q (.ref r) H'
def qNI:Sp:=λvs H Q _=>∃(a t:Addr) (Ae:Aa0) (ws:List Int),vs=[.ref a,.ref t]/\NetAt H a Ae/\WFn Ae/\Ae.length<=1000/\Rd H t (.tup (ws.map V.int))/\Rise (Ae.length:Int) ws/\
 ∀b H',Same H H'->NetAt H' b (qBY Ae ws)->Q (.ref b) H'
theorem LeastR.le {Ae:Aa0}{Ad ws:List Int}{r:Int}(e:WFn Ae)(N:qAE Ae Ad ws)(d:Rise (Ae.length:Int) Ad)(f:1<=Ad.length)(h:LeastR Ae ws Ad r):r<=(ws.length:Int):=by
 apply O6;intro z;have c:=qCQ e N.1;have a:=qEH N d;obtain⟨i,g⟩:=qPO c a;have b:=qdG c a g;rw[qBV] at b;have j:1<=ws.length:=by
  cases Ad with
  |nil=>simp at f
  |cons x Ad=>exact Y9 ((N.2 x).mpr (.ask (by simp)))
 exact h.2.2 _ (by lia) (by lia) (qRM N d b)
theorem sqo {b:Bool}{K:Ab1}{H:Hp}{a:Addr}{xs:List V}(h:Rd H a (seqO b xs)):SqO b K H a xs:=by
 cases b with
 |true=>exact .inl h
 |false=>exact .inl h
theorem Rd.same {H H':Hp}{a:Addr}{o:HO}(h:Rd H a o)(s:Same H H'):Rd H' a o:=h.elim (λe=>.inl (s _ _ e)) λ⟨q,e⟩=>.inr ⟨q,s _ _ e⟩
structure Nev (Ae:Aa0)(Aa:Int)(want:List Int)(ss:Aa0):Prop where
 rise:∀s∈ss,Rise (Ae.length:Int) s
 few:∀s∈ss,(s.length:Int)<=Aa
 nil:[]∈ss
 shut:∀s∈ss,∀m∈qD7 Ae s Aa,behL s m∈ss
 no:∀s∈ss,¬ ∀x∈want,x∈s
structure NevP (Ae:Aa0)(Aa:Int)(ss:Aa0):Prop where
 nd:ss.Nodup
 mem:∀s,s∈ss↔∃u,Pt Ae Aa u s
 so:ss.Pairwise λa b=>HT.lexLt b a=false
theorem Pt.few {Ae:Aa0}{Aa:Int}(a:0<=Aa){u:Nat}{s:List Int}(h:Pt Ae Aa u s):(s.length:Int)<=Aa:=by
 induction h with
 |zero=>exact a
 |@step t st m p hm ih=>
  rcases qLQ p.rise hm with⟨e,l⟩|⟨_,l⟩
  ·have:=((due_iff.mp hm).2.1 e).2.2
   lia
  ·lia
theorem Rch.nevP {Ae:Aa0}{Aa:Int}{e c:Aa0}{f:List Int->Nat}(h:Rch Ae Aa e f)(d:c.Perm e)(i:c.Pairwise λa b=>HT.lexLt b a=false):NevP Ae Aa c:=
 ⟨d.nodup_iff.mpr h.nd,λs=>d.mem_iff.trans ⟨λg=>let⟨u,m,_⟩:=h.snd s g;⟨u,m.1⟩,λ⟨u,p⟩=>h.all u s p⟩,i⟩
theorem Ent.keys1 {H:Hp}{f:List Int->Nat}:∀{Af:List (List Key×V)} {ks:Aa0},Ent H Af ks f->Af.map (·.1)=ks.map λt=>t.map (E8:Int->Key)
 |[],[],.nil=>rfl
 |_::_,_::_,.cons a b=>by rw[C7,C7,Ent.keys1 b,a.1];rfl
def qSN:Sp:=λvs H Q _=>∃(b:Bool) (a t:Addr) (st Ad:List Int),vs=[.ref a,.ref t]/\H a=some (.tup (st.map V.int))/\Rd H t (seqO b (Ad.map V.int))/\Ad.length<=1000/\∀H',Same H H'->Q (.bl (decide (∀x∈Ad,x∈st))) H'
def qKF:Sp:=λvs H Q _=>∃(a:Addr) (zs:List Int) (k:Int),vs=[.ref a,.int k]/\Rd H a (.tup (zs.map V.int))/\Rise k zs/\zs.length<=1000/\∀H',Same H H'->Q (.bl true) H'
def qP9:Sp:=λvs H Q _=>∃(a:Addr) (x y:V),vs=[.ref a]/\H a=some (.tup [x,y])/\Q (.bl true) H
def qP8:Sp:=λvs H Q _=>∃(a t:Addr) (Ae:Aa0) (Aa:Int) (zs:List Int),vs=[.ref a,.int Aa,.ref t]/\NetAt H a Ae/\Ae.length<=12/\H t=some (.tup (zs.map V.int))/\Rise (Ae.length:Int) zs/\(zs.length:Int)<=Aa/\∀H',Same H H'->Q (.bl true) H'
def qSO:Sp:=λvs H Q _=>∃(a l:Addr) (Ae:Aa0) (Aa:Int) (want:List Int) (rs:List Addr) (ss:Aa0),vs=[.ref a,.int Aa,.ref l]/\NetAt H a Ae/\WFn Ae/\Ae.length<=12/\H l=some (.lst (rs.map V.ref))/\StL H rs ss/\ss.length<=5000/\Nev Ae Aa want ss/\∀H',Same H H'->Q (.bl true) H'
structure PapN (H:Hp)(T tw l:Addr)(ws:List Int)(rs:List Addr)(ss:Aa0):Prop where
 tup:H T=some (.tup [.ref tw,.ref l])
 works:BareT H tw (ws.map V.int)
 lst:H l=some (.lst (rs.map V.ref))
 at_:StL H rs ss
def qSL (Pt:Addr):Sp:=λvs H Q _=>∃(a t:Addr) (Ae:Aa0) (Ad ws:List Int) (Aa:Int),vs=[.ref a,.ref t,.int Aa]/\TabB H Pt/\NetAt H a Ae/\WFn Ae/\Ae.length<=12/\qFB H t Ae Ad/\1<=Ad.length/\qAE Ae Ad ws/\
 (qFE Ae ws Ad Aa->∀H',Same H H'->Q .non H')/\(¬qFE Ae ws Ad Aa->∀T tw l rs ss H',Same H H'->H T=none->H l=none->PapN H' T tw l ws rs ss->NevP (qBY Ae ws) Aa ss->(∀s∈ss,¬ ∀x∈qBH ws Ad,x∈s)->ss.length<=4096->Q (.ref T) H')
open PySem PySem.Spec L2
theorem qKM (m j:Nat):(2^m-1).testBit j=decide (j<m):=Nat.testBit_two_pow_sub_one m j
theorem qbL {Ae:Aa0}(wf:WFn Ae):∀m,m<=Ae.length->Rm Ae (Ae.length:Int) m (2^m-1)
 |0,_=>.zero
 |m+1,h=>by
  have ih:=qbL wf m (by lia)
  have hz:=A4 (show m<Ae.length by lia)
  have rz:=wf m _ hz;have e:2^(m+1)-1=(2^m-1) ||| 2^m:=M9 λj=>by
   rw[Z9,qKM,qKM,Q3];by_cases c:j<m
   ·rw[decide_eq_true c,decide_eq_true (by lia:j<m+1),Bool.true_or]
   ·by_cases d:m=j
    ·rw[decide_eq_true d,decide_eq_true (by lia:j<m+1),A60]
    ·rw[decide_eq_false c,decide_eq_false d,decide_eq_false (by lia:¬j<m+1)];rfl
  rw[e];refine .do_ ih ⟨?_,by lia,?_⟩
  ·have lt:cntN Ae.length (2^m-1)<=m:=by
    unfold cntN;rw[O5 (g:=λk=>if(decide (k<m))=true then 1 else 0) λk _=>by rw[qS9,qKM],qK9]
    have nd:((C3 Ae.length).filter λk=>decide (k<m)).Nodup:=List.nodup_range.filter _;exact qLP nd λb hb=>of_decide_eq_true (B9.mp hb).2
   lia
  ·unfold nxt;rw[hz];refine M9 λj=>?_;rw[T5,qKM];show(decide (j<m)&&(mskN Ae[m]).testBit j)=(mskN Ae[m]).testBit j;rw[qNY rz.up (λx hx=>(rz.in_ x hx).1)];by_cases c:(j:Int)∈Ae[m]
   ·have:=(rz.in_ _ c).2;rw[decide_eq_true (by lia:j<m),p6]
   ·rw[decide_eq_false c,W5]
theorem qXM {Ae:Aa0}{ws Ad:List Int}(a:WFn Ae)(N:qAE Ae Ad ws):qFE Ae ws Ad (ws.length:Int):=by
 have d:WFn (qBY Ae ws):=qCQ a N.1;have R:=qbL d _ (A7 _);rw[qBV] at R;refine⟨_,_,R,M9 λj=>?_⟩;rw[T5,qKM];unfold qOY;rw[qNY ((qFL _ _).filter _) (λx b=>(mem_rangeI.mp (B9.mp b).1).1)];by_cases c:(j:Int)∈(qAO 0 ws.length).filter λp=>decide ((ws[p.toNat]?).getD 0∈Ad)
 ·have:=mem_rangeI.mp (B9.mp c).1;rw[decide_eq_true (by lia:j<ws.length),p6]
 ·rw[decide_eq_false c,W5]
def PrvH (Ae:Aa0)(Aa:Int)(ks:Aa0)(f:List Int->Nat)(g:List Int->Prv):Prop:=Prov Ae Aa ks f g/\∃l,ks=[]::l
theorem PrvH.start {Ae:Aa0}{Aa:Int}:PrvH Ae Aa [[]] (λ_=>0) (λ_=>none):=⟨λs a=>.inl ⟨A6.mp a,rfl,rfl⟩,[],rfl⟩
theorem PrvH.snoc {Ae:Aa0} {Aa:Int} {b:Aa0} {f:List Int->Nat} {g:List Int->Prv} {s:List Int} {m:Mv} {z:Nat} (d:s∈b) (j:m∈qD7 Ae s Aa) (c:behL s m∉b) (q:z=if m.1=C0 "do" then 1 else 0) (h:PrvH Ae Aa b f g):PrvH Ae Aa (b++[behL s m]) (qJO f (behL s m) (f s+z)) (gset g (behL s m) (some (s,m))):=by
 obtain⟨h,l,o⟩:=h;refine⟨λx i=>?_,l++[behL s m],by rw[o];rfl⟩
 have n:∀y∈b,gset g (behL s m) (some (s,m)) y=g y:=λy r=>if_neg λe=>c (by rw[<- e];exact r)
 rcases B4.mp i with k|k
 ·rw[qJY k c,n x k];rcases h x k with a|⟨p,mm,a1,a2,a3,a4,a5⟩
  ·exact .inl a
  ·exact .inr ⟨p,mm,a1,B4.mpr (.inl a2),a3,a4,by rw[qJY a2 c];exact a5⟩
 ·rw[A6.mp k];refine .inr ⟨s,m,if_pos rfl,B4.mpr (.inl d),j,rfl,?_⟩;rw[qN1,qJY d c,q]
def qNG:Sp:=λvs H Q _=>∃(a:Addr) (Ae:Aa0) (Aa:Int),vs=[.ref a,.int Aa]/\NetAt H a Ae/\WFn Ae/\Ae.length<=12/\
 ∀d o Af ks f g H',Same H H'->H d=none->H' d=some (.frz o (.dT Af))->EntX H' Af ks f g->Rch Ae Aa ks f->PrvH Ae Aa ks f g->Q (.ref d) H'
def qVM:Sp:=λvs H Q _=>∃(d t:Addr) (o:Obj) (Af:List (List Key×V)) (Ae:Aa0) (Aa:Int) (ks:Aa0) (f:List Int->Nat) (g:List Int->Prv) (s:List Int),vs=[.ref d,.ref t]/\H d=some (.frz o (.dT Af))/\EntX H Af ks f g/\WFn Ae/\Rch Ae Aa ks f/\PrvH Ae Aa ks f g/\ks.length<=4096/\H t=some (.tup (s.map V.int))/\s∈ks/\
 ∀l H',Same H H'->H l=none->PlanAt H' l (pth f g s)->Q (.ref l) H'
def FewP (Ae:Aa0)(Ad:List Int)(r:Int)(ms:List Mv):Prop:=∃ws ks f g s,qAE Ae Ad ws/\LeastR Ae ws Ad r/\Rch (qBY Ae ws) r ks f/\Prov (qBY Ae ws) r ks f g/\(s∈ks/\∀x∈qBH ws Ad,x∈s)/\ms=renM ws (pth f g s)
def qaW (Pt:Addr):Sp:=λvs H Q _=>∃(a t:Addr) (Ae:Aa0) (Ad:List Int),vs=[.ref a,.ref t]/\TabB H Pt/\NetAt H a Ae/\WFn Ae/\Ae.length<=12/\qFB H t Ae Ad/\1<=Ad.length/\
 ∀T l r ms H',Same H H'->FewP Ae Ad r ms->H l=none->PlanAt H' l ms->H' T=some (.tup [.int r,.ref l])->Q (.ref T) H'
theorem FewP.lr {Ae:Aa0}{Ad ws:List Int}{r:Int}{b:List Mv}(h:FewP Ae Ad r b)(N:qAE Ae Ad ws):LeastR Ae ws Ad r:=by
 obtain⟨a,e,f,g,s,c,d,_⟩:=h;rw[qEL N c];exact d
section
variable{Ae:Aa0}{Ad ws:List Int}{Aa:Int}
theorem qHA {st:List Int} {m:Mv} (a:m.1 = "do"\/m.1 = "clear") (x:Int):x∈behL st m↔(m.1 = "do"/\(x∈st\/x=m.2))\/(m.1 = "clear"/\x∈st/\x≠m.2):=by
 unfold behL;rcases a with e|e
 ·rw[if_pos (by rw[e]),mem_insL]
  exact⟨λh=>.inl ⟨e,h⟩,λh=>h.elim (·.2) λh=>absurd (e.symm.trans h.1) (by decide)⟩
 ·rw[if_neg (by rw[e];decide),B9,decide_eq_true_eq]
  exact⟨λh=>.inr ⟨e,h⟩,λh=>h.elim (λh=>absurd (e.symm.trans h.1) (by decide)) (·.2)⟩
theorem prj (rW:Rise (Ae.length:Int) ws){t:Nat}{s:List Int}(h:Pt Ae Aa t s):∃u,Pt (qBY Ae ws) Aa u (qBH ws s):=by
 have up:=rW.up;have f:=rW.nodup
 induction h with
 |zero=>exact⟨0,.zero⟩
 |@step t st m p hm ih=>
  obtain⟨u,P⟩:=ih;have w:=(Pt.step p hm).rise;obtain⟨⟨k,h0,h1⟩,r,hc⟩:=due_iff.mp hm;by_cases c:m.2∈ws
  ·obtain⟨i,n⟩:=J5 c;have li:=(A3.mp n).1;have o:∀{z:List Int},(i:Int)∈qBH ws z↔m.2∈z:=λ{z}=>(qCJ f).trans ⟨λ⟨_,y,e,g⟩=>by rw[D7,n] at e;cases e;exact g,λh=>⟨by lia,m.2,by rw[D7];exact n,h⟩⟩
   have q:(m.1,(i:Int))∈qD7 (qBY Ae ws) (qBH ws st) Aa:=due_iff.mpr ⟨⟨k,by show(0:Int)<=(i:Int);lia,by rw[qBV];show(i:Int)<_;lia⟩,λe=>⟨λz=>(r e).1 (o.mp z),λy g=>?_,?_⟩,λe=>o.mpr (hc e)⟩
   ·have v:qBH ws (behL st m)=behL (qBH ws st) (m.1,(i:Int)):=qJI (qK7 up w.up) (Pt.step P q).rise.up λx=>by
     rw[qHA (m:=(m.1,(i:Int))) k,show x∈qBH ws (behL st m)↔_ from qCJ f,show x∈qBH ws st↔_ from qCJ f]
     constructor
     ·rintro⟨j,y,e,g⟩;rcases(qHA k y).mp g with⟨a,b|b⟩|⟨a,b,d⟩
      ·exact .inl ⟨a,.inl ⟨j,y,e,b⟩⟩
      ·refine .inl ⟨a,.inr ?_⟩;subst b;have:=qDG f n;rw[qDG f e] at this;show x=(i:Int);have:=B0 this
       lia
      ·refine .inr ⟨a,⟨j,y,e,b⟩,λz=>d ?_⟩;have z:x=(i:Int):=z;rw[z,D7,n] at e;exact(B0 e).symm
     ·rintro(⟨a,⟨j,y,e,g⟩|b⟩|⟨a,⟨j,y,e,g⟩,d⟩)
      ·exact⟨j,y,e,(qHA k y).mpr (.inl ⟨a,.inl g⟩)⟩
      ·have b:x=(i:Int):=b;exact⟨by lia,m.2,by rw[b,D7];exact n,(qHA k _).mpr (.inl ⟨a,.inr rfl⟩)⟩
      ·refine⟨j,y,e,(qHA k y).mpr (.inr ⟨a,g,λz=>d ?_⟩)⟩;subst z;have:=qDG f n;rw[qDG f e] at this;show x=(i:Int);have:=B0 this
       lia
    exact⟨u+1,by rw[v];exact .step P q⟩
   ·unfold nd at g;rw[D7,qHV n,Q9] at g;obtain⟨y0,z,ez,hz⟩:=(qCJ f).mp g;exact(qCJ f).mpr ⟨y0,z,ez,(r e).2.1 z hz⟩
   ·have:=(r e).2.2;have l:(qBH ws st).length<=st.length:=J7 _ _
    lia
  ·have v:qBH ws (behL st m)=qBH ws st:=qJI (qK7 up w.up) (qK7 up p.rise.up) λx=>by
    rw[show x∈qBH ws (behL st m)↔_ from qCJ f,show x∈qBH ws st↔_ from qCJ f];have ne:∀{y:Int},ws[x.toNat]?=some y->y≠m.2:=λe z=>c (by rw[<- z];exact A9 e)
    constructor
    ·rintro⟨j,y,e,g⟩;rcases(qHA k y).mp g with⟨a,b|b⟩|⟨a,b,d⟩
     ·exact⟨j,y,e,b⟩
     ·exact absurd b (ne e)
     ·exact⟨j,y,e,b⟩
    ·rintro⟨j,y,e,g⟩;refine⟨j,y,e,(qHA k y).mpr ?_⟩;rcases k with a|a
     ·exact .inl ⟨a,.inl g⟩
     ·exact .inr ⟨a,g,ne e⟩
   exact⟨u,by rw[v];exact P⟩
end
structure NevW (Ae:Aa0)(Aa:Int)(ss:Aa0):Prop where
 rise:∀s∈ss,Rise (Ae.length:Int) s
 few:∀s∈ss,(s.length:Int)<=Aa
 nil:[]∈ss
 shut:∀s∈ss,∀m∈qD7 Ae s Aa,behL s m∈ss
section
variable{Ae:Aa0}{Ad ws:List Int}{Aa:Int}{ss:Aa0}
theorem NevW.nev1 (h:NevW Ae Aa ss):Nev Ae Aa [-1] ss:=
 ⟨h.rise,h.few,h.nil,h.shut,λs a b=>by have:=((h.rise s a).in_ (-1) (b _ (A6.mpr rfl))).1;lia⟩
theorem qcY (b:0<=Aa)(h:∀s,s∈ss↔∃u,Pt Ae Aa u s):NevW Ae Aa ss:=by
 refine⟨λs a=>?_,λs a=>?_,(h _).mpr ⟨0,.zero⟩,λs a m c=>?_⟩
 ·obtain⟨u,p⟩:=(h s).mp a;exact p.rise
 ·obtain⟨u,p⟩:=(h s).mp a;exact p.few b
 ·obtain⟨u,p⟩:=(h s).mp a;exact(h _).mpr ⟨u+1,.step p c⟩
end
def qMK:Sp:=λvs H Q _=>∃(a lw l:Addr) (Ae:Aa0) (Aa:Int) (want:List Int) (rs:List Addr) (ss:Aa0),vs=[.ref a,.ref lw,.int Aa,.ref l]/\NetAt H a Ae/\WFn Ae/\Ae.length<=12/\H lw=some (.lst (want.map V.int))/\want.length<=1000/\H l=some (.lst (rs.map V.ref))/\StL H rs ss/\ss.length<=5000/\NevW Ae Aa ss/\∀b H',Same H H'->(b=true↔∀s∈ss,¬ ∀x∈want,x∈s)->Q (.bl b) H'
def qSI:Sp:=λvs H Q _=>∃(a t T tw l:Addr) (Ae:Aa0) (Ad ws:List Int) (Aa:Int) (rs:List Addr) (ss:Aa0),vs=[.ref a,.ref t,.int Aa,.ref T]/\NetAt H a Ae/\WFn Ae/\Ae.length<=12/\qFB H t Ae Ad/\PapN H T tw l ws rs ss/\Rise (Ae.length:Int) ws/\qBH ws Ad≠[]/\ss.length<=5000/\NevW (qBY Ae ws) Aa ss/\∀b H',Same H H'->(b=true↔∀s∈ss,¬ ∀x∈qBH ws Ad,x∈s)->Q (.bl b) H'
def OrdR (f:Int->Int)(a b:Int):Prop:=f b<f a\/(f a=f b/\a<b)
def mx (a b:Int):Int:=if b>a then b else a
inductive TRun (Ae:Aa0):List Int->Int->List Mv->List Int->Int->Prop
 |nil {S:List Int} {m:Int}:TRun Ae S m [] S m
 |do_ {S:List Int} {m:Int} {x:Int} {r:List Mv} {t:List Int} {n:Int}:x∉S->(∀y∈nd Ae x,y∈S)->TRun Ae (S++[x]) (mx m ((S.length:Int)+1)) r t n->TRun Ae S m ((("do",x):Mv)::r) t n
 |clr {S:List Int} {m:Int} {x:Int} {r:List Mv} {t:List Int} {n:Int}:x∈S->TRun Ae (S.erase x) m r t n->TRun Ae S m ((("clear",x):Mv)::r) t n
noncomputable def tk:Nat->List Int->List Int
 |_,[]=>[]
 |j,x::l=>(x+(j:Int))::tk (j+1) l
structure TIn (Ae:Aa0)(zs:List Int)(work:Int):Prop where
 wf:WFn Ae
 N:qAE Ae [work] zs
 len:Ae.length<=400
 user:∀{u v x:Int},u∈zs->v∈zs->x∈nd Ae u->x∈nd Ae v->u=v
theorem lm_hu {X:Cx}{a:Scope}{p:Str}{fv:List Nat}{q:Str}(z:LmZ):(lmCx X a p fv q z).A.units+1<cLine:=by
 have:=z.rm.un;show z.A.units+3+1<cLine
 lia
noncomputable def kvsV (l:List Int)(g:Int->V):List (Key×V):=l.map λz=>(E8 z,g z)
theorem qO3 {g:Int->V}{y:Int}:∀{l:List Int},y∈l->valV (kvsV l g) (E8 y)=some (g y)
 |[],h=>by cases h
 |x::l,h=>by
  by_cases e:x=y
  ·subst e;exact qBE rfl
  ·exact(qB8 (λz=>e (P1 z))).trans (qO3 ((B8.mp h).resolve_left λz=>e z.symm))
theorem qPW {g:Int->V}{y:Int}:∀{l:List Int},y∉l->valV (kvsV l g) (E8 y)=none
 |[],_=>rfl
 |x::l,h=>(qB8 (λz=>h (by rw[<- P1 z];exact E4))).trans (qPW λz=>h (A8 _ z))
theorem qZW {l:List Int}{g:Int->V}{z:Int}{v:V}(h:z∉l):putK (kvsV l g) (E8 z) v=kvsV (l++[z]) (λy=>if y=z then v else g y):=by
 rw[qSX _ (qPW h)];unfold kvsV;rw[C2];congr 1
 ·exact O5 λy a=>by
   show _=(E8 y,if y=z then v else g y)
   rw[if_neg λ(e:y=z)=>h (e▸a)]
 ·simp
section
variable{dp p:Addr}{H Hc Hd:Hp}
theorem qO4 {o:HO}(k:Keep dp dp Hc Hd):Keep dp dp Hc (Ag Hd dp o):=λb u e a c=>by rw[qA9 a];exact k b u e a c
end
structure Pck (f:Int->Int)(ys pk lf:List Int):Prop where
 perm:(pk++lf).Perm ys
 up:lf.Pairwise (·<·)
 ord:pk.Pairwise (OrdR f)
 ahead:∀a∈pk,∀b∈lf,OrdR f a b
section
variable{Ae:Aa0}{p:List Mv}
noncomputable abbrev dO (w:Int):Mv:=(C0 "do",w)
noncomputable abbrev cL (w:Int):Mv:=(C0 "clear",w)
noncomputable def bk1 (Ae:Aa0)(m:Mv)(r:List Mv×(Int->Bool)):List Mv×(Int->Bool):=
 if m.1=C0 "do"/\r.2 m.2=true then(m::((nd Ae m.2).filter λn=>!r.2 n).map cL++r.1,λx=>(r.2 x&&decide (x≠m.2))||decide (x∈nd Ae m.2)) else r
noncomputable def bk (Ae:Aa0)(A:Int->Bool):List Mv->List Mv×(Int->Bool)
 |[]=>([],A)
 |m::p=>bk1 Ae m (bk Ae A p)
noncomputable abbrev inA (Ad:List Int):Int->Bool:=λx=>decide (x∈Ad)
noncomputable def tdy (Ae:Aa0)(Ad:List Int)(p:List Mv):List Mv:=(bk Ae (inA Ad) p).1
noncomputable def wn (Ae:Aa0)(Ad:List Int)(p:List Mv)(b:Nat):Int->Bool:=(bk Ae (inA Ad) (p.drop b)).2
theorem qYI {A:Int->Bool}{b:Nat}{m:Mv}(h:p[b]?=some m):bk Ae A (p.drop b)=bk1 Ae m (bk Ae A (p.drop (b+1))):=by
 obtain⟨a,e⟩:=A3.mp h;rw[F4 a,e]
 rfl
theorem qN5 {w:Int}{r:List Mv×(Int->Bool)}(h:r.2 w=true):bk1 Ae (dO w) r=(dO w::((nd Ae w).filter λn=>!r.2 n).map cL++r.1,λx=>(r.2 x&&decide (x≠w))||decide (x∈nd Ae w)):=if_pos ⟨rfl,h⟩
theorem qYJ {w:Int}{r:List Mv×(Int->Bool)}(h:r.2 w=false):bk1 Ae (dO w) r=r:=if_neg λz=>by rw[show(r.2 w=true) from z.2] at h;cases h
theorem qLO {w:Int}{r:List Mv×(Int->Bool)}:bk1 Ae (cL w) r=r:=if_neg λz=>qAA z.1
theorem qTU {A:Int->Bool}:∀p:List Mv,bk Ae A (bk Ae A p).1=bk Ae A p
 |[]=>rfl
 |m::p=>by
  have ih:=qTU (A:=A) p;show bk Ae A (bk1 Ae m (bk Ae A p)).1=bk1 Ae m (bk Ae A p);obtain⟨wd,w⟩:=m;by_cases c:wd=C0 "do"/\(bk Ae A p).2 w=true
  ·obtain⟨rfl,c2⟩:=c;rw[qN5 c2];show bk1 Ae (dO w) (bk Ae A (((nd Ae w).filter λn=>!(bk Ae A p).2 n).map cL++(bk Ae A p).1))=_;have sk:∀(l:List Int) (q:List Mv),bk Ae A (l.map cL++q)=bk Ae A q:=by
    intro l q
    induction l with
    |nil=>rfl
    |cons x l ihl=>
     show bk1 Ae (cL x) (bk Ae A (l.map cL++q))=_;rw[qLO,ihl]
   rw[sk,ih,qN5 c2]
  ·have e:bk1 Ae (wd,w) (bk Ae A p)=bk Ae A p:=if_neg c;rw[e];exact ih
noncomputable def lat (p:List Mv):Nat->Int->Option Nat
 |0,_=>none
 |b+1,n=>if p[b]?=some (dO n) then some b else lat p b n
theorem qL0:∀{b i:Nat} {n:Int},lat p b n=some i->i<b/\p[i]?=some (dO n)
 |0,i,n,h=>by cases h
 |b+1,i,n,h=>by
  unfold lat at h;by_cases c:p[b]?=some (dO n)
  ·rw[if_pos c] at h;cases h;exact⟨by lia,c⟩
  ·rw[if_neg c] at h;have:=qL0 h;exact⟨by lia,this.2⟩
theorem qH1 {v w:Int}(h:dO v=dO w):v=w:=congrArg B09 h
def NdF (Ae:Aa0)(p:List Mv):Prop:=∀(j:Nat) (w:Int),p[j]?=some (dO w)->∀n∈nd Ae w,∃i,lat p j n=some i
def Wt (Ae:Aa0)(Ad:List Int)(p:List Mv)(b i:Nat):Prop:=(∃n∈Ad,lat p p.length n=some i)\/∃k w,b<=k/\p[k]?=some (dO w)/\wn Ae Ad p (k+1) w=true/\∃n∈nd Ae w,lat p k n=some i
theorem qVB {Ad:List Int}{i:Nat}{w:Int}(hi:p[i]?=some (dO w)):∀(d b:Nat),b+d=p.length->i<b->(Wt Ae Ad p b i↔lat p b w=some i/\wn Ae Ad p b w=true)
 |0,b,e,ib=>by
  have eb:b=p.length:=by lia
  subst eb;have ew:wn Ae Ad p p.length w=decide (w∈Ad):=by unfold wn;rw[X3];rfl
  rw[ew,decide_eq_true_eq]
  constructor
  ·rintro(⟨n,hn,h⟩|⟨k,v,h1,h2,_⟩)
   ·have:=qH1 (B0 ((qL0 h).2.symm.trans hi));subst this;exact⟨h,hn⟩
   ·have:=(A3.mp h2).1
    lia
  ·rintro⟨h1,h2⟩;exact .inl ⟨w,h2,h1⟩
 |d+1,b,e,ib=>by
  have ih:=qVB (Ad:=Ad) hi d (b+1) (by lia) (by lia)
  have hb:b<p.length:=by lia
  have gb:=A4 hb;have step:Wt Ae Ad p b i↔Wt Ae Ad p (b+1) i\/∃v,p[b]?=some (dO v)/\wn Ae Ad p (b+1) v=true/\∃n∈nd Ae v,lat p b n=some i:=by
   constructor
   ·rintro(h|⟨k,v,h1,h2,h3,h4⟩)
    ·exact .inl (.inl h)
    ·by_cases c:k=b
     ·subst c;exact .inr ⟨v,h2,h3,h4⟩
     ·exact .inl (.inr ⟨k,v,by lia,h2,h3,h4⟩)
   ·rintro((h|⟨k,v,h1,h2,h3,h4⟩)|⟨v,h2,h3,h4⟩)
    ·exact .inl h
    ·exact .inr ⟨k,v,by lia,h2,h3,h4⟩
    ·exact .inr ⟨b,v,A7 _,h2,h3,h4⟩
  rw[step,ih];have ew:wn Ae Ad p b=(bk1 Ae p[b] (bk Ae (inA Ad) (p.drop (b+1)))).2:=by unfold wn;rw[qYI gb]
  have one:∀{v n:Int},lat p b n=some i->n=w:=λh=>qH1 (B0 ((qL0 h).2.symm.trans hi));generalize p[b]=m at gb ew;obtain⟨wd,v⟩:=m;by_cases cd:wd=C0 "do"
  ·subst cd;have lt:lat p (b+1) w=if dO v=dO w then some b else lat p b w:=by
    show(if p[b]?=some (dO w) then some b else lat p b w)=_
    rw[gb];by_cases c:dO v=dO w
    ·rw[if_pos c,if_pos (congrArg some c)]
    ·rw[if_neg c,if_neg λz=>c (B0 z)]
   rw[lt];by_cases ck:wn Ae Ad p (b+1) v=true
   ·have ew':wn Ae Ad p b w=((wn Ae Ad p (b+1) w&&decide (w≠v))||decide (w∈nd Ae v)):=by
     rw[ew,show bk1 Ae (C0 "do",v) (bk Ae (inA Ad) (p.drop (b+1)))=_ from qN5 ck]
     rfl
    rw[ew',G7,D6,decide_eq_true_eq,decide_eq_true_eq]
    constructor
    ·rintro(⟨h1,h2⟩|⟨v',h1,_,n,hn,h4⟩)
     ·by_cases c:dO v=dO w
      ·rw[if_pos c] at h1;have:=B0 h1
       lia
      ·rw[if_neg c] at h1;exact⟨h1,.inl ⟨h2,λz=>c (by rw[z])⟩⟩
     ·have ev:=qH1 (B0 (gb.symm.trans h1));subst ev;have en:=one (v:=v) h4;subst en;exact⟨h4,.inr hn⟩
    ·rintro⟨h1,h2|h2⟩
     ·left
      rw[if_neg λz=>h2.2 (qH1 z).symm];exact⟨h1,h2.1⟩
     ·exact .inr ⟨v,gb,ck,w,h2,h1⟩
   ·have ck':=F8.mpr ck;have ew':wn Ae Ad p b w=wn Ae Ad p (b+1) w:=by
     rw[ew,show bk1 Ae (C0 "do",v) (bk Ae (inA Ad) (p.drop (b+1)))=_ from qYJ ck']
     rfl
    rw[ew']
    constructor
    ·rintro(⟨h1,h2⟩|⟨v',h1,h3,_⟩)
     ·by_cases c:dO v=dO w
      ·rw[if_pos c] at h1;have:=B0 h1
       lia
      ·rw[if_neg c] at h1;exact⟨h1,h2⟩
     ·have ev:=qH1 (B0 (gb.symm.trans h1));subst ev;exact absurd h3 ck
    ·rintro⟨h1,h2⟩
     left
     rw[if_neg λz=>ck (by rw[qH1 z];exact h2)]
     exact⟨h1,h2⟩
  ·have lt:lat p (b+1) w=lat p b w:=by
    show(if p[b]?=some (dO w) then some b else lat p b w)=_
    rw[gb,if_neg λz=>cd (congrArg A01 (B0 z))]
   have ew':wn Ae Ad p b w=wn Ae Ad p (b+1) w:=by
    rw[ew,show bk1 Ae (wd,v) (bk Ae (inA Ad) (p.drop (b+1)))=_ from if_neg λz=>cd z.1]
    rfl
   rw[lt,ew']
   constructor
   ·rintro(h|⟨v',h1,_⟩)
    ·exact h
    ·rw[gb] at h1;exact absurd (congrArg A01 (B0 h1)) cd
   ·exact .inl
end
section
variable{Ae:Aa0}{p:List Mv}{Ad:List Int}
noncomputable def dpB (p:List Mv) (j:Nat):Bool:=match p[j]? with|some m=>decide (m.1=C0 "do")|none=>false
noncomputable def wkO (p:List Mv)(j:Nat):Int:=match p[j]? with|some m=>m.2|none=>0
noncomputable def kB (Ae:Aa0)(Ad:List Int)(p:List Mv)(j:Nat):Bool:=dpB p j&&wn Ae Ad p (j+1) (wkO p j)
noncomputable def pc (Ae:Aa0)(Ad:List Int)(p:List Mv)(j:Nat):List Mv:=dO (wkO p j)::((nd Ae (wkO p j)).filter λn=>!wn Ae Ad p (j+1) n).map cL
theorem dB_iff {j:Nat}:dpB p j=true↔p[j]?=some (dO (wkO p j)):=by
 unfold dpB wkO;cases p[j]? with
 |none=>simp
 |some m=>
  obtain⟨a,b⟩:=m
  constructor
  ·intro h;have:a=C0 "do":=of_decide_eq_true h
   rw[this]
  ·intro h;exact decide_eq_true (congrArg A01 (B0 h))
theorem qMF {j:Nat}{w:Int}(h:p[j]?=some (dO w)):wkO p j=w:=by unfold wkO;rw[h]
theorem qfY {j:Nat}{w:Int}(h:p[j]?=some (dO w)):dpB p j=true:=dB_iff.mpr (by rw[qMF h];exact h)
theorem qSF:∀(d b:Nat),b+d=p.length->(bk Ae (inA Ad) (p.drop b)).1=(((A23 b d).filter (kB Ae Ad p)).map (pc Ae Ad p)).flatten
 |0,b,e=>by
  rw[O2 (by lia)]
  rfl
 |d+1,b,e=>by
  have hb:b<p.length:=by lia
  have gb:=A4 hb;rw[qYI gb,A69,K8];have ih:=qSF d (b+1) (by lia)
  by_cases c:kB Ae Ad p b=true
  ·rw[if_pos c,C7,O4,<- ih];unfold kB at c;rw[D6] at c;have gd:=dB_iff.mp c.1;rw[gb] at gd;rw[B0 gd,qN5 (show(bk Ae (inA Ad) (p.drop (b+1))).2 (wkO p b)=true from c.2)]
   rfl
  ·rw [if_neg c,<- ih];have:bk1 Ae p[b] (bk Ae (inA Ad) (p.drop (b+1)))=bk Ae (inA Ad) (p.drop (b+1)):=if_neg fun z=>c (by
    have gd:p[b]?=some (dO p[b].2):=by rw[gb];exact congrArg some (Prod.ext z.1 rfl)
    unfold kB;rw[D6];exact⟨qfY gd,by rw[qMF gd];exact z.2⟩)
   rw[this]
theorem qeA:tdy Ae Ad p=(((C3 p.length).filter (kB Ae Ad p)).map (pc Ae Ad p)).flatten:=by
 have:=qSF (Ae:=Ae) (Ad:=Ad) (p:=p) p.length 0 (by lia)
 rw[W8,<- List.range_eq_range'] at this;exact this
noncomputable def dps (p:List Mv):List Nat:=(C3 p.length).filter (dpB p)
theorem qaG:(dps p).filter (kB Ae Ad p)=(C3 p.length).filter (kB Ae Ad p):=by
 unfold dps;rw[j8];congr 1
 funext j
 unfold kB;cases dpB p j<;>simp
theorem mem_dps {j:Nat}:j∈dps p↔p[j]?=some (dO (wkO p j)):=by
 unfold dps;rw[B9,E2,dB_iff];exact⟨λh=>h.2,λh=>⟨(A3.mp h).1,h⟩⟩
theorem dps_up:(dps p).Pairwise (·<·):=Y8.filter _
theorem qTN {j:Nat}(h:j<p.length):(C3 (j+1)).filter (dpB p)=(C3 j).filter (dpB p)++(if dpB p j then[j] else[]):=by
 rw[T1,Y3];congr 1;cases e:dpB p j<;>simp[e]
theorem qbR {a:List Nat}(u:a.Pairwise (·<·)){t k:Nat}(h:a[t]?=some k):a.drop t=k::a.drop (t+1)/\∀j∈a,j∈a.drop (t+1)↔k<j:=by
 obtain⟨d,e⟩:=A3.mp h;have b:a.drop t=k::a.drop (t+1):=by rw[F4 d,e]
 refine⟨b,λj g=>⟨λm=>?_,λm=>?_⟩⟩
 ·have:=u.sublist (V6 t a);rw[b] at this;exact(M7.mp this).1 j m
 ·obtain⟨q,f,i⟩:=L8 g;have:t<q:=by
   rcases n4 q t with c|c|c
   ·have:=G2.mp u q t f d c
    lia
   ·subst c;lia
   ·exact c
  rw[A07];exact⟨q-(t+1),by rw[Q8];lia,by rw[m7,<- i];congr 1;lia⟩
theorem qTC {j:Nat}{w:Int}(h:p[j]?=some (dO w)):Wt Ae Ad p (j+1) j↔wn Ae Ad p (j+1) w=true:=by
 have a:=(A3.mp h).1;rw[qVB h (p.length-(j+1)) (j+1) (by lia) (by lia)]
 have:lat p (j+1) w=some j:=by unfold lat;exact if_pos h
 rw[this];exact⟨λq=>q.2,λq=>⟨rfl,q⟩⟩
theorem Wt.of0 {i b:Nat}(h:Wt Ae Ad p b i)(a:i+1<=b\/True):Wt Ae Ad p (i+1) i:=by
 rcases h with h|⟨k,w,h1,h2,h3,n,hn,h4⟩
 ·exact .inl h
 ·exact .inr ⟨k,w,(qL0 h4).1,h2,h3,n,hn,h4⟩
theorem qPP (a:WFn Ae)(h:Ae.length<=400)(w:Int):(nd Ae w).length<=400:=by
 unfold nd;cases e:Ae[w.toNat]? with
 |none=>simp
 |some z=>
  have:=(a _ _ e).len;have:=(A3.mp e).1;simp
  lia
noncomputable def usB (Ae:Aa0)(p:List Mv)(y k:Nat):Bool:=decide (∃n∈nd Ae (wkO p k),lat p k n=some y)
noncomputable def luF (Ae:Aa0)(p:List Mv)(L:List Nat)(y:Nat):Option Nat:=(L.filter (usB Ae p y)).getLast?
theorem qZP {L:List Nat}{k y:Nat}:luF Ae p (L++[k]) y=if usB Ae p y k then some k else luF Ae p L y:=by
 unfold luF;rw[Y3];cases e:usB Ae p y k<;>simp[e]
noncomputable def kps (Ae:Aa0)(Ad:List Int)(p:List Mv):List Nat:=(dps p).filter (kB Ae Ad p)
theorem mem_kps {k:Nat}:k∈kps Ae Ad p↔p[k]?=some (dO (wkO p k))/\wn Ae Ad p (k+1) (wkO p k)=true:=by
 unfold kps;rw[B9,mem_dps];unfold kB;rw[D6,dB_iff];exact⟨λh=>⟨h.1,h.2.2⟩,λh=>⟨h.1,h.1,h.2⟩⟩
theorem qfJ:(kps Ae Ad p).Pairwise (·<·):=dps_up.filter _
theorem qe7 {b i:Nat}:Wt Ae Ad p b i↔(∃n∈Ad,lat p p.length n=some i)\/∃k∈kps Ae Ad p,b<=k/\usB Ae p i k=true:=by
 constructor
 ·rintro(h|⟨k,w,h1,h2,h3,h4⟩)
  ·exact .inl h
  ·have:=qMF h2;subst this;exact .inr ⟨k,mem_kps.mpr ⟨h2,h3⟩,h1,decide_eq_true h4⟩
 ·rintro(h|⟨k,h1,h2,h3⟩)
  ·exact .inl h
  ·exact .inr ⟨k,_,h2,(mem_kps.mp h1).1,(mem_kps.mp h1).2,of_decide_eq_true h3⟩
theorem qbQ {i:Nat}{w:Int}(h:p[i]?=some (dO w)):Wt Ae Ad p 0 i↔wn Ae Ad p (i+1) w=true:=by
 rw[<- qTC h];refine⟨λq=>q.of0 (.inr trivial),λq=>?_⟩;rcases q with q|⟨k,v,_,q⟩
 ·exact .inl q
 ·exact .inr ⟨k,v,E7 _,q⟩
theorem qYX (w:WFn Ae)(mo:MvOk Ae p){k i:Nat}{n:Int}(t:k∈kps Ae Ad p)(s:n∈nd Ae (wkO p k))(hi:lat p k n=some i):
  (wn Ae Ad p (k+1) n=false↔(¬ ∃m∈Ad,lat p p.length m=some i)/\luF Ae p (kps Ae Ad p) i=some k)/\∃k',luF Ae p (kps Ae Ad p) i=some k':=by
 have o:=(mem_kps.mp t).1;have a0:=(A3.mp o).1;obtain⟨i1,gi⟩:=qL0 hi;have y:usB Ae p i k=true:=decide_eq_true ⟨n,s,hi⟩;have ne:n≠wkO p k:=λe=>by
  have b:=(mo _ (A9 o)).2;dsimp only at b;have v:=A4 (show(wkO p k).toNat<Ae.length by lia)
  have:=(w _ _ v).in_ n (by rw[<- qCI v];exact s)
  lia
 have lk:lat p (k+1) n=some i:=by
  show(if p[k]?=some (dO n) then some k else lat p k n)=some i
  rw[o,if_neg λz=>ne (qH1 (B0 z)).symm,hi]
 have wi:=qVB (Ae:=Ae) (Ad:=Ad) gi (p.length-(k+1)) (k+1) (by lia) (by lia)
 have w2:wn Ae Ad p (k+1) n=true↔Wt Ae Ad p (k+1) i:=by rw[wi,lk];exact⟨λq=>⟨rfl,q⟩,λq=>q.2⟩
 have d:k∈(kps Ae Ad p).filter (usB Ae p i):=B9.mpr ⟨t,y⟩;have u:=(qfJ (Ae:=Ae) (Ad:=Ad) (p:=p)).filter (usB Ae p i);obtain⟨k',a⟩:∃k',luF Ae p (kps Ae Ad p) i=some k':=by
  unfold luF;cases e:(kps Ae Ad p).filter (usB Ae p i) with
  |nil=>rw[e] at d;cases d
  |cons x r=>exact⟨_,List.getLast?_eq_some_getLast (by simp)⟩
 refine⟨?_,k',a⟩;have g:k'∈(kps Ae Ad p).filter (usB Ae p i):=List.mem_of_getLast? a;have f:∀j∈(kps Ae Ad p).filter (usB Ae p i),j<=k':=by
  intro j l;unfold luF at a;generalize (kps Ae Ad p).filter (usB Ae p i)=L at u l a;obtain⟨ys,rfl⟩:=List.getLast?_eq_some_iff.mp a;rcases B4.mp l with h|h
  ·exact R4 ((P3.mp u).2.2 j h k' (by simp))
  ·rw[A6.mp h];exact A7 _
 rw[<- Bool.not_eq_true,w2,qe7,a]
 constructor
 ·intro h;refine⟨λz=>h (.inl z),?_⟩;congr 1;have:=f k d;rcases j6 k k' with c|c
  ·exact absurd (.inr ⟨k',(B9.mp g).1,c,(B9.mp g).2⟩) h
  ·lia
 ·rintro⟨h1,h2⟩ (h|⟨j,l,h3,h4⟩)
  ·exact h1 h
  ·have:=f j (B9.mpr ⟨l,h4⟩);have:=B0 h2
   lia
theorem qbV:tdy Ae Ad p=((kps Ae Ad p).map (pc Ae Ad p)).flatten:=by
 rw[qeA];unfold kps;rw[qaG]
end
theorem qfI {l:List Nat}{g:Int->V}{i:Nat}{k:Key}{v:V}(h:(kvsV (l.map λ(j:Nat)=>(j:Int)) g)[i]?=some (k,v)):∃j,l[i]?=some j/\k=E8 (j:Int)/\v=g (j:Int):=by
 unfold kvsV at h;rw[B6,B6] at h;cases e:l[i]? with
 |none=>rw[e] at h;cases h
 |some j=>
  rw[e] at h;have h:=B0 h;exact⟨j,rfl,(congrArg A01 h).symm,(congrArg B09 h).symm⟩
noncomputable def ndI (Ae:Aa0)(p:List Mv)(j:Nat):List Int:=(nd Ae (wkO p j)).map λn=>(((lat p j n).getD 0:Nat):Int)
def intL (l:List Nat):List Int:=l.map λ(j:Nat)=>(j:Int)
def qbN (H:Hp)(dn:Addr)(Ae:Aa0)(p:List Mv)(ad:Int->Addr):Prop:=∀j∈dps p,H (ad (j:Int))=some (.lst ((ndI Ae p j).map V.int))
def qg4 (H:Hp)(dl:Addr)(p:List Mv)(b:Nat):Prop:=∃Af,H dl=some (.dK Af)/\Af.length<=b/\∀n,valV Af (E8 n)=(lat p b n).map λ(i:Nat)=>V.int (i:Int)
def qbM (H:Hp)(a l:Addr)(Ae:Aa0)(p:List Mv):Prop:=NetAt H a Ae/\WFn Ae/\Ae.length<=400/\PlanAt H l p/\p.length<=1000/\MvOk Ae p/\NdF Ae p
noncomputable def qEZ (p:List Mv)(Ad:List Int):List Int:=Ad.map λn=>(((lat p p.length n).getD 0:Nat):Int)
theorem qWU {Ae:Aa0}{p:List Mv}{k y:Nat}(d:NdF Ae p)(c:p[k]?=some (dO (wkO p k))):((y:Nat):Int)∈ndI Ae p k↔usB Ae p y k=true:=by
 unfold ndI usB;rw[D9,decide_eq_true_eq]
 constructor
 ·rintro⟨n,a,e⟩;obtain⟨j,b⟩:=d k _ c n a;rw[b,Q9] at e;exact⟨n,a,by rw[b];congr 1;lia⟩
 ·rintro⟨n,a,e⟩;exact⟨n,a,by rw[e];rfl⟩
theorem qWV {p:List Mv}{Ad:List Int}{y:Nat}(h:∀n∈Ad,∃i,lat p p.length n=some i):((y:Nat):Int)∈qEZ p Ad↔∃n∈Ad,lat p p.length n=some y:=by
 unfold qEZ;rw[D9]
 constructor
 ·rintro⟨n,a,e⟩;obtain⟨j,b⟩:=h n a;rw[b,Q9] at e;exact⟨n,a,by rw[b];congr 1;lia⟩
 ·rintro⟨n,a,e⟩;exact⟨n,a,by rw[e];rfl⟩
def qP3:Sp:=λvs H Q _=>∃(a l:Addr) (Ae:Aa0) (p:List Mv),vs=[.ref a,.ref l]/\qbM H a l Ae p/\
 ∀(T dn dl:Addr) (ad:Int->Addr) (H':Hp),Same H H'->H' T=some (.tup [.ref dn,.ref dl])->H dn=none->H' dn=some (.dK (kvsV (intL (dps p)) λz=>.ref (ad z)))->qbN H' dn Ae p ad->qg4 H' dl p p.length->Q (.ref T) H'
def qKD:Sp:=λvs H Q _=>∃(dn ll:Addr) (Ae:Aa0) (p:List Mv) (Ad:List Int) (ad:Int->Addr),vs=[.ref dn,.ref ll]/\H dn=some (.dK (kvsV (intL (dps p)) λz=>.ref (ad z)))/\qbN H dn Ae p ad/\NdF Ae p/\p.length<=1000/\(∀j,(ndI Ae p j).length<=400)/\Ad.length<=400/\(∀n∈Ad,∃i,lat p p.length n=some i)/\H ll=some (.lst ((qEZ p Ad).map V.int))/\
 ∀(d:Addr) (Af:List (Key×V)) (H':Hp),Same H H'->H d=none->H' d=some (.dK Af)->(∀i:Nat,(valV Af (E8 (i:Int))).isSome=true↔Wt Ae Ad p 0 i)->Q (.ref d) H'
def qSG:Sp:=λvs H Q _=>∃(a l t:Addr) (Ae:Aa0) (p:List Mv) (Ad:List Int),vs=[.ref a,.ref l,.ref t]/\qbM H a l Ae p/\H t=some (.tup (Ad.map V.int))/\Ad.length<=400/\(∀n∈Ad,∃i,lat p p.length n=some i)/\
 ∀(l':Addr) (H':Hp),Same H H'->H l'=none->PlanAt H' l' (tdy Ae Ad p)->Q (.ref l') H'
section
variable{Ae:Aa0}{p:List Mv}{Ad:List Int}{R:Int}
noncomputable def prs (p:List Mv)(b:Nat)(x:Int):Prop:=∃i,lat p b x=some i/\∀k,i<k->k<b->p[k]?≠some (cL x)
theorem qdQ {x y:Int}:dO x≠cL y:=λe=>qAA (congrArg A01 e).symm
theorem qeW {b:Nat}{w x:Int}(h:p[b]?=some (dO w)):prs p (b+1) x↔x=w\/prs p b x:=by
 have a:lat p (b+1) x=if x=w then some b else lat p b x:=by
  show(if p[b]?=some (dO x) then some b else lat p b x)=_
  rw[h];by_cases c:x=w
  ·rw[if_pos c,if_pos (by rw[c])]
  ·rw[if_neg c,if_neg λz=>c (qH1 (B0 z)).symm]
 by_cases c:x=w
 ·refine⟨λ_=>.inl c,λ_=>⟨b,by rw[a,if_pos c],λk d f=>by lia⟩⟩
 ·rw[if_neg c] at a
  constructor
  ·rintro⟨i,e,q⟩;exact .inr ⟨i,by rw[<- a];exact e,λk d f=>q k d (by lia)⟩
  ·rintro(e|⟨i,e,q⟩)
   ·exact absurd e c
   ·refine⟨i,by rw[a];exact e,λk d f=>?_⟩
    by_cases g:k=b
    ·subst g;rw[h];exactλz=>qdQ (B0 z)
    ·exact q k d (by lia)
theorem qW1 {b:Nat}{w x:Int}(h:p[b]?=some (cL w)):prs p (b+1) x↔prs p b x/\x≠w:=by
 have c:lat p (b+1) x=lat p b x:=by
  show(if p[b]?=some (dO x) then some b else lat p b x)=_
  rw[h,if_neg λz=>qdQ (B0 z).symm]
 constructor
 ·rintro⟨i,e,q⟩;rw[c] at e;refine⟨⟨i,e,λk a f=>q k a (by lia)⟩,λz=>?_⟩
  subst z;exact q b (qL0 e).1 (by lia) h
 ·rintro⟨⟨i,e,q⟩,g⟩;refine⟨i,by rw[c];exact e,λk a f=>?_⟩
  by_cases d:k=b
  ·subst d;rw[h];exactλz=>g (congrArg B09 (B0 z)).symm
  ·exact q k a (by lia)
theorem qcA {s q t:List Int}{f:List Mv}(h:Run Ae R s f t):∀b,p.drop b=f->b<=p.length->(∀x,x∈s↔prs p b x)->(∀x,x∈t↔prs p p.length x)/\∀k w,b<=k->p[k]?=some (dO w)->¬prs p k w/\∀n∈nd Ae w,prs p k n:=by
 induction h with
 |@nil s=>
  intro b e m S;have:p.length<=b:=List.drop_eq_nil_iff.mp e;have r:b=p.length:=by lia
  subst r;exact⟨S,λk w l g=>by have:=(A3.mp g).1;lia⟩
 |@do_ s s' t w f h1 h2 h3 h4 h5 h6 ih=>
  intro b e m S;have a:b<p.length:=by
   rcases j6 b p.length with c|c
   ·exact c
   ·rw[O2 c] at e;cases e
  rw[F4 a] at e
  injection e with e1 e2
  have g:p[b]?=some (dO w):=by rw[A4 a,e1]
  obtain⟨i,j⟩:=ih (b+1) e2 a λx=>by
   rw[h4.mem_iff,B4,A6,S x,qeW g];exact⟨λz=>z.elim .inr .inl,λz=>z.elim .inr .inl⟩
  refine⟨i,λk v l d=>?_⟩;by_cases c:k=b
  ·subst c;have:=qH1 (B0 (g.symm.trans d));subst this;exact⟨λz=>h1 ((S w).mpr z),λn o=>(S n).mp (h2 n o)⟩
  ·exact j k v (by lia) d
 |@clear s t w f h1 h2 ih=>
  intro b e m S;have a:b<p.length:=by
   rcases j6 b p.length with c|c
   ·exact c
   ·rw[O2 c] at e;cases e
  rw[F4 a] at e
  injection e with e1 e2
  have g:p[b]?=some (cL w):=by rw[A4 a,e1]
  obtain⟨i,j⟩:=ih (b+1) e2 a λx=>by
   rw[B9,decide_eq_true_eq,S x,qW1 g]
  refine⟨i,λk v l d=>?_⟩;by_cases c:k=b
  ·subst c;exact absurd (B0 (d.symm.trans g)) qdQ
  ·exact j k v (by lia) d
structure RunP (Ae:Aa0)(p:List Mv)(t:List Int):Prop where
 end_:∀x,x∈t↔prs p p.length x
 new:∀k w,p[k]?=some (dO w)->¬prs p k w
 nds:∀k w,p[k]?=some (dO w)->∀n∈nd Ae w,prs p k n
theorem runP {t:List Int}(h:Run Ae R [] p t):RunP Ae p t:=by
 obtain⟨a,b⟩:=qcA (q:=[]) h 0 (W8) (E7 _) λx=>⟨λz=>(nomatch z),λ⟨i,e,_⟩=>by cases e⟩
 exact⟨a,λk w g=>(b k w (E7 _) g).1,λk w g=>(b k w (E7 _) g).2⟩
theorem RunP.ndf {t:List Int}(h:RunP Ae p t):NdF Ae p:=λj w g n a=>by
 obtain⟨i,e,_⟩:=h.nds j w g n a;exact⟨i,e⟩
theorem RunP.last {t:List Int}(h:RunP Ae p t)(a:∀x∈Ad,x∈t):∀n∈Ad,∃i,lat p p.length n=some i:=λn b=>by
 obtain⟨i,e,_⟩:=(h.end_ n).mp (a n b);exact⟨i,e⟩
noncomputable def enL (p:List Mv)(i:Nat)(w:Int):List Nat:=(A23 (i+1) (p.length-(i+1))).filter λk=>decide (p[k]?=some (cL w))
noncomputable def eN (p:List Mv)(i:Nat)(w:Int):Nat:=(enL p i w++[p.length]).headD 0
theorem qNR {A:Int->Bool}{s t:List Int}{a:List Mv}(h:Run Ae R s a t):(∀x,A x=true->x∈t)->∀x,(bk Ae A a).2 x=true->x∈s:=by
 induction h with
 |nil=>exactλd x b=>d x b
 |@do_ s s' t w a h1 h2 h3 h4 h5 h6 ih=>
  intro d x b;have ih:=ih d;by_cases c:(bk Ae A a).2 w=true
  ·have e:bk Ae A (("do",w)::a)=_:=qN5 (Ae:=Ae) (w:=w) (r:=bk Ae A a) c
   rw[e] at b;dsimp only at b;rw[G7,D6,decide_eq_true_eq,decide_eq_true_eq] at b;rcases b with⟨q1,q2⟩|q
   ·rcases B4.mp (h4.mem_iff.mp (ih x q1)) with z|z
    ·exact z
    ·exact absurd (A6.mp z) q2
   ·exact h2 x q
  ·have e:bk Ae A (("do",w)::a)=bk Ae A a:=qYJ (Ae:=Ae) (w:=w) (r:=bk Ae A a) (F8.mpr c)
   rw[e] at b;rcases B4.mp (h4.mem_iff.mp (ih x b)) with z|z
   ·exact z
   ·rw[A6.mp z] at b;exact absurd b c
 |@clear s t w a h1 h2 ih=>
  intro d x b;have e:bk Ae A (("clear",w)::a)=bk Ae A a:=qLO (Ae:=Ae) (w:=w) (r:=bk Ae A a);rw[e] at b;exact(B9.mp (ih d x b)).1
noncomputable def lstB (Ae:Aa0)(B:Int->Bool):List Int:=(qAO 0 Ae.length).filter B
theorem qTA (B:Int->Bool):(lstB Ae B).Pairwise (·<·):=(qFL _ _).filter _
theorem mem_lst {B:Int->Bool}{x:Int}:x∈lstB Ae B↔(0<=x/\x<(Ae.length:Int))/\B x=true:=by
 unfold lstB;rw[B9,mem_rangeI]
theorem qPG:∀(cs s:List Int),cs.Nodup->(∀x∈cs,x∈s)->Run Ae R s (cs.map cL) (s.filter λx=>decide (x∉cs))
 |[],s,_,_=>by
  have:(s.filter λx=>decide (x∉([]:List Int)))=s:=by rw[U3];intro x _;simp
  rw[this];exact .nil
 |c::cs,s,n,h=>by
  have n':=L6.mp n;have ih:=qPG cs (s.filter λx=>decide (x≠c)) n'.2 λx hx=>B9.mpr ⟨h x (A8 _ hx),decide_eq_true λz=>n'.1 (z▸hx)⟩;refine .clear (h c E4) ?_;have:(s.filter λx=>decide (x∉c::cs))=(s.filter λx=>decide (x≠c)).filter λx=>decide (x∉cs):=by
   rw[j8];refine n6 λx _=>?_;rw[G6,D6,decide_eq_true_eq,decide_eq_true_eq,decide_eq_true_eq,B8];exact⟨λz=>⟨λy=>z (.inr y),λy=>z (.inl y)⟩,λz y=>y.elim z.2 z.1⟩
  rw[this];exact ih
theorem qbU {A:Int->Bool}(wf:WFn Ae){s t:List Int}{d:List Mv}(h:Run Ae R s d t):(∀x,A x=true->x∈t)->(∀x∈s,0<=x/\x<(Ae.length:Int))->MvOk Ae d->s.Pairwise (·<·)->Run Ae R (lstB Ae (bk Ae A d).2) (bk Ae A d).1 (lstB Ae A)/\MvOk Ae (bk Ae A d).1:=by
 induction h with
 |nil=>intro _ _ _ _;exact⟨.nil,λ_ z=>nomatch z⟩
 |@do_ s s' t w d h1 h2 h3 h4 h5 h6 ih=>
  intro o hs v up;obtain⟨_,l,p⟩:=v ("do",w) E4
  dsimp only at l p;obtain ⟨k1,k2⟩:=ih o (fun x i=>by
   rcases B4.mp (h4.mem_iff.mp i) with z|z
   ·exact hs x z
   ·rw[A6.mp z];exact⟨l,p⟩) (λm j=>v m (A8 _ j)) h5
  have q:=qNR h6 (A:=A) o;by_cases c:(bk Ae A d).2 w=true
  ·have e:bk Ae A (("do",w)::d)=_:=qN5 (Ae:=Ae) (w:=w) (r:=bk Ae A d) c
   have u:=qNR (Run.do_ h1 h2 h3 h4 h5 h6) (A:=A) o;rw[e] at u ⊢;dsimp only at u ⊢;generalize bk Ae A d=r at c k1 k2 q u;have hz:=A4 (show w.toNat<Ae.length by lia)
   have g:∀x∈nd Ae w,0<=x/\x<w:=λx i=>by
    have:=(wf _ _ hz).in_ x (by rw[<- qCI hz];exact i)
    lia
   -- the stand behind
   have f:(lstB Ae λx=>((r.2 x&&decide (x≠w))||decide (x∈nd Ae w))||decide (x=w)).Pairwise (·<·):=qTA _;have pm:(lstB Ae λx=>((r.2 x&&decide (x≠w))||decide (x∈nd Ae w))||decide (x=w)).Perm ((lstB Ae λx=>(r.2 x&&decide (x≠w))||decide (x∈nd Ae w))++[w]):=by
    refine(V8 (qET f) ?_).mpr λx=>?_
    ·rw[n5];refine⟨qET (qTA _),by simp,λa a0 b hb z=>?_⟩
     rw[A6.mp hb] at z;subst z;have:=(mem_lst.mp a0).2;simp at this;exact absurd (g a this).2 (by lia)
    ·rw[B4,A6,mem_lst,mem_lst,G7,decide_eq_true_eq]
     constructor
     ·rintro⟨b,z|z⟩
      ·exact .inl ⟨b,z⟩
      ·exact .inr z
     ·rintro(⟨b,z⟩|z)
      ·exact⟨b,.inl z⟩
      ·rw[z];exact⟨⟨l,p⟩,.inr rfl⟩
   have cl:=qPG (Ae:=Ae) (R:=R) ((nd Ae w).filter fun n=>!r.2 n) (lstB Ae fun x=>((r.2 x && decide (x ≠ w)) || decide (x ∈ nd Ae w)) || decide (x=w)) ((qET (qd0 wf w)).filter _) (fun x i=>by
    obtain⟨k,_⟩:=B9.mp i;have:=g x k;exact mem_lst.mpr ⟨by lia,by rw[decide_eq_true k];simp⟩)
   have ee:((lstB Ae λx=>((r.2 x&&decide (x≠w))||decide (x∈nd Ae w))||decide (x=w)).filter λx=>decide (x∉(nd Ae w).filter λn=>!r.2 n))=lstB Ae r.2:=by
    refine qJI (f.filter _) (qTA _) λx=>?_;rw[B9,mem_lst,mem_lst,decide_eq_true_eq,B9,G7,G7,D6,decide_eq_true_eq,decide_eq_true_eq,decide_eq_true_eq,Z7]
    constructor
    ·rintro⟨⟨b,(⟨z,_⟩|z)|z⟩,y⟩
     ·exact⟨b,z⟩
     ·refine⟨b,?_⟩;cases e:r.2 x with
      |true=>rfl
      |false=>exact absurd ⟨z,e⟩ y
     ·rw[z];exact⟨⟨l,p⟩,c⟩
    ·rintro⟨b,z⟩;refine⟨⟨b,?_⟩,λy=>by rw[z] at y;cases y.2⟩
     by_cases cw:x=w
     ·exact .inr cw
     ·exact .inl (.inl ⟨z,cw⟩)
   rw[ee] at cl;refine⟨.do_ (λz=>?_) (λy hy=>?_) ?_ pm f (cl.app k1),λm j=>?_⟩
   ·have:=(mem_lst.mp z).2;simp at this;exact absurd (g w this).2 (by lia)
   ·have:=g y hy;exact mem_lst.mpr ⟨by lia,by rw[decide_eq_true hy];simp⟩
   ·have a1:(lstB Ae λx=>(r.2 x&&decide (x≠w))||decide (x∈nd Ae w)).length<=s.length:=T8 (qET (qTA _)) λx i=>u x (mem_lst.mp i).2
    lia
   ·rcases B8.mp j with z|z
    ·rw[z];exact⟨.inl rfl,l,p⟩
    ·rcases B4.mp z with z|z
     ·obtain⟨n,hn,rfl⟩:=D9.mp z;have:=g n (B9.mp hn).1;exact⟨.inr rfl,this.1,by show n<_;lia⟩
     ·exact k2 m z
  ·have e:bk Ae A (("do",w)::d)=bk Ae A d:=qYJ (Ae:=Ae) (w:=w) (r:=bk Ae A d) (F8.mpr c)
   rw[e];exact⟨k1,k2⟩
 |@clear s t w d h1 h2 ih=>
  intro o hs v up;have e:bk Ae A (("clear",w)::d)=bk Ae A d:=qLO (Ae:=Ae) (w:=w) (r:=bk Ae A d);rw[e];exact ih o (λx i=>hs x (B9.mp i).1) (λm j=>v m (A8 _ j)) (up.filter _)
theorem qOK {A:Int->Bool}:∀ms:List Mv,(qBB (bk Ae A ms).1).length<=(qBB ms).length
 |[]=>A7 _
 |m::ms=>by
  have ih:=qOK (A:=A) ms;have e1:(qBB (m::ms)).length=(if m.1=C0 "do" then 1 else 0)+(qBB ms).length:=by
   unfold qBB;rw[F9];by_cases c:m.1=C0 "do"
   ·rw[if_pos c,if_pos c];simp;lia
   ·rw[if_neg c,if_neg c];simp
  rw[e1];show(qBB (bk1 Ae m (bk Ae A ms)).1).length<=_;unfold bk1
  split
  ·rename_i c
   rw[if_pos c.1];dsimp only;rw[X0,show m::(((nd Ae m.2).filter λn=>!(bk Ae A ms).2 n).map cL++(bk Ae A ms).1)=[m]++(((nd Ae m.2).filter λn=>!(bk Ae A ms).2 n).map cL++(bk Ae A ms).1) from rfl,qIE,qIE];have z1:∀l:List Int,qBB (l.map cL)=[]:=λl=>by
    induction l with
    |nil=>rfl
    |cons x l ih=>
     unfold qBB at ih ⊢;rw[C7,F9,if_neg (show¬(cL x).1=C0 "do" fromλz=>qAA z)]
     exact ih
   rw[z1,B7,B7];have z2:(qBB [m]).length<=1:=by unfold qBB;exact E3 (J7 _ _) (A7 _)
   simp
   lia
  ·lia
theorem qYY (f:WFn Ae){t:List Int}(h:Run Ae R [] p t)(j:MvOk Ae p)(g:∀x∈Ad,x∈t)(r:Rise (Ae.length:Int) Ad):∃t',Run Ae R [] (tdy Ae Ad p) t'/\(∀x∈Ad,x∈t')/\MvOk Ae (tdy Ae Ad p)/\(tdy Ae Ad p).length<=2*p.length/\tdy Ae Ad (tdy Ae Ad p)=tdy Ae Ad p:=by
 have b:∀x,inA Ad x=true->x∈t:=λx a=>g x (of_decide_eq_true a);obtain⟨d,k⟩:=qbU (A:=inA Ad) f h b (λx a=>nomatch a) j .nil;have c:=qNR h (A:=inA Ad) b;have i:lstB Ae (bk Ae (inA Ad) p).2=[]:=List.eq_nil_iff_forall_not_mem.mpr λx a=>by
  have:=c x (mem_lst.mp a).2;cases this
 rw[i] at d;refine⟨_,d,λx a=>mem_lst.mpr ⟨r.in_ x a,decide_eq_true a⟩,k,?_,?_⟩
 ·have e:=Run.len d A47;have m:=qOK (Ae:=Ae) (A:=inA Ad) p;have l:(qBB p).length<=p.length:=by unfold qBB;exact J7 _ _
  unfold tdy;simp at e
  lia
 ·unfold tdy;rw[qTU]
end
theorem qZA {Ae:Aa0}{Aa:Int}{t:Nat}{st:List Int}(g:WFn Ae)(h:Pt Ae Aa t st):∀x∈st,((nd Ae x).length:Int)<Aa:=by
 induction h with
 |zero=>intro x f;cases f
 |@step t st m hp hm ih=>
  have r:=hp.rise;obtain⟨⟨a,b,c⟩,d,e⟩:=due_iff.mp hm;have B:=qOT r a;intro x f;rcases a with a|a
  ·obtain⟨p,_⟩:=B.1 a;rcases B4.mp (p.mem_iff.mp f) with q|q
   ·exact ih x q
   ·rw[A6.mp q];have:=qR0 (qET (qd0 g m.2)) (d a).2.1;have:=(d a).2.2
    lia
  ·rw[B.2 a] at f;exact ih x (B9.mp f).1
theorem qXX {Ae:Aa0}{Ad ws u:List Int}{R:Int}{k:Nat}(e:WFn Ae)(N:qAE Ae Ad ws)(a:Rise (Ae.length:Int) Ad)(P:Pt Ae R k u)(h:∀x∈Ad,x∈u):qFE Ae ws Ad R:=by
 obtain⟨v,Q⟩:=prj (ws:=ws) N.1 P;obtain⟨m,_,g⟩:=Q.bits (qCQ e N.1);refine⟨m,_,g,?_⟩;rw[qHL N a];have d:=qEH N a;refine M9 λj=>?_;rw[T5,qAR Q.rise j,qAR d j];by_cases c:(j:Int)∈qBH ws Ad
 ·rw[decide_eq_true c,A42];refine decide_eq_true ?_;obtain⟨b,y,f,i⟩:=(qCJ N.1.nodup).mp c;exact(qCJ N.1.nodup).mpr ⟨b,y,f,h y i⟩
 ·rw[decide_eq_false c,W5]
theorem qaJ {Ae:Aa0}{Ad ws:List Int}{R:Int}(f:WFn Ae)(N:qAE Ae Ad ws)(d:Rise (Ae.length:Int) Ad)(h:qFE Ae ws Ad R):∃(k:Nat) (st:List Int),Pt (qBY Ae ws) R k st/\∀x∈qBH ws Ad,x∈st:=by
 obtain⟨m,b,h,g⟩:=h;obtain⟨st,t,e,p,_⟩:=h.path (qCQ f N.1);refine⟨t,st,p,λx c=>?_⟩;have a:=qEH N d;have i:=(a.in_ x c).1;have z:(b &&& qOY ws Ad).testBit x.toNat=true:=by
  rw[g,qHL N d,qAR a,show((x.toNat:Nat):Int)=x by lia]
  exact decide_eq_true c
 rw[T5,D6,e,qAR p.rise,show((x.toNat:Nat):Int)=x by lia,decide_eq_true_eq] at z
 exact z.1
theorem qeY {Ae:Aa0}{R:Int}{b:List Mv}{t:List Int}(d:MvOk Ae b)(h:Run Ae R [] b t):(∀sts,Play Ae R [] b sts .non->qPV [] sts=t)/\∀sts w0,¬Play Ae R [] b sts (.str w0):=by
 obtain⟨sts,P,e,_⟩:=h.play .nil;refine⟨λa c=>?_,λa w0 c=>?_⟩
 ·rw[(Play.one d c P).1];exact e
 ·have:=(Play.one d c P).2;cases this
structure Case64 (Ae:Aa0)(R:Int)(ms:List Mv):Prop where
 wf:WFn Ae
 l1:1<=Ae.length
 l10:Ae.length<=10
 told:Told Ae R ms
 nd:qAE Ae [(Ae.length:Int)-1] (qAO 0 (Ae.length:Int))
 lr:LeastR Ae (qAO 0 (Ae.length:Int)) [(Ae.length:Int)-1] R
def runC (Ae:Aa0)(R:Int):List Int->List Mv->List Int->Bool
 |s,[],t=>decide (s=t)
 |s,(wd,w)::ms,t=>
  if wd=C0 "do" then decide (w∉s/\(∀y∈nd Ae w,y∈s)/\(s.length:Int)<R/\(insL s w).Pairwise (·<·))&&runC Ae R (insL s w) ms t
  else decide (wd=C0 "clear"/\w∈s)&&runC Ae R (s.filter λx=>decide (x≠w)) ms t
theorem qNS {Ae:Aa0}{R:Int}:∀{ms:List Mv} {s t:List Int},runC Ae R s ms t=true->Run Ae R s ms t
 |[],s,t,h=>by
  obtain rfl:s=t:=of_decide_eq_true h;exact .nil
 |(wd,w)::ms,s,t,h=>by
  unfold runC at h
  split at h
  ·next c=>
   subst c;obtain⟨h1,h2⟩:=O0.mp h;obtain⟨a,b,c,d⟩:=of_decide_eq_true h1;exact .do_ a b c (qEM s w) d (qNS h2)
  ·obtain⟨h1,h2⟩:=O0.mp h;obtain⟨rfl,b⟩:=of_decide_eq_true h1;exact .clear b (qNS h2)
def okC (Ae:Aa0)(os:List Int)(R:Nat)(c:Nat×List Nat):Bool:=
 decide (1<=Ae.length/\Ae.length<=10/\os.length=Ae.length/\(∀i∈C3 Ae.length,(Ae.getD i []).Pairwise (·<·)/\∀x∈Ae.getD i [],0<=x/\x<(i:Int))/\((C3 (Ae.length-1)).all λx=>(C3 Ae.length).any λv=>decide (x<v/\(x:Int)∈nd Ae (v:Int)))=true/\(∀x∈os,0<=x/\x<(Ae.length:Int)))
 && (decide (peak 0 (qCH Ae [(Ae.length:Int) - 1] os)=(R:Int)/\(∀ m ∈ qCH Ae [(Ae.length:Int) - 1] os,(m.1=C0 "do"\/m.1=C0 "clear")/\0<=m.2/\m.2<(Ae.length:Int))/\(qBB (qCH Ae [(Ae.length:Int) - 1] os)).Perm (qAO 0 (Ae.length:Int))/\(qCH Ae [(Ae.length:Int) - 1] os).length<=2 * Ae.length)
 && (runC Ae R [] (qCH Ae [(Ae.length:Int) - 1] os) [(Ae.length:Int) - 1]
 && (decide ((nd Ae ((Ae.length:Int)-1)).length+1=R)||qdD Ae (qOY (qAO 0 (Ae.length:Int)) [(Ae.length:Int)-1]) R c.1 (qh3 c.2))))
theorem qJW {Ae:Aa0}{g:List Int}{R:Nat}{c:Nat×List Nat}(h:okC Ae g R c=true):Case64 Ae (R:Int) (qCH Ae [(Ae.length:Int)-1] g)/\(∀x∈g,0<=x/\x<(Ae.length:Int))/\g.length<=Ae.length:=by
 unfold okC at h;obtain⟨y,h⟩:=O0.mp h;obtain⟨h2,h⟩:=O0.mp h;obtain⟨h3,h4⟩:=O0.mp h;obtain⟨o,j,ol,w,t,u⟩:=of_decide_eq_true y;obtain⟨tp,n,s,ln⟩:=of_decide_eq_true h2;have f:WFn Ae:=λi zs e=>by
  have hi:=(A3.mp e).1;have:=w i (E2.mpr hi);rw[O1,e] at this;exact⟨this.1,this.2⟩
 have N:=qOU f o λx p=>by
  obtain⟨v,hv,z⟩:=X2.mp (F5.mp t x (E2.mpr (by lia)))
  obtain⟨a,b⟩:=of_decide_eq_true z;exact⟨v,a,E2.mp hv,b⟩
 have T:Told Ae (R:Int) (qCH Ae [(Ae.length:Int)-1] g):=⟨qNS h3,tp,n,s,ln⟩;refine⟨⟨f,o,j,T,N,?_⟩,u,by lia⟩
 have q:=qZL f;rcases Bool.or_eq_true_iff.mp h4 with h4|h4
 ·have e:(nd Ae ((Ae.length:Int)-1)).length+1=R:=of_decide_eq_true h4;have l:Rise (Ae.length:Int) [(Ae.length:Int)-1]:=⟨M8 _ _,λx p=>by rw[A6.mp p];lia⟩
  refine⟨by lia,qXX f N l (qVV T.run (λm r=>(n m r).2) .zero) (λ_ h=>h),λr' r1 r2 d=>?_⟩
  obtain⟨k,st,P,hs⟩:=qaJ f N l d;rw[q] at P;have:=qZA f P ((Ae.length:Int)-1) (hs _ ((qCJ N.1.nodup).mpr ⟨by lia,_,by rw[qDR (by lia)],A6.mpr (by lia)⟩))
  lia
 ·exact qUX q h4
def hw64L:List (Nat×Nat):=[(1,1),(1,8),(2,2),(2,3),(2,5),(3,3),(3,2),(5,2),(9,1),(4,2)]
theorem qbA:∀q∈hw64L,1<=q.1/\1<=q.2/\q.1<=9/\q.2<=9/\q.1*q.2<=10:=by decide
def hw64Z:List (Int×Int):=[(1,1),(1,8),(2,2),(2,3),(2,5),(3,3),(3,2),(5,2),(9,1),(4,2)]
theorem qa0 {q:Int×Int}(h:q∈hw64Z):∃p:Nat×Nat,q=((p.1:Int),(p.2:Int))/\p∈hw64L:=by
 have e:hw64Z=hw64L.map λp=>((p.1:Int),(p.2:Int)):=by decide
 rw[e] at h;obtain⟨p,a,e⟩:=D9.mp h;exact⟨p,e.symm,a⟩
def ifB:Stmt->List Stmt
 |.If _ b _ _=>b
 |_=>[]
def stC4:List (Nat×List Nat):=[(0,[]),(0,[]),(0x7f7fff,[0,1,2,3,16,4,17,18,5,19,20]),(0x1170000177f0000177f177f7fff000000000000177f0117177f177f7fff0000177f177f7fff177f7fff7fffffff,[0,1,2,3,4,16,5,17,6,18,19,7,20,8,21,22,9,23,24])]
theorem qeR:((C3 10).all λi=>(C3 9).all λj=>okC (rowN (i+1) (j+1)) (qAO 0 ((i+1:Nat):Int)) (min i (j+1)+1) (0,[]))=true:=by decide +kernel
theorem qTQ {n b:Nat}(d:1<=n)(e:n<=10)(c:1<=b)(a:b<=9):Case64 (rowN n b) (((min (n-1) b:Nat):Int)+1) (qCH (rowN n b) [((n:Int)-1)] (qAO 0 (n:Int))):=by
 have h:=F5.mp qeR (n-1) (E2.mpr (by lia))
 have h:=F5.mp h (b-1) (E2.mpr (by lia))
 rw[show n-1+1=n by lia,show b-1+1=b by lia] at h
 have:=(qJW h).1;rw[qNT] at this;exact this
theorem qeJ:(hw64L.all λq=>okC (sqN q.1 q.2) (qNF q.1 q.2) (qR1 q.1 q.2+1) (0x10103000000000003037f000001030103177f0013037f077f7fff,[0,1,2,3,16,4,17,5,18,6,19,7,20,22,8,21,23]))=true:=by decide +kernel
theorem qYA {q:Nat×Nat}(h:q∈hw64L):Case64 (sqN q.1 q.2) ((qR1 q.1 q.2:Int)+1) (qCH (sqN q.1 q.2) [((q.1*q.2:Nat):Int)-1] (qNF q.1 q.2)):=by
 have:=(qJW (F5.mp qeJ q h)).1;rw[qKC] at this;exact this
theorem qc4 (q:Nat×Nat)(h:q∈hw64L):(∀x∈qNF q.1 q.2,0<=x/\x<((q.1*q.2:Nat):Int))/\(qNF q.1 q.2).length<=q.1*q.2:=by
 have:=(qJW (F5.mp qeJ q h)).2;rw[qKC] at this;exact this
theorem qgO:((C3 4).all λi=>okC (stN (i+1)) (qAO 0 ((off (i+1) (i+1):Nat):Int)) ((if i=0 then 0 else i+1)+1) (stC4.getD i (0,[])))=true:=by decide +kernel
theorem qY9 {n:Nat}(b:1<=n)(a:n<=4):Case64 (stN n) (((if n=1 then 0 else n:Nat):Int)+1) (qCH (stN n) [((off n n:Nat):Int)-1] (qAO 0 ((off n n:Nat):Int))):=by
 have h:=F5.mp qgO (n-1) (E2.mpr (by lia))
 rw[show n-1+1=n by lia] at h
 have:=(qJW h).1;rw[qKB] at this;have e:(if n-1=0 then 0 else n)=(if n=1 then 0 else n):=by split<;>split<;>lia
 rw[e] at this;exact this
theorem qeS:∀n:Nat,n<10->rowN n 1=sqN 1 n:=by decide +kernel
theorem qZ2 {Ae:Aa0}{R:Int}{s t:List Int}{a:List Mv}(h:Run Ae R s a t){x:Int}:x∈qBB a->∃m1 m2 u,a=m1++m2/\Run Ae R s m1 u/\x∈u:=by
 induction h with
 |nil=>intro z;cases z
 |@do_ s s' t w a h1 h2 h3 h4 h5 h6 ih=>
  intro d;by_cases c:x=w
  ·exact⟨[("do",w)],a,s',rfl,.do_ h1 h2 h3 h4 h5 .nil,h4.mem_iff.mpr (by rw[c];simp)⟩
  ·have b:x∈qBB a:=by
    have:qBB (("do",w)::a)=w::qBB a:=rfl
    rw[this] at d;exact(B8.mp d).resolve_left c
   obtain⟨m1,m2,u,e,r,f⟩:=ih b;exact⟨("do",w)::m1,m2,u,by rw[e];rfl,.do_ h1 h2 h3 h4 h5 r,f⟩
 |@clear s t w a h1 h2 ih=>
  intro d;have b:x∈qBB a:=d;obtain⟨m1,m2,u,e,r,f⟩:=ih b;exact⟨("clear",w)::m1,m2,u,by rw[e];rfl,.clear h1 r,f⟩
theorem qfU {Ae:Aa0}{R:Int}{c:List Mv}(C:Case64 Ae R c){x:Int}(f:0<=x)(d:x<(Ae.length:Int)){ws:List Int}{r:Int}(N:qAE Ae [x] ws)(L:LeastR Ae ws [x] r):r<=R:=by
 have l:=C.lr.1;apply O6;intro z;refine L.2.2 R l (by lia) ?_
 have g:x∈qBB c:=C.told.once.mem_iff.mpr (mem_rangeI.mpr ⟨f,d⟩);obtain⟨i,n,u,e,run,j⟩:=qZ2 C.told.run g;have k:MvOk Ae i:=λm a=>C.told.ok m (by rw[e];exact R9 _ a)
 have h:Rise (Ae.length:Int) [x]:=⟨M8 _ _,λy b=>by rw[A6.mp b];exact⟨f,d⟩⟩
 have P:=qVV run (λm a=>(k m a).2) .zero;exact qXX C.wf N h P λy b=>by rw[A6.mp b];exact j
theorem qcX {Ae:Aa0}{R:Int}{a:List Mv}(C:Case64 Ae R a)(h:1<R):¬qFE Ae (qAO 0 (Ae.length:Int)) [(Ae.length:Int)-1] (R-1):=C.lr.2.2 (R-1) (by lia) (by lia)
theorem qaD (a:List Mv):(a.filter isDo).length=(qBB a).length:=by
 induction a with
 |nil=>rfl
 |cons m a ih=>
  have b:(qBB (m::a)).length=(if m.1=C0 "do" then 1 else 0)+(qBB a).length:=by
   unfold qBB;rw[F9]
   split<;>simp_all<;>lia
  rw[b,<- ih,K8];by_cases c:m.1=C0 "do"
  ·rw[if_pos c,if_pos (show isDo m=true from decide_eq_true c),C5];lia
  ·rw[if_neg c,if_neg (show¬isDo m=true fromλz=>c (of_decide_eq_true z))];lia
theorem qS1 (a:List Mv):doN a=((qBB a).length:Int):=by unfold doN;rw[qaD]
theorem qaK {Ae:Aa0}{R:Int}{a:List Mv}(C:Case64 Ae R a):doN a=(Ae.length:Int):=by
 rw[qS1,C.told.once.length_eq,qH6]
theorem qZ4 {Ae:Aa0}{R R':Int}{s t:List Int}{a:List Mv}(h:Run Ae R s a t)(b:R<=R'):Run Ae R' s a t:=by
 induction h with
 |nil=>exact .nil
 |do_ h1 h2 h3 h4 h5 _ ih=>exact .do_ h1 h2 (by lia) h4 h5 ih
 |clear h1 _ ih=>exact .clear h1 ih
theorem qZ5 {Ae:Aa0}{R:Int}{b:List Mv}(C:Case64 Ae R b):R<=(Ae.length:Int):=by
 have l1:=C.l1;have a:Rise (Ae.length:Int) [(Ae.length:Int)-1]:=⟨M8 _ _,λx c=>by rw[A6.mp c];lia⟩
 have:=LeastR.le C.wf C.nd a (A7 _) C.lr
 rwa[qH6] at this
theorem qYU {n:Nat}(h:1<=n):qBH (qAO 0 (n:Int)) [(n:Int)-1]≠[]:=λe=>by
 have a:(qAO 0 (n:Int))[n-1]?=some ((n:Int)-1):=by
  rw[qDR (by lia)]
  congr 1
  lia
 unfold qBH at e;rw[F9,qDG (qH5 (hi:=(n:Int)) (K7 0)).nodup a] at e;cases e
def qSP:Sp:=λvs H Q _=>∃d c t ns,vs=[.ref d]/\StAt H d c t ns/\t<=TB-100/\∀(T a l:Addr) (Ae:Aa0) (R:Int) (ms:List Mv) (t':Int) (ns':List Int) H',StAt H' d c t' ns'->t<=t'->t'<=t+10->Keep d c H H'->H' T=some (.tup [.ref a,.int R,.ref l])->NetAt H' a Ae->PlanAt H' l ms->l≠c->Case64 Ae R ms->Q (.ref T) H'
def qP7 (Pt:Addr):Sp:=λvs H Q _=>∃d c t ns,vs=[.ref d]/\StAt H d c t ns/\t<=TB-100/\TabB H Pt/\∀(t':Int) (ns':List Int) H',StAt H' d c t' ns'->t<=t'->t'<=t+20->Keep d c H H'->Q (.bl true) H'
def qMJ:Sp:=λvs H Q _=>∃n b:Nat,vs=[.int n,.int b]/\1<=n/\n<=10/\1<=b/\b<=9/\∀l H',Same H H'->H l=none->PlanAt H' l (qCH (rowN n b) [((n:Int)-1)] (qAO 0 (n:Int)))->Q (.ref l) H'
def qP5:Sp:=λvs H Q _=>∃n:Nat,vs=[.int n]/\1<=n/\n<=4/\∀l H',Same H H'->H l=none->PlanAt H' l (qCH (stN n) [((off n n:Nat):Int)-1] (qAO 0 ((off n n:Nat):Int)))->Q (.ref l) H'
def qMI:Sp:=λvs H Q _=>∃n m:Nat,vs=[.int n,.int m]/\(n,m)∈hw64L/\∀l H',Same H H'->H l=none->PlanAt H' l (qCH (sqN n m) [((n*m:Nat):Int)-1] (qNF n m))->Q (.ref l) H'
section
variable{P:B13}{w:World}{K:Ab1}{mg:Ab0}{base:Heap}{f:Addr}{fd:B22}{qFV qF9 qGR qFX qEB qAM qGQ qC2 Pt cc qCC qER qCZ qC5 qDN qLI qHI qJ0 qF8 qIZ qFZ qLJ qDW qAW qBW qEF qIX qFU qLK qEQ qCB qEP qF6 qCY qFT qIY qF4 qHH qRZ qOF qXS qFW qIW qF7 qF5 qOE qOH qOG:Addr}{qOA qM9 qLG qIV qFR qLF qDV qDJ qHG qFS qEO qLH qUZ qQA qRY qJA qRX qOC qV0 qJP qH0 qD6 qLE qRV qO9 qOD qGP qDI qHF qJ9 qFQ qO8 qRW qM6 qQ9 qaE qXP qdJ qIU qRU qM8 qM7 qXO qXR qXQ:B22}
theorem sc_Lbegin:FnScope ["_law_script","_law_cells"] ["_law_script"] (qA7 qJV):=qB2
theorem ok_Lbegin (F:Fun K "_law_begin" "_law_begin" qJV f fd) (a0:mg "list" = none):FnOk P w K mg base CX0 1 f fd ["_law_script"] (qVS K):=by
 refine F.okA sc_Lbegin λa1 A v s H vs Q E hr h=>?_;obtain⟨a,n,rfl,hS,o,q⟩:=h;have hu:=qI4 hr;have u:=hr.units0;refine⟨_,(qA3 (qAF (i:=1) sc_Lbegin.nd rfl (E9 rfl) (qB0 qQH rfl a0 qOR (qA0 (qZG qc6 (pv 0) qcK (qcJ qA8)) qA2))) (qA3 (qC8 (qAS (qWK u) (pv 1) (qFN qA2) (qB4 _)) (qA5 (qAF (i:=1) sc_Lbegin.nd rfl (E9 rfl) (qFN (qA0 qA8 qA2)))) qAN) (qA5 (qAC (qcP (qSY qC0 (pv 1) (qSY qC0 qA8 qcI)) rfl rfl (by simp) (by decide)))))),?_⟩
 try dsimp only[Cx.nox,Cx.wish,cxOf]
 refine⟨_,rfl,_,rfl,a,_,rfl,hS,λp hp=>?_⟩;rw[qaM];have hl:(cutI n none (some 63)).length<=63:=E3 (qaN _ _ _) o;refine⟨p,_,rfl,.inl (Ab2 qA1),λc t=>?_⟩;have s1:Same H (Ag (Ag H p (.lst ((cutI n none (some 63)).map V.int))) c (.lst ((cutI n none (some 63)).map V.int))):=(qA4 hp _).trans (qA4 t _);refine⟨_,rfl,(by show 0<=B12;decide),λe m=>?_⟩
 have l:c≠e:=qA6 qA1 m;refine⟨c,e,_,rfl,rfl,Ab2 (by rw[qA9 l];exact qA1),Ab2 qA1,_,rfl,?_⟩
 have j:=s1.trans (qA4 m (.lst []));cases hm:cutI n none (some 63) with
 |nil=>
  rw[hm] at j m;refine iteT ?_;refine⟨(by show 1<=B12;decide),λy k=>?_⟩
  have z:=j.trans (qA4 k (.lst [.int 7]));intro d g;refine⟨_,rfl,?_⟩;have s4:=z.trans (qA4 g (.dK []));refine⟨qA1,[(K9 (C0 "cells"),.ref y),(K9 (C0 "turn"),.int 0)],rfl,(by show 2<=15;decide),?_⟩
  have b:y≠d:=qA6 qA1 g;refine q d y [7] _ ⟨?_,?_,by decide,by decide,by decide⟩ ?_ ?_ ?_
  ·rw[qA1,qb5]
  ·rw[qA9 b,qA9 b];exact qA1
  ·rw[qNB];exact z.trans (qA4 g _)
  ·exact z.free g
  ·exact j.free k
 |cons x r=>
  rw[hm] at j m hl;refine iteF ?_;intro d g;refine⟨_,rfl,?_⟩;refine⟨qA1,[(K9 (C0 "cells"),.ref c),(K9 (C0 "turn"),.int 0)],rfl,(by show 2<=15;decide),?_⟩
  have gc:(Ag (Ag (Ag H p (.lst ((x::r).map V.int))) c (.lst ((x::r).map V.int))) e (.lst [])) c=some (.lst ((x::r).map V.int)):=by rw[qA9 l];exact qA1
  have b:c≠d:=qA6 gc g;refine q d c (x::r) _ ⟨?_,?_,by simp,hl,by decide⟩ ?_ ?_ ?_
  ·rw[qA1,qb5]
  ·rw[qA9 b,qA9 b];exact gc
  ·rw[qNB];exact j.trans (qA4 g _)
  ·exact j.free g
  ·rw[hm] at t;exact(qA4 hp _).free t
theorem sc_Ltake:FnScope ["_law_state","_law_many","_law_turn","_law_place","_law_cell","_law_digit","_law_mixed"] ["_law_state","_law_many"] (qA7 qNQ):=qB2
theorem ok_Ltake (F:Fun K "_law_take" "_law_take" qNQ f fd) (qCD:mg "len" = none) (a1:mg "divmod" = none):FnOk P w K mg base CX0 1 f fd ["_law_state","_law_many"] qSH:=by
 refine F.okA sc_Ltake λa7 A a0 s H vs Q E hr h=>?_;obtain⟨d,c,t,g,m,rfl,S,ht,a3,a4,q⟩:=h;have r:=qI4 hr;refine⟨_,(qA3 (qAF (i:=2) sc_Ltake.nd rfl (E9 rfl) (qAU qCA (qBU r (pv 0) qC0 (λ_ _=>rfl)) qA8)) (qA3 (qCG r (pv 0) qC0 (pv 2) rfl) (qA3 (qAF (i:=3) sc_Ltake.nd rfl (E9 rfl) (qAU qKS (pv 2) (qAG qAH rfl qCD qCM (qA0 (qBU r (pv 0) qC0 (λ_ _=>rfl)) qA2)))) (qA3 (qAF (i:=4) sc_Ltake.nd rfl (E9 rfl) (qBT qL4 (qBU r (pv 0) qC0 (λ_ _=>rfl)) (pv 3) (λ_ _=>rfl))) (qA3 (qC8 (qAS qfB (pv 4) (qAU qfA qA8 qA8) (qB4 _)) (qA3 (qW0 (qAG qS8 rfl a1 qYH (qA0 (pv 4) (qA0 (pv 1) qA2))) (qKO rfl (qBP (qf3 (qBU r (pv 0) qC0 (λ_ _=>rfl)) (pv 3) qZ1) (qBP (qAJ (i:=5) sc_Ltake.nd rfl (E9 rfl)) qH8)))) (qA5 (qAC (pv 5)))) qAN) (qA3 (qAF (i:=6) sc_Ltake.nd rfl (E9 rfl) (qAU qKS (qAU qEK (qAU qCA (qAU qCA (qAU qKS (pv 4) qA8) (qAU qEK (qAU qEK (pv 2) (pv 2)) qA8)) qA8) qA8) qA8)) (qA3 (qAF (i:=6) sc_Ltake.nd rfl (E9 rfl) (qAU qKS (qAU qEK (pv 6) (pv 6)) qA8)) (qA5 (qAC (qAU qKS (qAU qWJ (qAU qKS (qAU qEK (qAU qCA (pv 6) (qAU qEK (pv 2) qA8)) qA8) qA8) qA8) (pv 1))))))))))),?_⟩
 try dsimp only[Cx.nox,Cx.wish,cxOf]
 have a2:=S.pos;have a5:=S.ne;have a8:t<=1000000000:=ht;refine⟨_,rfl,d,_,rfl,qdO S,_,_,rfl,rfl,?_⟩;refine⟨_,rfl,_,rfl,d,_,rfl,qdN S,?_⟩;have l:=S.turn (u:=t+1) (by lia)
 have k1:Keep d c H (Ag H d (.dK [(K9 (C0 "cells"),.ref c),(K9 (C0 "turn"),.int (t+1))])):=λb o e n _=>by rw[qA9 n];exact e
 generalize Ag H d (.dK [(K9 (C0 "cells"),.ref c),(K9 (C0 "turn"),.int (t+1))])=H1 at l k1;have k:(((g.map V.int).length:Nat):Int)=(g.length:Int):=by rw[A0]
 refine⟨_,rfl,_,rfl,d,_,rfl,qOL l,c,_,rfl,.inl (Ab2 l.list),_,_,rfl,rfl,(by rw[k];lia),?_⟩
 have p0:0<=(t+1)%(((g.map V.int).length:Nat):Int):=V5 _ (by rw[k];lia)
 have p1:(t+1)%(((g.map V.int).length:Nat):Int)<(g.length:Int):=by
  have:=R6 (t+1) (b:=(((g.map V.int).length:Nat):Int)) (by rw[k];lia)
  rw[k] at this ⊢;exact this
 dsimp only;generalize (t+1)%(((g.map V.int).length:Nat):Int)=pl at p0 p1;obtain⟨j,rfl⟩:∃j:Nat,pl=(j:Int):=⟨pl.toNat,by lia⟩
 have hj:j<g.length:=by lia
 have v:atI (g.map V.int) (j:Int)=some (.int g[j]):=qYK (by rw[B6,A4 hj];rfl)
 refine⟨_,rfl,d,_,rfl,qOL l,_,rfl,c,_,_,_,rfl,rfl,Ab2 l.list,v,?_⟩;generalize hx:g[j]=x at v ⊢;refine⟨_,rfl,_,_,rfl,rfl,⟨by decide,by decide,by decide⟩,_,_,rfl,rfl,_,rfl,?_⟩
 refine ite2 (λ_=>?_) (λ_=>?_)
 ·-- a great cell
  refine⟨_,rfl,_,rfl,x,m,rfl,⟨by lia,by lia⟩,λp hp=>?_⟩
  have S2:=l.new hp (.tup [.int (x/m),.int (x%m)]);have a6:p≠c:=(qA6 l.list hp).symm;refine⟨p,_,rfl,Ac0 qA1,rfl,_,_,rfl,?_⟩;refine⟨_,rfl,d,_,rfl,qOL S2,_,rfl,c,_,_,j,rfl,rfl,S2.list,qd8 (by rw[A0];exact hj),?_⟩
  refine⟨_,_,rfl,rfl,?_⟩;refine⟨_,rfl,?_⟩;have e1:(g.map V.int).set j (.int (x/m))=(g.set j (x/m)).map V.int:=by rw[List.map_set]
  rw[e1];refine q (x%m) (g.set j (x/m)) _ (V5 _ (by lia)) (R6 _ (by lia)) (S2.put (by rw[A75])) ?_
  have k2:=k1.trans (qZX (d:=d) (c:=c) hp (.tup [.int (x/m),.int (x%m)]));exactλb o e n1 n2=>by rw[qA9 n2];exact k2 b o e n1 n2
 ·have b1:0<=x%2147483629:=V5 _ (by decide)
  have b2:x%2147483629<2147483629:=R6 _ (by decide)
  refine⟨_,rfl,_,_,rfl,rfl,(by show(0:Int)<2147483629;decide),_,rfl,_,rfl,_,_,rfl,rfl,.inl ⟨by lia,by lia⟩,_,_,rfl,rfl,.inr ⟨by decide,by decide⟩,_,_,rfl,rfl,_,_,rfl,rfl,_,_,rfl,rfl,.inr ⟨by decide,by decide⟩,_,_,rfl,rfl,(by show(0:Int)<2147483647;decide),?_⟩
  have c1:=V5 ((x%2147483629+(t+1)*(t+1)*7919+11)*48271) (b:=2147483647) (by decide)
  have c2:=R6 ((x%2147483629+(t+1)*(t+1)*7919+11)*48271) (b:=2147483647) (by decide)
  dsimp only;generalize ((x%2147483629+(t+1)*(t+1)*7919+11)*48271)%2147483647=y at c1 c2;refine⟨_,rfl,_,rfl,_,_,rfl,rfl,.inl ⟨by lia,by lia⟩,_,_,rfl,rfl,(by show(0:Int)<2147483587;decide),?_⟩
  dsimp only;generalize y*y%2147483587=z;refine⟨_,rfl,_,rfl,_,_,rfl,rfl,.inr ⟨by decide,by decide⟩,_,_,rfl,rfl,_,_,rfl,rfl,.inr ⟨by decide,by decide⟩,_,_,rfl,rfl,(by show(0:Int)<2147483629;decide),_,_,rfl,rfl,⟨by decide,by decide⟩,_,rfl,_,_,rfl,rfl,(by lia),?_⟩
  exact q _ g _ (V5 _ (by lia)) (R6 _ (by lia)) l k1
theorem sc_all_needed:FnScope ["net","asked","wanted","work","need"] ["net","asked"] (qA7 qE7):=qB2
theorem ok_all_needed (F:Fun K "all_needed" "all_needed" qE7 f fd) (qBG:mg "range" = none) (qCD:mg "len" = none) (aj:mg "sorted" = none):FnOk P w K mg base CX0 1 f fd ["net","asked"] qPB:=by
 refine F.okA sc_all_needed λas A ah s H vs Q E hr h=>?_;obtain⟨a,t,c,Ad,rfl,hN,wf,ai,hT,aa,q⟩:=h;have hu:=qI4 hr;refine⟨_,(qA3 (qAF (i:=2) sc_all_needed.nd rfl (E9 rfl) qEA) (qA3 (qB9 D4 rfl (qE9 (pv 1)) (qAJ (i:=3) sc_all_needed.nd rfl (E9 rfl)) (qA5 (qCG hu (pv 2) (pv 3) qEJ rfl))) (qA3 (qB9 D4 rfl (qW8 rfl qBG (qA0 (qAU qFD (qAG qAH rfl qCD qCM (qA0 (pv 0) qA2)) qA8) (qA0 (qZF qSD qA8) (qA0 (qZF qSD qA8) qA2)))) (qAJ (i:=3) sc_all_needed.nd rfl (E9 rfl)) (qA5 (qC8 (qE8 (qPJ hu (pv 3) (pv 2))) (qA5 (qB9 D4 rfl (qE9 (qBT qBK (pv 0) (pv 3) (λ_ _=>rfl))) (qAJ (i:=4) sc_all_needed.nd rfl (E9 rfl)) (qA5 (qCG hu (pv 2) (pv 4) qEJ rfl)))) qAN))) (qA5 (qAC (qAG (qQF rfl) rfl aj qLN (qA0 (pv 2) qA2))))))),?_⟩
 try dsimp only[Cx.nox,Cx.wish,cxOf]
 obtain⟨rs,hA,NL⟩:=id hN;have a0:(((rs.map V.ref).length:Nat):Int)=(c.length:Int):=by rw[A0,C6 NL]
 refineλu a3=>?_;have sn:=qA4 a3 (.dK []);refine⟨_,rfl,t,rfl,⟨_,Ac0 (sn _ _ hT)⟩,qHE (a:=t) (xs:=Ad.map V.int) (λj σ Hf=>∃(Af:List (Key×V)) (ks:List Int) (v3 v4:Option V),σ=[some (.ref a),some (.ref t),some (.ref u),v3,v4]/\Same H Hf/\Hf u=some (.dK Af)/\KeysI Af ks/\∀x,x∈ks↔x∈Ad.take j)
  ⟨[],[],none,none,rfl,sn,qA1,KeysI.nil,λx=>by simp⟩ (λj σ Hf _ hP=>by obtain⟨_,_,_,_,_,d,_⟩:=hP;exact Ac0 (d _ _ hT)) ?_ ?_⟩
 ·refineλj x σ Hf hx ab=>opq λar ae=>?_;obtain⟨Af,ks,v3,v4,rfl,d,hd,g,mk⟩:=ab;obtain⟨y,ey,rfl⟩:=qAY hx;refine ae ?_;have lk:ks.length<=c.length:=qWR g.nd λx hx=>aa x (P4 ((mk x).mp hx));refine⟨_,rfl,_,rfl,u,_,rfl,DPut.k (k:=E8 y) hd (qAQ (by rw[g.len];lia)),?_⟩
  refine⟨_,_,_,_,rfl,qAB d a3,qA1,g.put y _,λx=>?_⟩;rw[mem_addI,mk,C9,ey,D0,B4,A6]
 refineλσ Hf ad=>opq λak a8=>?_;obtain⟨Af,ks,v3,v4,rfl,d,hd,g,mk⟩:=ad;refine a8 ?_;rw[A0,qBS rfl] at mk;refine⟨_,rfl,a,_,rfl,.inr (Ac0 (d _ _ hA)),_,_,rfl,rfl,_,rfl,_,rfl,_,_,rfl,⟨by rw[a0];lia,by rw[a0];lia,by decide,by decide⟩,qTH (lo:=(((rs.map V.ref).length:Nat):Int)-1) (n:=((((rs.map V.ref).length:Nat):Int)-1 - -1).toNat) (λi σ Hc=>∃(Af:List (Key×V)) (ks:List Int) (v3 v4:Option V),σ=[some (.ref a),some (.ref t),some (.ref u),v3,v4]/\Same H Hc/\Hc u=some (.dK Af)/\KeysI Af ks/\Fnd c Ad ks ((c.length:Int)-i))
  ⟨Af,ks,v3,v4,rfl,d,hd,g,⟨λx hx=>⟨aa x ((mk x).mp hx),.ask ((mk x).mp hx)⟩,λx hx=>(mk x).mpr hx,λw zs h1 h2 h3=>?_⟩⟩ ?_ ?_⟩
 ·have:=(A3.mp h3).1
  lia
 ·refineλi σ Hc hi a7=>opq λal a9=>?_;obtain⟨Af,ks,v3,v4,rfl,d,hd,g,v⟩:=a7;refine a9 ?_;rw[a0] at hi ⊢;have aq:i<c.length:=by lia
  obtain⟨m,ew⟩:∃m:Nat,(c.length:Int)-1-i=(m:Int):=⟨c.length-1-i,by lia⟩
  have hw:m<c.length:=by lia
  rw[ew];obtain⟨r,h3,h4⟩:=NL.get (A4 hw);have hz:=A4 hw;have rz:=wf m _ hz;generalize c[m]=zs at h4 hz rz;refine⟨_,rfl,_,rfl,u,_,rfl,DGet.k (k:=E8 (m:Int)) hd,_,rfl,?_⟩;rw[g.has];by_cases mw:(m:Int)∈ks
  ·rw[decide_eq_true mw];refine⟨_,rfl,_,rfl,a,_,_,_,rfl,rfl,Ac0 (d _ _ hA),qGZ (by lia) (by rw[D7,B6,h3];rfl),r,rfl,⟨_,Ac0 (d _ _ h4)⟩,qHE (a:=r) (xs:=zs.map V.int) (λk σ Hd=>∃(Af:List (Key×V)) (ks:List Int) (v4:Option V),σ=[some (.ref a),some (.ref t),some (.ref u),some (.int (m:Int)),v4]/\Same H Hd/\Hd u=some (.dK Af)/\KeysI Af ks/\Fnd c Ad ks ((m:Int)+1)/\(m:Int)∈ks/\∀y∈zs.take k,y∈ks)
    ⟨Af,ks,v4,rfl,d,hd,g,by rw[show(m:Int)+1=(c.length:Int)-i by lia];exact v,mw,λy hy=>by simp at hy⟩ (λk σ Hd _ hP=>by obtain⟨_,_,_,_,o,_⟩:=hP;exact Ac0 (o _ _ h4)) ?_ ?_⟩
   ·refineλk x σ Hd hx a6=>opq λam ac=>?_;obtain⟨Af,ks,v4,rfl,o,a2,p,b,a1,ty⟩:=a6;obtain⟨y,ey,rfl⟩:=qAY hx;refine ac ?_;have my:=A9 ey;have yb:=rz.in_ y my;have lk:ks.length<=c.length:=qWR p.nd λx hx=>(b.in_ x hx).1;refine⟨_,rfl,_,rfl,u,_,rfl,DPut.k (k:=E8 y) a2 (qAQ (by rw[p.len];lia)),?_⟩
    refine⟨_,_,_,rfl,qAB o a3,qA1,p.put y _,⟨λx hx=>?_,λx hx=>mem_addI.mpr (.inl (b.ask x hx)),λw1 ys h1 h2 h3 z hz'=>?_⟩,mem_addI.mpr (.inl a1),λz hz'=>?_⟩
    ·rcases mem_addI.mp hx with hx|hx
     ·exact b.in_ x hx
     ·rw[hx];exact⟨⟨yb.1,by lia⟩,.need (b.in_ _ a1).2 (by rw[D7];exact hz) my⟩
    ·rcases mem_addI.mp h2 with h2|h2
     ·exact mem_addI.mpr (.inl (b.clo w1 ys h1 h2 h3 z hz'))
     ·lia
    ·rw[C9,ey,D0,B4,A6] at hz';rcases hz' with hz'|hz'
     ·exact mem_addI.mpr (.inl (ty z hz'))
     ·exact mem_addI.mpr (.inr hz')
   ·refineλσ Hd af=>opq λan a4=>?_;obtain⟨Af,ks,v4,rfl,o,a2,p,b,a1,ty⟩:=af;refine a4 ?_;rw[A0,qBS rfl] at ty;refine⟨Af,ks,_,_,rfl,o,a2,p,b.in_,b.ask,λw1 ys h1 h2 h9=>?_⟩;by_cases e:w1=m
    ·subst e;rw[hz] at h9;cases h9;exact ty
    ·exact b.clo w1 ys (by lia) h2 h9
  ·rw[decide_eq_false mw];refine⟨Af,ks,_,_,rfl,d,hd,g,v.in_,v.ask,λw1 ys h1 h2 h3=>?_⟩;by_cases e:w1=m
   ·subst e;exact absurd h2 mw
   ·exact v.clo w1 ys (by lia) h2 h3
 ·refineλσ Hc ag=>opq λao a5=>?_;obtain⟨Af,ks,v3,v4,rfl,d,hd,g,v⟩:=ag;refine a5 ?_;rw[a0,show((c.length:Int)-(((c.length:Int)-1 - -1).toNat:Nat))=0 by lia] at v
  have ap:ks.length<=c.length:=qWR g.nd λx hx=>(v.in_ x hx).1;refine⟨_,rfl,u,ks,Af,rfl,hd,g.keys,by lia,λl zs hl hp hs=>?_⟩
  have s1:=qA4 hl (.lst (zs.map V.int));refine q l zs _ (d.trans s1) (d.free hl) qA1 ⟨⟨qJ6 hs (hp.nodup_iff.mpr g.nd),λx hx=>(v.in_ x (hp.mem_iff.mp hx)).1⟩,λx=>?_⟩;rw[hp.mem_iff];exact v.all wf x
theorem qNO:FnScope ["needs","numbers"] ["needs","numbers"] (qA7 qE3):=qB2
theorem ok_renumbered (F:Fun K "renumbered" "renumbered" qE3 f fd) (u:mg "tuple" = none):FnOk P w K mg base CX0 1 f fd ["needs","numbers"] qeK:=by
 refine F.okA qNO λa4 A z s H vs Q E hr h=>?_;obtain⟨r,d,v,Af,c,rfl,hR,a1,hd,hv,q⟩:=h;have hu:=qI4 hr;refine⟨_,(qA5 (qAC (qB0 qBC rfl u qBX (qA0 (qGX rfl (lcs (own:=["need"]) (fv:=[1]) (by kernel_rfl)) (qE9 (pv 0)) (λz1=>qDS 0) (λz1=>(qH7 (qE8 (qPJ hu (pv 0) (pv 1))))) (λz1=>(qBU hu (pv 1) (pv 0) (λ_ _=>rfl)))) qA2)))),?_⟩
 try dsimp only[Cx.nox,Cx.wish,cxOf]
 refine⟨_,rfl,r,rfl,⟨_,Ac0 hR⟩,λp hp=>?_⟩;refine qJ7 (p:=p) (a:=r) (xs:=v.map V.int) (λi σ j=>∃(v0:Option V),σ=[v0,some (.ref d)]/\Same H j/\j p=some (.lst (((v.take i).filterMap c).map V.int))) ?_ ?_ ?_ ?_
 ·exact⟨none,rfl,qA4 hp _,qA1⟩
 ·rintro i σ j hi ⟨v0,rfl,sm,_⟩;exact Ac0 (sm _ _ hR)
 ·refineλi x σ j hx m=>opq λa2 t=>?_;obtain⟨v0,rfl,sm,b⟩:=m;obtain⟨y,ey,rfl⟩:=qAY hx;refine t ?_;have lt:=(A3.mp ey).1;have o:=DGet.k (k:=E8 y) (sm _ _ hd);have lk:((v.take i).filterMap c).length<=i:=E3 (J7 _ _) (by rw[D8];lia)
  refine⟨_,rfl,_,rfl,d,_,rfl,o,_,rfl,?_⟩;rw[C9,ey,D0,V4,F9,List.filterMap_nil];rw[hv] at o ⊢;cases e:c y with
  |none=>
   rw[e] at o;refine⟨_,rfl,sm,?_⟩;simpa using b
  |some n=>
   rw[e] at o;refine⟨_,rfl,_,rfl,d,_,rfl,o,_,b,qAZ (by rw[A0];lia),_,rfl,qAB sm hp,?_⟩
   rw[qA1,C2]
   rfl
 ·refineλσ j l=>opq λa3 g=>?_;obtain⟨v0,rfl,sm,b⟩:=l;refine g ?_;rw[A0,qBS rfl] at b;refine⟨p,_,rfl,.inl ⟨Ab2 b,λr' a0=>?_⟩⟩;exact q r' _ (sm.trans (qA4 a0 _)) qA1
theorem sc_part_net:FnScope ["net","works","numbers","number","work"] ["net","works"] (qA7 qGA):=qB2
theorem ok_part_net (F:Fun K "part_net" "part_net" qGA f fd) (af:Clb P w K mg base 1 qFV qOA "renumbered" ["needs","numbers"] qeK)
  (qCN:mg "enumerate" = none) (a9:mg "tuple" = none):FnOk P w K mg base CX0 2 f fd ["net","works"] qNI:=by
 refine F.okA sc_part_net λam A ab s H vs Q E hr h=>?_;obtain⟨a,t,Ae,j,rfl,hN,wf,ac,hT,d,q⟩:=h;have hu:=qI4 hr;have al:Room 1 _:=hr;have lw:=d.len;refine⟨_,(qA3 (qAF (i:=2) sc_part_net.nd rfl (r8 rfl) qEA) (qA3 (qB9 D4 rfl (qZD rfl qCN qG3 (qA0 (pv 1) qA2)) (qKO rfl (qBP (qAJ (i:=3) sc_part_net.nd rfl (E9 rfl)) (qBP (qAJ (i:=4) sc_part_net.nd rfl (E9 rfl)) qH8))) (qA5 (qCG hu (pv 2) (pv 4) (pv 3) rfl))) (qA5 (qAC (qB0 qBC rfl a9 qBX (qA0 (qGX rfl (lcs (own:=["work"]) (fv:=[0,2]) (by kernel_rfl)) (qE9 (pv 1)) (λz2=>qDS 0) (λz2=>qC7) (λz2=>(qAI af hr rfl (qA0 (qBT (qIS (K:=K) rfl) (pv 1) (pv 0) (λ_ _=>rfl)) (qA0 (pv 2) qA2))))) qA2)))))),?_⟩
 try dsimp only[Cx.nox,Cx.wish,cxOf]
 obtain⟨rs,hA,NL⟩:=id hN;refineλdn a0=>?_;have sn:=qA4 a0 (.dK []);refine⟨_,rfl,t,rfl,⟨_,.inl (Rd.same hT sn)⟩,qXN (a:=t) (xs:=j.map V.int) (λi σ n=>∃(Af:List (Key×V)) (v3 v4:Option V),σ=[some (.ref a),some (.ref t),some (.ref dn),v3,v4]/\Same H n/\n dn=some (.dK Af)/\Af.length<=i/\∀x,valV Af (E8 x)=(qEY (j.take i) x).map V.int)
  ⟨[],none,none,rfl,sn,qA1,A7 _,λx=>by simp[qEY,valV]⟩ (λi σ n _ ⟨_,_,_,_,sm,_⟩=>.inl (Rd.same hT sm)) ?_ ?_⟩
 ·refineλi x σ n T hx a4 aa=>opq λag a7=>?_;obtain⟨Af,v3,v4,rfl,sm,hd,lk,hv⟩:=a4;obtain⟨y,m,rfl⟩:=qAY hx;refine a7 ?_;have lt:=(A3.mp m).1;have sT:=qA4 aa (.tup [.int (i:Int),.int y]);refine⟨T,_,rfl,Ac0 qA1,rfl,_,_,rfl,_,_,rfl,rfl,?_⟩;refine⟨_,rfl,_,rfl,_,rfl,dn,_,rfl,DPut.k (k:=E8 y) (sT _ _ hd) (qAQ (by lia)),?_⟩
  refine⟨_,_,_,rfl,qAB (sm.trans sT) a0,qA1,E3 (qB5 _ _ _) (by lia),λx=>?_⟩
  rw[qDB,qUD d.nodup m x];by_cases e:x=y
  ·rw[e,if_pos rfl,if_pos rfl]
   rfl
  ·rw[if_neg e,if_neg λz=>e (P1 z)];exact hv x
 refineλσ n u=>opq λah v=>?_;obtain⟨Af,v3,v4,rfl,sm,hd,lk,hv⟩:=u;refine v ?_;rw[A0,qBS rfl] at hv;refine⟨_,rfl,t,rfl,⟨_,.inl (Rd.same hT sm)⟩,λp hp=>?_⟩;refine qJ7 (p:=p) (a:=t) (xs:=j.map V.int) (λi σ o=>∃(v0:Option V) (ss:List Addr),σ=[v0,some (.ref a),some (.ref dn)]/\Same n o/\o p=some (.lst (ss.map V.ref))/\NetL o ss ((qBY Ae j).take i)) ?_ ?_ ?_ ?_
 ·exact⟨none,[],rfl,qA4 hp _,qA1,by rw[List.take_zero];exact .nil⟩
 ·refineλi σ o hi a2=>opq λak a3=>?_;obtain⟨v0,ss,rfl,c,_⟩:=a2;refine a3 ?_;exact .inl (Rd.same (Rd.same hT sm) c)
 ·refineλi x σ o hx a8=>opq λai a6=>?_;obtain⟨v0,ss,rfl,c,g,N2⟩:=a8;obtain⟨y,m,rfl⟩:=qAY hx;refine a6 ?_;have lt:=(A3.mp m).1;have yb:=d.in_ y (A9 m);have s3:=sm.trans c;have hy:y.toNat<Ae.length:=by lia
  obtain⟨r,h3,h4⟩:=NL.get (A4 hy);have lz:=(wf y.toNat _ (A4 hy)).len;refine⟨_,rfl,_,rfl,a,_,_,_,rfl,rfl,Ac0 (s3 _ _ hA),qGZ yb.1 (by rw[B6,h3];rfl),_,rfl,r,dn,_,Af,qEY j,rfl,s3 _ _ h4,by lia,c _ _ hd,hv,λr' H' l ae=>?_⟩
  have g1:=l _ _ g;have ad:ss.length=((qBY Ae j).take i).length:=C6 N2;refine⟨_,g1,qAZ (by rw[A0,ad,D8,qBV];lia),?_⟩
  rw[qBF];refine⟨_,ss++[r'],rfl,qAB (c.trans l) hp,qA1,?_⟩;rw[C9,qHV m,A4 hy];exact qHW (qGJ (N2.same λr' ys e=>l _ _ e) ae) g1
 ·refineλσ o a5=>opq λaj a1=>?_;obtain⟨v0,ss,rfl,c,g,N2⟩:=a5;refine a1 ?_;rw[A0,qBS (qBV Ae j)] at N2;refine⟨p,_,rfl,.inl ⟨Ab2 g,λb hb=>?_⟩⟩;have s1:=qA4 hb (.tup (ss.map V.ref));exact q b _ ((sm.trans c).trans s1) ⟨ss,qA1,N2.same λr ys e=>s1 _ _ e⟩
theorem sc_fault_of_do:FnScope ["net","rooms","stand","work","there","result","need"] ["net","rooms","stand","work"] (qA7 qDF):=qB2
theorem ok_fault_of_do (F:Fun K "fault_of_do" "fault_of_do" qDF f fd) (qCD:mg "len" = none):FnOk P w K mg base CX0 1 f fd ["net","rooms","stand","work"] qPA:=by
 refine F.okA sc_fault_of_do λaj A ab s H vs Q E hr h=>?_;obtain⟨a,so,Ae,c,ns,m,j,rfl,hN,a0,ad,aa,a9,q⟩:=h;have hu:=qI4 hr;refine⟨_,(qA3 (qAF (i:=4) sc_fault_of_do.nd rfl (E9 rfl) qEA) (qA3 (qB9 D4 rfl (qE9 (pv 2)) (qAJ (i:=5) sc_fault_of_do.nd rfl (E9 rfl)) (qA5 (qCG hu (pv 4) (pv 5) qEJ rfl))) (qA3 (qC8 (qE8 (qPJ hu (pv 3) (pv 4))) (qA5 (qAC qC0)) qAN) (qA3 (qB9 D4 rfl (qE9 (qBT qBK (pv 0) (pv 3) (λ_ _=>rfl))) (qAJ (i:=6) sc_fault_of_do.nd rfl (E9 rfl)) (qA5 (qC8 (qE8 (qKQ hu (pv 6) (pv 4))) (qA5 (qAC qC0)) qAN))) (qA3 (qC8 (qAS qfB (qAG qAH rfl qCD qCM (qA0 (pv 2) qA2)) (pv 1) (qB4 _)) (qA5 (qAC qC0)) qAN) (qA5 (qAC qJ5))))))),?_⟩
 try dsimp only[Cx.nox,Cx.wish,cxOf]
 refineλp hp=>?_;have s0:=qA4 hp (.dK []);refine⟨_,rfl,so,rfl,⟨_,Ac0 (s0 _ _ a0)⟩,qHE (a:=so) (xs:=c.map V.int) (λi σ n=>∃(Af:List (Key×V)) (v:Option V),σ=[some (.ref a),some (.int m),some (.ref so),some (.int j),some (.ref p),v,none]/\Same H n/\n p=some (.dK Af)/\Af.length<=i/\∀x:Int,(valV Af (E8 x)).isSome=true↔x∈c.take i)
  ⟨[],none,rfl,s0,qA1,A7 _,λx=>by simp[valV]⟩ (λi σ n _ hP=>by obtain⟨_,_,_,d,_⟩:=hP;exact Ac0 (d _ _ a0)) ?_ ?_⟩
 ·refineλi x σ n l a3=>opq λah a6=>?_;obtain⟨Af,v,rfl,d,hd,lk,t⟩:=a3;refine a6 ?_;rw[B6] at l;cases ez:c[i]? with
  |none=>rw[ez] at l;cases l
  |some z=>
   rw[ez] at l;cases l;have ai:i<c.length:=(A3.mp ez).1;refine⟨_,rfl,_,rfl,p,_,rfl,DPut.k (k:=E8 z) hd (qAZ (by lia)),?_⟩
   refine⟨putK Af (E8 z) (.bl true),_,rfl,λb o e=>?_,qA1,E3 (qB5 _ _ _) (by lia),λy=>?_⟩
   ·rw[qA9 (qA6 e hp)];exact d b o e
   ·rw[qDB,C9,ez,D0,B4,A6];by_cases u:y=z
    ·subst u;simp
    ·have:¬(E8 y:Key)=E8 z:=λq=>u (P1 q);rw[if_neg this,t y];simp[u]
 ·refineλσ n a7=>opq λaf a8=>?_;obtain⟨Af,v,rfl,d,hd,lk,t⟩:=a7;refine a8 ?_;rw[A0,F3 (A7 _)] at t;obtain⟨rs,r,h1,l1,h2,h3⟩:=hN.get a9;refine⟨_,rfl,_,rfl,p,_,rfl,DGet.k (k:=E8 j) hd,_,rfl,?_⟩;refine ite2 (λck=>?_) (λck=>?_)
  ·have hw:=(t j).mp ck;have e:qDY ns c m j=.str "there":=by unfold qDY;rw[if_pos hw]
   have:=q n d;rw[e] at this;exact this
  ·have hw:¬j∈c:=λz=>ck ((t j).mpr z);refine⟨_,rfl,_,rfl,a,_,_,_,rfl,rfl,Ac0 (d _ _ h1),qGZ aa h2,r,rfl,⟨_,Ac0 (d _ _ h3)⟩,qHE (a:=r) (xs:=ns.map V.int) (λi σ Hd=>∃(v6:Option V),σ=[some (.ref a),some (.int m),some (.ref so),some (.int j),some (.ref p),v,v6]/\Hd=n/\∀x∈ns.take i,x∈c)
    ⟨none,rfl,rfl,λx l=>by simp at l⟩ (λi σ Hd _ ⟨_,_,e,_⟩=>by rw[e];exact Ac0 (d _ _ h3)) ?_ ?_⟩
   ·refineλi x σ Hd l a5=>opq λag a1=>?_;obtain⟨v6,rfl,rfl,mm⟩:=a5;obtain⟨z,ez,rfl⟩:=qAY l;refine a1 ?_;refine⟨_,rfl,_,rfl,p,_,rfl,DGet.k (k:=E8 z) hd,_,rfl,?_⟩;refine ite2 (λcz=>?_) (λcz=>?_)
    ·have hz:¬z∈c:=λzz=>by rw[(t z).mpr zz] at cz;cases cz
     have e:qDY ns c m j=.str "needs":=by
      unfold qDY;rw[if_neg hw,if_neg λac=>hz (ac z (A9 ez))]
     have:=q Hd d;rw[e] at this;exact this
    ·have hz:z∈c:=by
      apply(t z).mp;cases hv:(valV Af (E8 z:Key)).isSome with
      |true=>rfl
      |false=>rw[hv] at cz;exact absurd rfl cz
     refine⟨_,rfl,rfl,λy hy=>?_⟩;rw[C9,ez,D0,B4,A6] at hy;rcases hy with hy|rfl
     ·exact mm y hy
     ·exact hz
   ·refineλσ Hd a2=>opq λae a4=>?_;obtain⟨v6,rfl,rfl,mm⟩:=a2;refine a4 ?_;rw[A0,F3 (A7 _)] at mm;refine⟨_,rfl,so,_,rfl,.inr (Ac0 (d _ _ a0)),_,rfl,_,_,rfl,rfl,_,rfl,?_⟩;have q':=q Hd d;have e0:qDY ns c m j=if m<=(c.length:Int) then .str "full" else .non:=by
     unfold qDY;rw[if_neg hw,if_pos mm]
    rw[e0] at q';refine ite2 (λcf=>?_) (λcf=>?_)
    ·have g:m<=(((c.map V.int).length:Nat):Int):=of_decide_eq_true cf;rw[A0] at g;rw[if_pos g] at q';exact q'
    ·have g:¬m<=(((c.map V.int).length:Nat):Int):=of_decide_eq_false (F8.mpr cf);rw[A0] at g;rw[if_neg g] at q';exact q'
theorem qR9:FnScope ["net","rooms","stand","move"] ["net","rooms","stand","move"] (qA7 qGE):=qB2
theorem ok_fault_of (F:Fun K "fault_of" "fault_of" qGE f fd) (o:Clb P w K mg base 1 qF9 qM9 "fault_of_do" ["net","rooms","stand","work"] qPA):
  FnOk P w K mg base CX0 2 f fd ["net","rooms","stand","move"] qR2:=by
 refine F.okA qR9 λa0 A n s H vs Q E v h=>?_;obtain⟨a,x,m,Ae,t,ns,y,wk,u,rfl,hN,d,i,c,k,l,j,a1,q⟩:=h;have z:Room 1 _:=v;refine⟨_,(qA3 (qC8 (qAS qIN (qBT qBK (pv 3) qA8 (λ_ _=>rfl)) qC0 (qB4 _)) (qA5 (qAC (qAI o v rfl (qA0 (pv 0) (qA0 (pv 1) (qA0 (pv 2) (qA0 (qBT qBK (pv 3) qA8 (λ_ _=>rfl)) qA2))))))) qAN) (qA3 (qC8 (qAS qPN (qBT qBK (pv 3) qA8 (λ_ _=>rfl)) (pv 2) (by with_unfolding_all rfl)) (qA5 (qAC qJ5)) qAN) (qA5 (qAC qC0)))),?_⟩
 try dsimp only[Cx.nox,Cx.wish,cxOf]
 refine⟨_,rfl,m,_,_,_,rfl,rfl,Ac0 c,rfl,rfl,_,rfl,?_⟩;refine ite2 (λg=>?_) (λg=>?_)
 ·have p:u = "do":=V.str.inj (of_decide_eq_true g)
  refine⟨_,rfl,_,rfl,_,rfl,_,rfl,m,_,_,_,rfl,rfl,Ac0 c,rfl,a,x,Ae,t,ns,y,wk,rfl,hN,d,i,l,j,λH' sm=>?_⟩;have b:=q H' sm;unfold qD9 at b;rw[if_pos p] at b;exact b
 ·have p:¬u = "do":=λe=>(of_decide_eq_false (F8.mpr g)) (congrArg V.str e)
  have b:=q H (Same.refl H);unfold qD9 qDQ at b;rw[if_neg p] at b;refine⟨_,rfl,m,_,_,_,rfl,rfl,Ac0 c,rfl,_,rfl,x,_,rfl,.inr (Ac0 d),rfl,qIB t,_,rfl,?_⟩;rw[qO6];refine ite2 (λr=>?_) (λr=>?_)
  ·rw[if_pos (of_decide_eq_true r)] at b;exact b
  ·rw[if_neg (of_decide_eq_false (F8.mpr r))] at b;exact b
theorem qKI:FnScope ["stand","move"] ["stand","move"] (qA7 qCU):=qB2
theorem ok_stand_behind (F:Fun K "stand_behind" "stand_behind" qCU f fd) (a6:mg "sorted" = none) (u:mg "tuple" = none):FnOk P w K mg base CX0 1 f fd ["stand","move"] qHN:=by
 refine F.okA qKI λa9 A a5 s H vs Q E m h=>?_;obtain⟨so,mv,d,Ac,c,rfl,o,lst,t,n,q⟩:=h;refine⟨_,(qA3 (qC8 (qAS qIN (qBT qBK (pv 1) qA8 (λ_ _=>rfl)) qC0 (qB4 _)) (qA5 (qAC (qB0 qBC rfl u qBX (qA0 (qAG (qS7 rfl) rfl a6 qLN (qA0 (qAU qWM (pv 0) (qAT (qA0 (qBT qBK (pv 1) qA8 (λ_ _=>rfl)) qA2))) qA2)) qA2)))) qAN) (qA5 (qAC (qB0 qBC rfl u qBX (qA0 (qGX rfl (lcs (own:=["result"]) (fv:=[1]) (by kernel_rfl)) (qE9 (pv 0)) (λz1=>qDS 0) (λz1=>(qH7 (qAS qWH (pv 0) (qBT (qIS (K:=K) rfl) (pv 1) qA8 (λ_ _=>rfl)) (qB4 _)))) (λz1=>(pv 0))) qA2))))),?_⟩
 try dsimp only[Cx.nox,Cx.wish,cxOf]
 refine⟨_,rfl,mv,_,_,_,rfl,rfl,Ac0 t,rfl,rfl,_,rfl,?_⟩;refine ite2 (λck=>?_) (λck=>?_)
 ·have hd:Ac = "do":=V.str.inj (of_decide_eq_true ck)
  refine⟨_,rfl,_,rfl,mv,_,_,_,rfl,rfl,Ac0 t,rfl,(by show 1<=B12;decide),λT hT=>?_⟩
  have sT:=qA4 hT (.tup [.int c]);have a0:∀(p:Addr) (H1:Hp),Same H H1->H1 p=some (.tup ((d++[c]).map V.int))->∀(b:Addr) (zs:List Int),H1 b=none->zs.Perm (d++[c])->zs.Pairwise (·<=·)->∀r,(Ag H1 b (.lst (zs.map V.int))) r=none->Q (.ref r) (Ag (Ag H1 b (.lst (zs.map V.int))) r (.tup (zs.map V.int))):=by
   intro p H1 s1 hp b zs hb k hs r m;refine q r zs _ (s1.trans ((qA4 hb _).trans (qA4 m _))) qA1 ⟨λ_=>⟨k,hs⟩,λz=>?_⟩;rw[hd] at z;exact absurd z.symm qAA
  refine⟨so,T,d.map V.int,[.int c],rfl,rfl,Ac0 (sT _ _ o),Ac0 qA1,by simp,R4 (qAQ (by rw[A0,F1];lia)),λz=>?_,λz p hp=>?_⟩
  ·have e:d=[]:=List.map_eq_nil_iff.mp z;have g:(Ag H T (.tup [.int c])) T=some (.tup ((d++[c]).map V.int)):=by rw[qA1,e];rfl
   exact⟨T,d++[c],rfl,.inr (.inl (Ac0 g)),(by rw[B7,F1];lia),λb zs hb k hs=>⟨b,_,rfl,.inl ⟨Ab2 qA1,λr m=>a0 T _ sT g b zs hb k hs r m⟩⟩⟩
  ·have g:(Ag (Ag H T (.tup [.int c])) p (.tup (d.map V.int++[.int c]))) p=some (.tup ((d++[c]).map V.int)):=by rw[qA1,C2];rfl
   exact⟨p,d++[c],rfl,.inr (.inl (Ac0 g)),(by rw[B7,F1];lia),λb zs hb k hs=>⟨b,_,rfl,.inl ⟨Ab2 qA1,λr m=>a0 p _ (sT.trans (qA4 hp _)) g b zs hb k hs r m⟩⟩⟩
 ·have hd:Ac = "clear":=n.resolve_left λe=>(of_decide_eq_false (F8.mpr ck)) (congrArg V.str e);refine⟨_,rfl,so,rfl,⟨_,Ac0 o⟩,λp hp=>?_⟩;refine qJ7 (p:=p) (a:=so) (xs:=d.map V.int) (λi σ Hc=>∃(v:Option V),σ=[v,some (.ref mv)]/\Same H Hc/\Hc p=some (.lst (((d.take i).filter λx=>decide (x≠c)).map V.int))) ?_ ?_ ?_ ?_
  ·exact⟨none,rfl,qA4 hp _,qA1⟩
  ·rintro i σ Hc hi ⟨v,rfl,sm,_⟩;exact Ac0 (sm _ _ o)
  ·refineλi x σ Hc hx a3=>opq λa7 a4=>?_;obtain⟨v,rfl,sm,j⟩:=a3;obtain⟨y,ey,rfl⟩:=qAY hx;refine a4 ?_;have hi:=(A3.mp ey).1;have lk:=qLC (p:=λx=>decide (x≠c)) (l:=d) (i:=i);refine⟨_,rfl,_,rfl,mv,_,_,_,rfl,rfl,Ac0 (sm _ _ t),rfl,rfl,_,rfl,?_⟩;rw[qC9 ey];by_cases e:y=c
   ·rw[decide_eq_true (show V.int y=V.int c by rw[e]),decide_eq_false (show¬y≠c fromλz=>z e)]
    refine⟨_,rfl,sm,?_⟩;simpa using j
   ·rw[decide_eq_false (show¬V.int y=V.int c fromλz=>e (V.int.inj z)),decide_eq_true (show y≠c from e)];refine⟨_,rfl,_,j,qAZ (by rw[A0];lia),_,rfl,qAB sm hp,?_⟩
    rw[qA1,if_pos rfl,C2]
    rfl
  ·refineλσ Hc a2=>opq λa8 a1=>?_;obtain⟨v,rfl,sm,j⟩:=a2;refine a1 ?_;rw[A0,qBS rfl] at j;refine⟨p,_,rfl,.inl ⟨Ab2 j,λr m=>?_⟩⟩;refine q r _ _ (sm.trans (qA4 m _)) qA1 ⟨λz=>?_,λ_=>rfl⟩;rw[hd] at z;exact absurd z qAA
theorem sc_moves_of:FnScope ["net","rooms","stand","dos","clears"] ["net","rooms","stand"] (qA7 qGB):=qB2
theorem ok_moves_of (F:Fun K "moves_of" "moves_of" qGB f fd) (qDP:Clb P w K mg base 2 qGR qLG "fault_of" ["net","rooms","stand","move"] qR2)
  (qBG:mg "range" = none) (qCD:mg "len" = none):FnOk P w K mg base CX0 3 f fd ["net","rooms","stand"] qKG:=by
 refine F.okA sc_moves_of λar A ae s H vs Q E hr h=>?_;obtain⟨a,so,b,st,z,rfl,hN,wf,af,ah,lst,q⟩:=h;have aq:Room 2 _:=hr;refine⟨_,(qA3 (qUC (i:=3) sc_moves_of.nd rfl rfl rfl (lcs (own:=["work"]) (fv:=[]) (by kernel_rfl)) (qD1 rfl qBG (qA0 (qAG qAH rfl qCD qCM (qA0 (pv 0) qA2)) qA2)) (λz1=>qDS 0) (λz1=>qC7) (λz1=>(qAT (qA0 qC0 (qA0 (pv 0) qA2)))) (by kernel_rfl)) (qA3 (qUC (i:=4) sc_moves_of.nd rfl rfl rfl (lcs (own:=["work"]) (fv:=[]) (by kernel_rfl)) (qD1 rfl qBG (qA0 (qAG qAH rfl qCD qCM (qA0 (pv 0) qA2)) qA2)) (λz2=>qDS 0) (λz2=>qC7) (λz2=>(qAT (qA0 qC0 (qA0 (pv 0) qA2)))) (by kernel_rfl)) (qA5 (qAC (qGX rfl (lcs (own:=["move"]) (fv:=[0,1,2]) (by kernel_rfl)) (qBO (qAU qfC (pv 3) (pv 4))) (λz3=>qDS 0) (λz3=>(qH7 (qE8 (qWD (qAI qDP hr rfl (qA0 (pv 1) (qA0 (pv 2) (qA0 (pv 3) (qA0 (pv 0) qA2))))))))) (λz3=>(pv 0))))))),?_⟩
 try dsimp only[Cx.nox,Cx.wish,cxOf]
 obtain⟨rs,hA,NL⟩:=id hN;have c:(((rs.map V.ref).length:Nat):Int)=(b.length:Int):=by rw[A0,C6 NL]
 refine⟨_,rfl,a,_,rfl,.inr (Ac0 hA),_,rfl,by rw[c];lia,by rw[c];lia,λp hp=>?_⟩
 refine qGK (p:=p) (lo:=0) (n:=((((rs.map V.ref).length:Nat):Int)).toNat) (λi σ Hc=>∃(v:Option V) (rd:List Addr),σ=[v]/\Same H Hc/\Hc p=some (.lst (rd.map V.ref))/\MovL Hc rd (qKT "do" i)) ?_ ?_ ?_
 ·exact⟨none,[],rfl,qA4 hp _,qA1,.nil⟩
 ·refineλi σ Hc hi a7=>opq λap ac=>?_;obtain⟨v,rd,rfl,sm,o,ML⟩:=a7;refine ac ?_;rw[c] at hi;refine⟨_,rfl,(by show 2<=B12;decide),λmv e=>?_⟩
  have r:=qA4 e (.tup [.str "do",.int (0+(i:Int))])
  have ll:=C6 ML;rw[qFP] at ll;refine⟨_,r _ _ o,qAZ (by rw[A0];lia),_,rd++[mv],rfl,qAB (sm.trans r) hp,?_,?_⟩
  ·rw[qA1,qBF]
  ·rw[qMT];exact((ML.same r).snoc qA1).put (r _ _ o)
 ·refineλσ Hc ab=>opq λak a4=>?_;obtain⟨v,rd,rfl,sm,o,ML⟩:=ab;refine a4 ?_;rw[show((((rs.map V.ref).length:Nat):Int)).toNat=b.length by rw[c];lia] at ML
  refine⟨_,rfl,a,_,rfl,.inr (Ac0 (sm _ _ hA)),_,rfl,by rw[c];lia,by rw[c];lia,λp2 a6=>?_⟩
  refine qGK (p:=p2) (lo:=0) (n:=((((rs.map V.ref).length:Nat):Int)).toNat) (λi σ u=>∃(v:Option V) (re:List Addr),σ=[v]/\Same Hc u/\u p2=some (.lst (re.map V.ref))/\MovL u re (qKT "clear" i)) ?_ ?_ ?_
  ·exact⟨none,[],rfl,qA4 a6 _,qA1,.nil⟩
  ·refineλi σ u hi a3=>opq λal a5=>?_;obtain⟨v,re,rfl,k,t,ME⟩:=a3;refine a5 ?_;rw[c] at hi;refine⟨_,rfl,(by show 2<=B12;decide),λmv e=>?_⟩
   have r:=qA4 e (.tup [.str "clear",.int (0+(i:Int))]);have ll:=C6 ME;rw[qFP] at ll;refine⟨_,r _ _ t,qAZ (by rw[A0];lia),_,re++[mv],rfl,qAB (k.trans r) a6,?_,?_⟩
   ·rw[qA1,qBF]
   ·rw[qMT];exact((ME.same r).snoc qA1).put (r _ _ t)
  ·refineλσ u a1=>opq λam a9=>?_;obtain⟨v,re,rfl,k,t,ME⟩:=a1;refine a9 ?_;rw[show((((rs.map V.ref).length:Nat):Int)).toNat=b.length by rw[c];lia] at ME
   have l1:=C6 ML;have l2:=C6 ME;rw[qFP] at l1 l2;refine⟨_,rfl,_,rfl,p,p2,_,_,rfl,rfl,k _ _ o,t,?_,λl hl=>?_⟩
   ·rw[A0,A0,B24];lia
   have sl:=qA4 hl (.lst (rd.map V.ref++re.map V.ref));have MA:MovL (Ag u l (.lst (rd.map V.ref++re.map V.ref))) (rd++re) (qOI b.length):=((ML.same k).app ME).same sl;have gl:(Ag u l (.lst (rd.map V.ref++re.map V.ref))) l=some (.lst ((rd++re).map V.ref)):=by rw[qA1,C2]
   have g:=(sm.trans k).trans sl;generalize Ag u l (.lst (rd.map V.ref++re.map V.ref))=He at MA gl g ⊢;have lE:(rd++re).length=b.length+b.length:=by rw[B7,l1,l2]
   refine⟨l,rfl,⟨_,Ab2 gl⟩,λp3 y=>?_⟩;refine qHB (p:=p3) (a:=l) (xs:=(rd++re).map V.ref) (λi σ Hf=>∃(v:Option V) (rk:List Addr),σ=[v,some (.ref a),some (.int z),some (.ref so)]/\Same He Hf/\Hf p3=some (.lst (rk.map V.ref))/\MovL Hf rk (((qOI b.length).take i).filter λm=>decide (wd b st z m=.non))) ?_ ?_ ?_ ?_
   ·exact⟨none,[],rfl,qA4 y _,qA1,.nil⟩
   ·rintro i σ Hf hi ⟨v,rk,rfl,sm3,_⟩;exact Ab2 (sm3 _ _ gl)
   ·refineλi x σ Hf hx ad=>opq λan a2=>?_;obtain⟨v,rk,rfl,sm3,j,MK⟩:=ad;obtain⟨mv,e,rfl⟩:=qCR hx;refine a2 ?_;have hi:i<b.length+b.length:=by rw[<- lE];exact(A3.mp e).1
    obtain⟨m,hm,em⟩:=qAV MA e;obtain⟨hw,m0,m1⟩:=qTK (A9 hm);have ag:m.2.toNat<b.length:=by lia
    have a0:=A4 ag;have rz:=wf _ _ a0;have lk:=C6 MK;have aj:=F2 (λm=>decide (wd b st z m=.non)) ((qOI b.length).take i);rw[D8,qQB] at aj;have ai:wd b st z m=qD9 b[m.2.toNat] st z m.1 m.2:=by unfold wd;rw[a0];rfl
    refine⟨_,rfl,_,rfl,_,rfl,_,rfl,a,so,mv,b,st,b[m.2.toNat],z,m.2,m.1,rfl,hN.same (g.trans sm3),(g.trans sm3) _ _ ah,lst,sm3 _ _ em,hw,m0,a0,?_,λHg d=>⟨_,rfl,?_⟩⟩
    ·have:=rz.len;lia
    rw[<- ai,qC9 hm];by_cases hd:wd b st z m=.non
    ·rw[hd];refine⟨_,rfl,_,d _ _ j,(by rw[A0,B24];lia),_,rk++[mv],rfl,qAB (sm3.trans d) y,?_,?_⟩
     ·rw[qA1,qBF]
     ·exact((MK.same d).snoc (d _ _ (sm3 _ _ em))).put (d _ _ j)
    ·rw[decide_eq_false hd];refine⟨_,rk,rfl,sm3.trans d,d _ _ j,?_⟩;simpa using MK.same d
   ·refineλσ Hf aa=>opq λao a8=>?_;obtain⟨v,rk,rfl,sm3,j,MK⟩:=aa;refine a8 ?_;rw[F3 (by rw[A0,lE,qQB];exact A7 _)] at MK
    exact q p3 rk Hf (g.trans sm3) (g.free y) j MK
theorem qU8:FnScope ["results","works"] ["results","works"] (qA7 qHS):=qB2
theorem ok_has_all (F:Fun K "has_all" "has_all" qHS f fd) (a0:mg "all" = none):FnOk P w K mg base CX0 1 f fd ["results","works"] qSN:=by
 refine F.okA qU8 λa6 A a1 s H vs Q E hr h=>?_;obtain⟨b,a,t,k,y,rfl,a2,hT,l1,q⟩:=h;refine⟨_,(qA5 (qAC (qAG (qTS rfl) rfl a0 qbI (qA0 (qGX rfl (lcs (own:=["work"]) (fv:=[0]) (by kernel_rfl)) (qf1 (pv 1)) (λz1=>qDS 0) (λz1=>qC7) (λz1=>(qH9 (qb3 (K:=K) rfl) (pv 0) (pv 1) (by with_unfolding_all rfl)))) qA2)))),?_⟩
 try dsimp only[Cx.nox,Cx.wish,cxOf]
 refine⟨_,rfl,b,t,rfl,⟨_,sqo hT⟩,λp hp=>?_⟩;refine qfF (b:=b) (p:=p) (a:=t) (xs:=y.map V.int) (λi σ d=>∃(v:Option V),σ=[v,some (.ref a)]/\Same H d/\d p=some (.lst (((y.take i).map λx=>decide (x∈k)).map V.bl))) ?_ ?_ ?_ ?_
 ·exact⟨none,rfl,qA4 hp _,qA1⟩
 ·refineλi σ d hi m=>opq λa5 o=>?_;obtain⟨v,rfl,g,_⟩:=m;refine o ?_;exact sqo (hT.same g)
 ·refineλi x σ d hx r=>opq λa3 u=>?_;obtain⟨v,rfl,g,c⟩:=r;obtain⟨z,ez,rfl⟩:=qAY hx;refine u ?_;have hi:=(A3.mp ez).1;refine⟨_,rfl,_,rfl,a,_,rfl,.inr (Ac0 (g _ _ a2)),rfl,qIB k,_,c,qAZ (by rw[A0,A0,D8];lia),_,rfl,qAB g hp,?_⟩
  rw[qA1];refine congrArg (λl=>some (HO.lst l)) ?_;rw[C9,ez,D0,C2,C2];show _++[V.bl (inV (.int z) (k.map V.int))]=_;rw[qO6]
  rfl
 ·refineλσ d n=>opq λa4 j=>?_;obtain⟨v,rfl,g,c⟩:=n;refine j ?_;rw[A0,F3 (A7 _)] at c;refine⟨p,_,rfl,Ab2 c,?_⟩;have e:((y.map λx=>decide (x∈k)).all id)=decide (∀x∈y,x∈k):=by
   rw[G6,decide_eq_true_eq];exact qg2
  rw[e];exact q d g
theorem sc_stands_reached:FnScope ["net","rooms","reached","due","later","stand","move","further","steps"] ["net","rooms"] (qA7 qAD):=qB2
theorem ok_stands_reached (F:Fun K "stands_reached" "stands_reached" qAD f fd) (br:Clb P w K mg base 3 qGQ qLF "moves_of" ["net","rooms","stand"] qKG) (qB1:Clb P w K mg base 1 qC2 qDV "stand_behind" ["stand","move"] qHN):FnOk P w K mg base CX0 4 f fd ["net","rooms"] qNG:=by
 refine F.okA sc_stands_reached λcd A bp s H vs Q E hr h=>?_;obtain⟨a,Ae,Aa,rfl,hN,wf,c2,q⟩:=h;have hu:=qI4 hr;have c6:Room 3 _:=hr;have bz:qAL qAD=[.Assign [.Name "reached" ⟨207,4,207,11⟩] (.Dict [some (kOf ((qAL qAD).getD 0 (.Pass ⟨0,0,0,0⟩)))] [vOf ((qAL qAD).getD 0 (.Pass ⟨0,0,0,0⟩))] ⟨207,14,207,35⟩) ⟨207,4,207,35⟩,(qAL qAD).getD 1 (.Pass ⟨0,0,0,0⟩),(qAL qAD).getD 2 (.Pass ⟨0,0,0,0⟩),(qAL qAD).getD 3 (.Pass ⟨0,0,0,0⟩)]:=by kernel_rfl
 have hk:∀X:Cx,PE X (kOf ((qAL qAD).getD 0 (.Pass ⟨0,0,0,0⟩))) (tTup tNil):=λX=>qcN ⟨_,_,rfl⟩;have hv:∀X:Cx,PE X (vOf ((qAL qAD).getD 0 (.Pass ⟨0,0,0,0⟩))) (tTup (qLU (tC (.int 0)) (qLU (tC .non) (qLU (tC .non) tNil)))):=λX=>qWA ⟨_,_,_,_,_,_,_,_,rfl⟩;rw[bz];generalize kOf ((qAL qAD).getD 0 (.Pass ⟨0,0,0,0⟩))=k0 at hk ⊢;generalize vOf ((qAL qAD).getD 0 (.Pass ⟨0,0,0,0⟩))=v9 at hv ⊢;refine⟨_,(qA3 (qAF (i:=2) sc_stands_reached.nd rfl (E9 rfl) (qWC hu (hk _) (hv _))) (qA3 (qAF (i:=3) sc_stands_reached.nd rfl (E9 rfl) (qFN (qA0 (qAT qA2) qA2))) (qA3 (qNU D4 (qZ9 (pv 3) (λ_=>rfl)) (qA3 (qAF (i:=4) sc_stands_reached.nd rfl (E9 rfl) (qFN qA2)) (qA3 (qB9 D4 rfl (qBO (pv 3)) (qAJ (i:=5) sc_stands_reached.nd rfl (E9 rfl)) (qA5 (qB9 D4 rfl (qBO (qAI br hr rfl (qA0 (pv 0) (qA0 (pv 1) (qA0 (pv 5) qA2))))) (qAJ (i:=6) sc_stands_reached.nd rfl (E9 rfl)) (qA3 (qAF (i:=7) sc_stands_reached.nd rfl (E9 rfl) (qAI qB1 hr rfl (qA0 (pv 5) (qA0 (pv 6) qA2)))) (qA5 (qC8 (qE8 (qKQ hu (pv 7) (pv 2))) (qA3 (qAF (i:=8) sc_stands_reached.nd rfl (E9 rfl) (qAU qCA (qBT qBK (qBU hu (pv 2) (pv 5) (λ_ _=>rfl)) qA8 (λ_ _=>rfl)) (qHU (qAS qIN (qBT qBK (pv 6) qA8 (λ_ _=>rfl)) qC0 (qB4 _)) qA8 qA8))) (qA3 (qCG hu (pv 2) (pv 7) (qAT (qA0 (pv 8) (qA0 (pv 5) (qA0 (pv 6) qA2)))) rfl) (qA5 (qEE (qNV G0 J8 J9 qD2 (pv 4) (qA0 (pv 7) qA2)))))) qAN)))))) (qA5 (qAF (i:=3) sc_stands_reached.nd rfl (E9 rfl) (pv 4)))))) (qA5 (qAC (qWB (pv 2))))))),?_⟩
 try dsimp only[Cx.nox,Cx.wish,cxOf]
 have pw:2^Ae.length<=2^12:=W1 (by decide) c2
 intro j ah;refine⟨(by show 0<=B12;decide),λe0 bi=>?_⟩
 refine⟨(by show 3<=B12;decide),λv0 bf=>?_⟩
 have s1:=qA4 ah (.dT []);have s2:=qA4 bi (.tup []);have s3:=qA4 bf (.tup [.int 0,.non,.non]);have g1:(Ag (Ag (Ag H j (.dT [])) e0 (.tup [])) v0 (.tup [.int 0,.non,.non])) j=some (.dT []):=s3 _ _ (s2 _ _ qA1);have g2:(Ag (Ag (Ag H j (.dT [])) e0 (.tup [])) v0 (.tup [.int 0,.non,.non])) e0=some (.tup (([]:List Key).map kV)):=s3 _ _ qA1;have g3:(Ag (Ag (Ag H j (.dT [])) e0 (.tup [])) v0 (.tup [.int 0,.non,.non])) v0=some (.tup [.int ((0:Nat):Int),.non,.non]):=qA1;have sA:=s1.trans (s2.trans s3);generalize Ag (Ag (Ag H j (.dT [])) e0 (.tup [])) v0 (.tup [.int 0,.non,.non])=H1 at g1 g2 g3 sA;refine⟨g1,e0,[],rfl,g2,?_⟩;have b:EntZ H1 [([],.ref v0)] [[]] (λ_=>0) (PrvH Ae Aa [[]] λ_=>0):=⟨λ_=>none,.cons ⟨rfl,v0,rfl,g3⟩ .nil,PrvH.start⟩;have b:=b.put (u:=.dT [([],.ref v0)]) g1 (λxs z=>by cases z)
 have sB:Same H (Ag H1 j (.dT [([],.ref v0)])):=qAB sA ah;have g4:(Ag H1 j (.dT [([],.ref v0)])) j=some (.dT [([],.ref v0)]):=qA1;have ad:H j=none:=ah;refine⟨(by show 0<=B12;decide),λe1 c0=>⟨(by show 1<=B12;decide),λdu bv=>?_⟩⟩
 have s5:=qA4 c0 (.tup []);have s6:=qA4 bv (.lst [.ref e1]);have sC:=sB.trans (s5.trans s6);have aa:=(b.same s5).same s6;have g5:=s6 _ _ (s5 _ _ g4);have g6:(Ag (Ag (Ag H1 j (.dT [([],.ref v0)])) e1 (.tup [])) du (.lst [.ref e1])) du=some (.lst ([e1].map V.ref)):=qA1;have g7:StL (Ag (Ag (Ag H1 j (.dT [([],.ref v0)])) e1 (.tup [])) du (.lst [.ref e1])) [e1] [[]]:=.cons (s6 _ _ qA1) .nil;generalize Ag (Ag (Ag H1 j (.dT [([],.ref v0)])) e1 (.tup [])) du (.lst [.ref e1])=H2 at sC aa g5 g6 g7;clear s1 s2 s3 g1 g2 g3 sA b sB g4 s5 s6 bi bf ah;refine⟨λm σ Hc=>∃(du:Addr) (dr:List Addr) (due ks:Aa0) (f:List Int->Nat) (Af:List (List Key×V)) (t:Nat) (v4 v5 v6 v7 v8:Option V),σ=[some (.ref a),some (.int Aa),some (.ref j),some (.ref du),v4,v5,v6,v7,v8]/\m=(2^Ae.length-ks.length)*2+(if due=[] then 0 else 1)/\Same H Hc/\Hc j=some (.dT Af)/\EntZ Hc Af ks f (PrvH Ae Aa ks f)/\Hc du=some (.lst (dr.map V.ref))/\StL Hc dr due/\BF Ae Aa t ks due [] f 0 0,
  ⟨_,du,[e1],[[]],[[]],λ_=>0,_,0,none,none,none,none,none,rfl,rfl,sC,g5,aa,g6,g7,BF.start⟩,?_⟩
 clear sC g5 aa g6 g7;refineλm σ Hc b9=>opq λcb bh=>?_;obtain⟨du,dr,due,ks,f,Af,t,v4,v5,v6,v7,v8,rfl,rfl,sm,d,b,n,SD,B⟩:=b9;refine bh ?_;refine⟨_,rfl,_,.inl ⟨_,Ab2 n,rfl⟩,?_⟩;have ay:dr.length=due.length:=C6 SD;by_cases hz:due=[]
 ·subst hz;have:dr=[]:=L1.mp ay;subst this;refine iteF ?_;obtain⟨g,eX,b1⟩:=b.ex;exact⟨_,rfl,j,Af,rfl,d,λo=>q j o Af ks f g _ (qAB sm ad) ad qA1 (eX.put d λxs z=>by cases z) B.rch b1⟩
 ·have ne:(!(dr.map V.ref).isEmpty)=true:=by
   cases dr with
   |nil=>exact absurd (L1.mp ay.symm) hz
   |cons _ _=>rfl
  dsimp only;rw[if_pos ne];have bq:=B.len;have ln:=b.len;refine qd1 λN0 b4=>?_;refine⟨(by show 0<=B12;decide),λll aj=>?_⟩
  have s7:=qA4 aj (.lst []);have bu:H ll=none:=sm.free aj;have ap:ll≠j/\ll≠du:=⟨(qA6 d aj).symm,(qA6 n aj).symm⟩;have bn:j≠du:=qC1 d n (by intro z;cases z)
  obtain⟨k0,aq⟩:∃k0,k0=ks.length:=⟨_,rfl⟩;rw[<- aq] at b4;refine⟨_,rfl,du,rfl,⟨_,Ab2 (s7 _ _ n)⟩,qQ7 (a:=du) (xs:=dr.map V.ref) (λi σ Hd=>∃(lr:List Addr) (ly ks:Aa0) (f:List Int->Nat) (Af:List (List Key×V)) (v5 v6 v7 v8:Option V),σ=[some (.ref a),some (.int Aa),some (.ref j),some (.ref du),some (.ref ll),v5,v6,v7,v8]/\Same H Hd/\Hd j=some (.dT Af)/\EntZ Hd Af ks f (PrvH Ae Aa ks f)/\Hd du=some (.lst (dr.map V.ref))/\StL Hd dr due/\Hd ll=some (.lst (lr.map V.ref))/\StL Hd lr ly/\BF Ae Aa t ks due ly f i 0/\ks.length=k0+ly.length)
   ⟨[],[],ks,f,Af,v5,v6,v7,v8,rfl,sm.trans s7,s7 _ _ d,b.same s7,s7 _ _ n,SD.same s7,qA1,.nil,B,aq.symm⟩ (by rintro i σ Hd _ ⟨_,_,_,_,_,_,_,_,_,_,_,_,_,z,_⟩;exact Ab2 z) ?_ ?_⟩
  ·clear s7 d b n SD B sm ln bq aq;refineλi x σ Hd hx bb N1 bs=>opq λc3 b7=>?_;obtain⟨lr,ly,ks,f,Af,v5,v6,v7,v8,rfl,sm,d,b,n,SD,a0,SL,B,a2⟩:=bb;obtain⟨sr,bg,rfl⟩:=qCR hx;obtain⟨p,a8,a9⟩:=qAV SD bg;refine b7 ?_;have ri:Rise (Ae.length:Int) p:=((B.duem p).mp (A9 a8)).1.rise;have ca:p.length<=12:=by have:=ri.len;lia
   have a5:p∈ks:=B.full t p (A7 _) ((B.duem p).mp (A9 a8)).1;refine⟨_,rfl,_,rfl,_,rfl,a,sr,Ae,p,Aa,rfl,hN.same sm,wf,by lia,a9,by lia,λl rs H3 s3 fl gl ML=>?_⟩
   have bx:rs.length=(qD7 Ae p Aa).length:=C6 ML;refine⟨l,rfl,⟨_,Ab2 gl⟩,qQ7 (a:=l) (xs:=rs.map V.ref) (λk σ Hd=>∃(lr:List Addr) (ly ks:Aa0) (f:List Int->Nat) (Af:List (List Key×V)) (v6 v7 v8:Option V),σ=[some (.ref a),some (.int Aa),some (.ref j),some (.ref du),some (.ref ll),some (.ref sr),v6,v7,v8]/\Same H Hd/\Hd j=some (.dT Af)/\EntZ Hd Af ks f (PrvH Ae Aa ks f)/\Hd du=some (.lst (dr.map V.ref))/\StL Hd dr due/\Hd ll=some (.lst (lr.map V.ref))/\StL Hd lr ly/\BF Ae Aa t ks due ly f i k/\ks.length=k0+ly.length/\Hd l=some (.lst (rs.map V.ref))/\MovL Hd rs (qD7 Ae p Aa)/\p∈ks)
    ⟨lr,ly,ks,f,Af,v6,v7,v8,rfl,sm.trans s3,s3 _ _ d,b.same s3,s3 _ _ n,SD.same s3,s3 _ _ a0,SL.same s3,B,a2,gl,ML,a5⟩ (by rintro k σ Hd _ ⟨_,_,_,_,_,_,_,_,_,_,_,_,_,_,_,_,_,_,z,_⟩;exact Ab2 z) ?_ ?_⟩
   ·have nl:j≠l/\ll≠l:=⟨qA6 d fl,qA6 a0 fl⟩;clear d b n SD a0 SL B a2 sm gl ML s3 a5 a9;refineλk x σ Hd hx b6 N2 au=>opq λc4 b8=>?_;obtain⟨lr,ly,ks,f,Af,v6,v7,v8,rfl,sm,d,b,n,SD,a0,SL,B,a2,gl,ML,a5⟩:=b6;obtain⟨mv,c1,rfl⟩:=qCR hx;obtain⟨⟨Ac,wk⟩,af,ae⟩:=qAV ML c1;refine b8 ?_;dsimp only at ae;obtain⟨c5,an,a9⟩:=qAV SD bg;rw[a8] at an;cases an;have hw:=(due_iff.mp (A9 af)).1.1;refine⟨_,rfl,_,rfl,sr,mv,p,Ac,wk,rfl,a9,by lia,ae,hw,λr cc H4 s4 gr bt=>?_⟩
    have e2:=qbJ (m:=(Ac,wk)) ri hw bt;rw[e2] at gr;have bm:=sm.trans s4;have a6:=s4 _ _ d;have a1:=b.same s4;have am:=s4 _ _ n;have be:=SD.same s4;have ak:=s4 _ _ a0;have av:=SL.same s4;have bl:=s4 _ _ gl;have bc:=ML.same s4;have al:=s4 _ _ a9;have ao:=s4 _ _ ae;have lb:=B.len;clear d b n SD a0 SL gl ML a9 ae;refine⟨_,rfl,_,rfl,j,_,rfl,.inr ⟨Af,keyS (behL p (Ac,wk)),r,.inl a6,rfl,by rw[qDT];exact gr,rfl⟩,_,rfl,?_⟩
    by_cases a7:behL p (Ac,wk)∈ks
    ·obtain⟨v,ev,_⟩:=a1.val a7;rw[ev];refine iteF ?_;exact au _ _ ⟨lr,ly,ks,f,Af,_,_,_,rfl,bm,a6,a1,am,be,ak,av,B.hit a8 af a7,a2,bl,bc,a5⟩
    ·rw[a1.none a7];refine iteT ?_;obtain⟨v,ev,vr,xx,yy,e6,gv⟩:=a1.val a5;subst e6;have dg:DGet H4 j (.ref sr) (some (.ref vr)):=by
      rw[<- ev];exact .inr ⟨Af,keyS p,sr,.inl a6,rfl,by rw[qDT];exact al,rfl⟩
     have B2:=B.add a8 af a7;have bw:=B2.len;rw[B7,F1] at bw;have c9:lr.length=ly.length:=C6 av;have ce:=a1.len;refine⟨_,rfl,_,rfl,j,.ref vr,rfl,dg,vr,_,_,_,rfl,rfl,Ac0 gv,rfl,_,rfl,mv,_,_,_,rfl,rfl,Ac0 ao,rfl,rfl,_,rfl,?_⟩;obtain⟨z,ai,bj⟩:∃z:Nat,(if decide (V.str Ac=V.str "do")=true then z=1 else z=0)/\z=if((Ac,wk):Mv).1=C0 "do" then 1 else 0:=by
      by_cases c:Ac=C0 "do"
      ·exact⟨1,by rw[if_pos (decide_eq_true (congrArg V.str c))],by rw[if_pos c]⟩
      ·exact⟨0,by rw[if_neg (λq=>c (V.str.inj (of_decide_eq_true q)))],by rw[if_neg c]⟩
     rw[<- bj] at B2;have bd:∀(y:Int) (H5:Hp) (tp:Addr),y=((f p+z:Nat):Int)->H4 tp=none->H5=Ag H4 tp (.tup [.int y,.ref sr,.ref mv])->∃H6 H7,DPut H5 j (.ref r) (.ref tp) H6/\H6 ll=some (.lst (lr.map V.ref))/\H7=Ag H6 ll (.lst (lr.map V.ref++[.ref r]))/\
       ∃(lr:List Addr) (ly ks:Aa0) (f:List Int->Nat) (Af:List (List Key×V)),Same H H7/\H7 j=some (.dT Af)/\EntZ H7 Af ks f (PrvH Ae Aa ks f)/\H7 du=some (.lst (dr.map V.ref))/\StL H7 dr due/\H7 ll=some (.lst (lr.map V.ref))/\StL H7 lr ly/\BF Ae Aa t ks due ly f i (k+1)/\ks.length=k0+ly.length/\H7 l=some (.lst (rs.map V.ref))/\MovL H7 rs (qD7 Ae p Aa)/\p∈ks:=by
      intro y H5 tp ey ab e5;subst ey e5;have s5:=qA4 ab (.tup [.int ((f p+z:Nat):Int),.ref sr,.ref mv]);have g5:(Ag H4 tp (.tup [.int ((f p+z:Nat):Int),.ref sr,.ref mv])) tp=some (.tup [.int ((f p+z:Nat):Int),.ref sr,.ref mv]):=qA1;generalize Ag H4 tp (.tup [.int ((f p+z:Nat):Int),.ref sr,.ref mv])=H5 at s5 g5;have a4:=s5 _ _ a6;have b3:=s5 _ _ gr;have bo:=s5 _ _ ak;have nt:∀kk xs,HO.dT kk≠.tup xs:=λkk xs q=>by cases q
      have ag:∀kk xs,HO.lst kk≠.tup xs:=λkk xs q=>by cases q
      have a3:(Ag H5 j (.dT (putK Af (keyS (behL p (Ac,wk))) (.ref tp)))) ll=some (.lst (lr.map V.ref)):=(qA9 ap.1).trans bo;refine⟨_,_,.inr ⟨Af,keyS (behL p (Ac,wk)),r,a4,rfl,by rw[qDT];exact b3,qAQ (by lia),rfl⟩,a3,rfl,lr++[r],ly++[behL p (Ac,wk)],ks++[behL p (Ac,wk)],_,_,qAB (qAB (bm.trans s5) ad) bu,?_,(((a1.same s5).snoc (m:=(Ac,wk)) a7 g5 (s5 _ _ al) (s5 _ _ ao) (λg e=>PrvH.snoc a5 (A9 af) a7 bj e)).put a4 (nt _)).put a3 (ag _),?_,((be.same s5).put a4 (nt _)).put a3 (ag _),?_,(((av.same s5).snoc b3).put a4 (nt _)).put a3 (ag _),B2,?_,?_,((bc.same s5).putG a4 (nt _)).putG a3 (ag _),B4.mpr (.inl a5)⟩
      ·rw[qA9 ap.1.symm,qA1]
      ·rw[qA9 ap.2.symm,qA9 bn.symm];exact s5 _ _ am
      ·rw[qA1,qBF]
      ·simp only[B7,F1];lia
      ·rw[qA9 nl.2.symm,qA9 nl.1.symm];exact s5 _ _ bl
     refine ite2 (λck=>?_) (λck=>?_)
     ·rw[if_pos ck] at ai;refine⟨_,_,rfl,rfl,_,rfl,_,rfl,_,rfl,(by show 3<=B12;decide),λtp ab=>?_⟩
      obtain⟨H6,H7,dp,g6,e7,ar,az,as,f2,ac,x1,x2,x3,x4,x5,x6,x7,x8,x9,b0,aw,ax⟩:=bd _ _ tp (by rw[ai]) ab rfl
      subst e7;refine⟨_,rfl,_,rfl,j,H6,rfl,dp,_,rfl,.inl ⟨rfl,_,Ab2 g6⟩,_,rfl,ll,_,_,rfl,rfl,g6,qAQ (by rw[A0];lia),?_⟩
      exact au _ _ ⟨ar,az,as,f2,ac,_,_,_,rfl,x1,x2,x3,x4,x5,x6,x7,x8,x9,b0,aw,ax⟩
     ·rw[if_neg ck] at ai;refine⟨_,_,rfl,rfl,_,rfl,_,rfl,_,rfl,(by show 3<=B12;decide),λtp ab=>?_⟩
      obtain⟨H6,H7,dp,g6,e7,ar,az,as,f2,ac,x1,x2,x3,x4,x5,x6,x7,x8,x9,b0,aw,ax⟩:=bd _ _ tp (by rw[ai]) ab rfl
      subst e7;refine⟨_,rfl,_,rfl,j,H6,rfl,dp,_,rfl,.inl ⟨rfl,_,Ab2 g6⟩,_,rfl,ll,_,_,rfl,rfl,g6,qAQ (by rw[A0];lia),?_⟩
      exact au _ _ ⟨ar,az,as,f2,ac,_,_,_,rfl,x1,x2,x3,x4,x5,x6,x7,x8,x9,b0,aw,ax⟩
   ·refineλσ Hd b5=>opq λc7 ba=>?_;obtain⟨lr,ly,ks,f,Af,v6,v7,v8,rfl,sm,d,b,n,SD,a0,SL,B,a2,gl,ML,a5⟩:=b5;refine ba ?_;rw[A0,bx] at B;exact bs _ _ ⟨lr,ly,ks,f,Af,_,_,_,_,rfl,sm,d,b,n,SD,a0,SL,B.next a8 (A7 _),a2⟩
  ·refineλσ Hd bk=>opq λc8 b2=>?_;obtain⟨lr,ly,ks,f,Af,v5,v6,v7,v8,rfl,sm,d,b,n,SD,a0,SL,B,a2⟩:=bk;refine b2 ?_;rw[A0,ay] at B;have B2:=B.level (A7 _);have lb:=B2.len;refine⟨_,rfl,b4 _ _ ⟨_,?_,ll,lr,ly,ks,f,Af,t+1,_,_,_,_,_,rfl,rfl,sm,d,b,a0,SL,B2⟩⟩;rw[if_neg hz];by_cases c:ly=[]
   ·rw[if_pos c,a2,c,K4]
    lia
   ·have:0<ly.length:=A25.mpr c;rw[if_neg c,a2]
    lia
theorem sc_best_end:FnScope ["reached","asked","ends"] ["reached","asked"] (qA7 qCO):=qB2
theorem ok_best_end (F:Fun K "best_end" "best_end" qCO f fd) (hcd:fd.code=.ref cc) (hBM:BM mg base) (qF1:hdIn K cc Pt=true) (qD5:Clb P w K mg base 1 qFX qIV "has_all" ["results","works"] qSN) (qU0:mg "min" = none):FnOk P w K mg base CX0 2 f fd ["reached","asked"] (qVQ Pt):=by
 refine F.okL hcd sc_best_end (λvs H Q E h=>?_) (λA ah s H vs Q E hr h=>?_)
 ·obtain⟨d,t,o,Af,g,l,e,rfl,_⟩:=h
  rfl
 obtain⟨d,t,o,Af,g,l,e,rfl,ad,hd,a0,lk,hT,la,q⟩:=h;have hu:=qI4 hr;have an:=hu2_of hr;have rm:Room 1 _:=hr;have ar:Room 1 _:=hr;refine⟨_,(qA3 (qUC (i:=2) sc_best_end.nd rfl rfl rfl (lcs (own:=["stand"]) (fv:=[1]) (by kernel_rfl)) (qT1 (pv 0)) (λz1=>qDS 0) (λz1=>(qH7 (qEI (qAI qD5 hr rfl (qA0 (pv 0) (qA0 (pv 1) qA2)))))) (λz1=>(pv 0)) (by kernel_rfl)) (qA5 (qAC (qZI (p:="stand") (fv:=[0]) (q:="best_end.<locals>.<lambda>") rm rfl rfl qU0 qYG hBM rfl qF1 (by kernel_rfl) (lms (by kernel_rfl)) rfl (λ_ _ _ _ _=>rfl) (qhA an) (qA0 (pv 2) qA2) (λz2=>(qAT (qA0 (qBT (qIS (K:=K) rfl) (qBU (lm_hu _) (pv 1) (pv 0) (λ_ _=>rfl)) qA8 (λ_ _=>rfl)) (qA0 (pv 0) qA2)))) qJ5)))),?_⟩
 try dsimp only[Cx.nox,Cx.wish,cxOf]
 have ln:=a0.len;refine⟨_,rfl,d,o,Af,rfl,hd,λle af=>?_⟩;refine qZT (p:=le) (a:=d) (o:=o) (Af:=Af) (λk σ Hd=>∃(v0:Option V) (er:List Addr),σ=[v0,some (.ref t)]/\Same H Hd/\Hd le=some (.lst (er.map V.ref))/\StL Hd er ((g.take k).filter λs=>decide (∀x∈e,x∈s))) ?_ ?_ ?_ ?_
 ·exact⟨none,[],rfl,qA4 af _,qA1,.nil⟩
 ·refineλk σ Hd hk ac=>opq λas ag=>?_;obtain⟨v0,er,rfl,sd,_⟩:=ac;refine ag ?_;exact sd _ _ hd
 ·refineλk a8 v r σ Hd y a6 ae=>opq λao aa=>?_;obtain⟨v0,er,rfl,sd,ge,SE⟩:=ae;obtain⟨m,u,e1,v3⟩:=qAV a0 y;refine aa ?_;dsimp only at e1;subst e1;rw[qDT] at a6;have aq:=(A3.mp u).1;have lE:er.length=((g.take k).filter λs=>decide (∀x∈e,x∈s)).length:=C6 SE;have ai:=F2 (λs:List Int=>decide (∀x∈e,x∈s)) (g.take k);rw[D8] at ai;refine⟨_,rfl,_,rfl,true,r,t,m,e,rfl,a6,.inl (sd _ _ hT),la,λH2 n=>⟨_,rfl,?_⟩⟩;rw[C9,u,D0,Y3];by_cases c:∀x∈e,x∈m
  ·rw[decide_eq_true c];refine⟨_,rfl,_,n _ _ ge,qAQ (by rw[A0];lia),?_⟩
   rw[qBF];refine⟨_,er++[r],rfl,qAB (sd.trans n) af,qA1,?_⟩;rw[K8,if_pos (decide_eq_true c)];exact((SE.same n).snoc (n _ _ a6)).put (n _ _ ge) λxs z=>by cases z
  ·rw[decide_eq_false c];refine⟨_,er,rfl,sd.trans n,n _ _ ge,?_⟩;rw[K8,if_neg (by rw[decide_eq_false c];exact B1),List.filter_nil,K6]
   exact SE.same n
 refineλσ H1 a9=>opq λap ab=>?_;obtain⟨v0,er,rfl,s1,ge,SE⟩:=a9;refine ab ?_;rw[ln,G3] at SE;have lE:er.length=(g.filter λs=>decide (∀x∈e,x∈s)).length:=C6 SE;refine⟨_,rfl,s1 _ _ ad,le,er.map V.ref,(g.filter λs=>decide (∀x∈e,x∈s)).map λs=>(l s:Int)::s,?_⟩;have a8:∀(i:Nat) (x:V) (k:List Int),(er.map V.ref)[i]?=some x->((g.filter λs=>decide (∀x∈e,x∈s)).map λs=>(l s:Int)::s)[i]?=some k->∃r s,x=.ref r/\k=(l s:Int)::s/\s∈g/\(∀x∈e,x∈s)/\H1 r=some (.tup (s.map V.int)):=by
  intro i x k y hk;obtain⟨r,a7,rfl⟩:=qCR y;obtain⟨m,u,gs⟩:=qAV SE a7;rw[B6,u] at hk;cases hk;have hm:=B9.mp (A9 u);exact⟨r,m,rfl,rfl,hm.1,of_decide_eq_true hm.2,gs⟩
 have am:∀(i:Nat) (x:V) (k:List Int),(er.map V.ref)[i]?=some x->((g.filter λs=>decide (∀x∈e,x∈s)).map λs=>(l s:Int)::s)[i]?=some k->∀Hc,Sm0 H1 Hc->∃r s vr xx yy,x=.ref r/\k=(l s:Int)::s/\Hc r=some (.tup (s.map V.int))/\DGet Hc d (.ref r) (some (.ref vr))/\Hc vr=some (.tup [.int (l s:Int),xx,yy]):=by
  intro i x k y hk Hc sc;obtain⟨r,m,e1,e2,e3,e4,e5⟩:=a8 i x k y hk;obtain⟨v,ev,vr,xx,yy,e6,e7⟩:=a0.val e3;subst e6;have gr:=sc _ _ e5;refine⟨r,m,vr,xx,yy,e1,e2,gr,?_,sc _ _ (s1 _ _ e7)⟩;rw[<- ev];exact .inr ⟨Af,keyS m,r,.inr ⟨o,sc _ _ (s1 _ _ hd)⟩,rfl,by rw[qDT];exact gr,rfl⟩
 cases er with
 |nil=>
  have he:(g.filter λs=>decide (∀x∈e,x∈s))=[]:=L1.mp lE.symm;refine⟨.non,rfl,ge,by rw[A0,A0,he];rfl,λi x k y=>by simp at y,by rw[he];rfl,λH2 n=>(q H2 (s1.trans n)).1 λs hs c=>?_⟩
  have:s∈g.filter λs=>decide (∀x∈e,x∈s):=B9.mpr ⟨hs,decide_eq_true c⟩;rw[he] at this;cases this
 |cons r0 er=>
  cases eZ:((r0::er).map V.ref).zip ((g.filter λs=>decide (∀x∈e,x∈s)).map λs=>(l s:Int)::s) with
  |nil=>
   exfalso
   have:=congrArg R7 eZ;rw[z5,A0,A0,<- lE,C5,K4] at this
   lia
  |cons b rest=>
   obtain⟨k,h1,h2⟩:=qKN rest b;rw[<- eZ] at h1 h2;have ak:∀p:V×List Int,p∈((r0::er).map V.ref).zip ((g.filter λs=>decide (∀x∈e,x∈s)).map λs=>(l s:Int)::s)->∃i:Nat,((r0::er).map V.ref)[i]?=some p.1/\((g.filter λs=>decide (∀x∈e,x∈s)).map λs=>(l s:Int)::s)[i]?=some p.2:=by
    intro p hp;obtain⟨i,hi⟩:=J5 hp;rw[k9] at hi;exact⟨i,hi.1,hi.2⟩
   obtain⟨i,g1,g2⟩:=ak _ h1;obtain⟨r,m,e1,e2,e3,e4,e5⟩:=a8 i _ _ g1 g2;refine⟨qFG b rest,rfl,ge,by rw[A0,A0,lE],λi x k y hk Hc sc=>?_,rfl,λH2 n=>?_⟩
   ·obtain⟨r,m,vr,xx,yy,a1,a2,a3,a4,a5⟩:=am i x k y hk Hc sc;subst a1 a2;exact⟨_,rfl,_,rfl,d,.ref vr,rfl,a4,vr,_,_,_,rfl,rfl,Ac0 a5,rfl,_,rfl,(by show 2<=B12;decide),λp hp=>⟨qA4 hp _,p,r,_,m,rfl,rfl,qA1,by rw[qA9 (qA6 a3 hp)];exact a3⟩⟩
   ·have e1:qFG b rest=.ref r:=e1;rw[e1];refine(q H2 (s1.trans n)).2 r m (n _ _ e5) e3 e4 λs' aj c'=>?_;have hf:s'∈g.filter λs=>decide (∀x∈e,x∈s):=B9.mpr ⟨aj,decide_eq_true c'⟩;obtain⟨j,hj⟩:=J5 hf;have al:=(A3.mp hj).1;have a7:j<((r0::er).map V.ref).length:=by rw[A0,lE];exact al
    have hq:(((r0::er).map V.ref)[j],(l s':Int)::s')∈((r0::er).map V.ref).zip ((g.filter λs=>decide (∀x∈e,x∈s)).map λs=>(l s:Int)::s):=
     A9 (i:=j) (k9.mpr ⟨A4 a7,by rw[B6,hj];rfl⟩)
    have hl:=h2 _ hq;have e2:k=(l m:Int)::m:=e2;rw[e2] at hl;dsimp only at hl;rw[HT.lexLt_cons] at hl;by_cases c:(l s':Int)=(l m:Int)
    ·lia
    ·rw[if_neg c] at hl;have:=of_decide_eq_false hl
     lia
theorem MovL.rev {H:Hp}{b:List Addr}{c:List Mv}(h:MovL H b c):MovL H b.reverse c.reverse:=by
 induction h with
 |nil=>exact .nil
 |@cons r m l1 l2 a _ ih=>
  rw[Z4,Z4];exact X4 ih a
theorem sc_plan_to:FnScope ["reached","stand","plan"] ["reached","stand"] (qA7 qHP):=qB2
theorem ok_plan_to (F:Fun K "plan_to" "plan_to" qHP f fd):FnOk P w K mg base CX0 1 f fd ["reached","stand"] qVM:=by
 refine F.okA sc_plan_to λaj A a9 s H vs Q E hr h=>?_;obtain⟨d,t,o,Af,Ae,Aa,ks,fu,g,n,rfl,gd,ad,wf,RC,FR,lk,gt,u,q⟩:=h;have hu:=qI4 hr;refine⟨_,(qA3 (qAF (i:=2) sc_plan_to.nd rfl (E9 rfl) (qFN qA2)) (qA3 (qNU D4 (qE8 (qRE (qBT qBK (qBU hu (pv 0) (pv 1) (λ_ _=>rfl)) qA8 (λ_ _=>rfl)))) (qA3 (qEE (qNV G0 J8 J9 qD2 (pv 2) (qA0 (qBT qBK (qBU hu (pv 0) (pv 1) (λ_ _=>rfl)) qA8 (λ_ _=>rfl)) qA2))) (qA5 (qAF (i:=1) sc_plan_to.nd rfl (E9 rfl) (qBT qBK (qBU hu (pv 0) (pv 1) (λ_ _=>rfl)) qA8 (λ_ _=>rfl)))))) (qA3 (qEE (qf7 G0 PySem.F.slot_list_reverse PySem.F.type_list_reverse qUI (pv 2))) (qA5 (qAC (pv 2)))))),?_⟩
 try dsimp only[Cx.nox,Cx.wish,cxOf]
 have pv:=FR.1;obtain⟨u0,_,ae⟩:=RC.snd n u;have ep:pth fu g n=qFO g u0 n:=by unfold pth;rw[show 2*fu n-n.length=u0 by lia]
 have a8:=(qVX wf RC pv u).2.2.2;rw[ep] at a8;refine⟨(by show 0<=B12;decide),λk e=>?_⟩
 have s1:=qA4 e (.lst []);refine⟨λm σ c=>∃(tr:Addr) (cur:List Int) (rs:List Addr) (done:List Mv),σ=[some (.ref d),some (.ref tr),some (.ref k)]/\Same H c/\c tr=some (.tup (cur.map V.int))/\cur∈ks/\2*fu cur=m+cur.length/\c k=some (.lst (rs.map V.ref))/\MovL c rs done/\qFO g u0 n=qFO g m cur++done.reverse,
  ⟨u0,t,n,[],[],rfl,s1,s1 _ _ gt,u,ae,qA1,.nil,by simp⟩,?_⟩
 refineλm σ c a6=>opq λah a7=>?_;obtain⟨tr,cur,rs,done,rfl,sm,l,j,em,a,ML,ed⟩:=a6;refine a7 ?_;have ld:rs.length=done.length:=C6 ML;have ai:done.length+1<=ks.length:=by
  have:=congrArg R7 ed;rw[B7,A19] at this
  lia
 obtain⟨v,ev,vx⟩:=(ad.same sm).val j;rcases pv cur j with⟨a1,a2,a3⟩|⟨p,mv,a1,a2,a3,a4,a5⟩
 ·rw[a2] at vx;obtain⟨b,rfl,y⟩:=vx;have dg:DGet c d (.ref tr) (some (.ref b)):=.inr ⟨Af,keyS cur,tr,.inr ⟨o,sm _ _ gd⟩,rfl,by rw[qDT];exact l,ev.symm⟩
  refine⟨_,rfl,_,rfl,d,.ref b,rfl,dg,b,_,_,_,rfl,rfl,Ac0 y,rfl,_,rfl,?_⟩;refine iteF ?_;refine⟨_,rfl,.inl ⟨rfl,_,Ab2 a⟩,k,_,rfl,rfl,a,?_⟩;refine⟨_,rfl,q k _ (qAB sm e) e ?_⟩;have en:qFO g m cur=[]:=by
   cases m with
   |zero=>rfl
   |succ m=>show(match g cur with|none=>[]|some (p,m')=>qFO g m p++[m'])=[];rw[a2]
  rw[en,d5] at ed;rw[ep,ed];refine⟨rs.reverse,by rw[qA1,List.map_reverse],?_⟩
  exact(MovL.rev ML).putG a λx z=>by cases z
 ·rw[a1] at vx;obtain⟨b,rp,rm,rfl,y,aa,af⟩:=vx;have dg:DGet c d (.ref tr) (some (.ref b)):=.inr ⟨Af,keyS cur,tr,.inr ⟨o,sm _ _ gd⟩,rfl,by rw[qDT];exact l,ev.symm⟩
  have a0:=em;rw[a5] at a0;obtain⟨v',e1,e2⟩:=qND RC a2 a3 (by rw[<- a4];exact a0)
  subst e1;refine⟨_,rfl,_,rfl,d,.ref b,rfl,dg,b,_,_,_,rfl,rfl,Ac0 y,rfl,_,rfl,?_⟩;refine iteT ?_;refine qd1 λN0 ac=>?_;refine⟨_,rfl,.inl ⟨rfl,_,Ab2 a⟩,_,rfl,_,rfl,d,.ref b,rfl,dg,b,_,_,_,rfl,rfl,Ac0 y,rfl,k,_,_,rfl,rfl,a,qAQ (by rw[A0];lia),?_⟩
  have s2:Same H (Ag c k (.lst (rs.map V.ref++[V.ref rm]))):=qAB sm e;have nt:∀kk x,HO.lst kk≠.tup x:=λkk x q=>by cases q
  have kp:∀(r:Addr) (x:List V),c r=some (.tup x)->(Ag c k (.lst (rs.map V.ref++[V.ref rm]))) r=some (.tup x):=λr x gg=>by
   rw[qA9 (qC1 gg a λz=>nt _ _ z.symm)];exact gg
  have ag:DGet (Ag c k (.lst (rs.map V.ref++[V.ref rm]))) d (.ref tr) (some (.ref b)):=.inr ⟨Af,keyS cur,tr,.inr ⟨o,s2 _ _ gd⟩,rfl,by rw[qDT];exact kp _ _ l,ev.symm⟩
  refine⟨_,rfl,_,rfl,d,.ref b,rfl,ag,b,_,_,_,rfl,rfl,Ac0 (kp _ _ y),rfl,?_⟩;refine ac _ _ ⟨v',by lia,rp,p,rs++[rm],done++[mv],rfl,s2,kp _ _ aa,a2,e2,by rw[qA1,qBF],?_,?_⟩
  ·exact MovL.putG (X4 ML af) a (nt _)
  ·rw[ed];have ab:qFO g (v'+1) cur=qFO g v' p++[mv]:=by show(match g cur with|none=>[]|some (p,m')=>qFO g v' p++[m'])=_;rw[a1]
   rw[ab,U2,L0]
   rfl
theorem qKK:FnScope ["works","asked"] ["works","asked"] (qA7 qCX):=qB2
theorem ok_part_numbers (F:Fun K "part_numbers" "part_numbers" qCX f fd) (r:mg "tuple" = none):FnOk P w K mg base CX0 1 f fd ["works","asked"] qNJ:=by
 refine F.okA qKK λa5 A a1 s H vs Q E hr h=>?_;obtain⟨t,u,o,Ad,rfl,hT,hU,nd,la,lw,a0,q⟩:=h;refine⟨_,(qA5 (qAC (qB0 qBC rfl r qBX (qA0 (qGX rfl (lcs (own:=["work"]) (fv:=[0]) (by kernel_rfl)) (qE9 (pv 1)) (λz1=>qDS 0) (λz1=>qC7) (λz1=>(qb1 (X:=lcCx _ _ _ _ z1) n8 n9 o5 (qKV (K:=K) rfl) (pv 1) (qA0 (pv 0) qA2)))) qA2)))),?_⟩
 try dsimp only[Cx.nox,Cx.wish,cxOf]
 refine⟨_,rfl,u,rfl,⟨_,Ac0 hU⟩,λp hp=>?_⟩;refine qJ7 (p:=p) (a:=u) (xs:=Ad.map V.int) (λi σ d=>∃(v0:Option V),σ=[v0,some (.ref t)]/\Same H d/\d p=some (.lst ((qBH o (Ad.take i)).map V.int))) ?_ ?_ ?_ ?_
 ·exact⟨none,rfl,qA4 hp _,qA1⟩
 ·rintro i σ d hi ⟨v0,rfl,sm,_⟩;exact Ac0 (sm _ _ hU)
 ·refineλi x σ d hx m=>opq λa3 n=>?_;obtain⟨v0,rfl,sm,b⟩:=m;obtain⟨y,v,rfl⟩:=qAY hx;refine n ?_;have lt:=(A3.mp v).1;have g:=hT.same sm;have hy:=a0 y (A9 v);obtain⟨j,z⟩:=J5 hy;have lk:(qBH o (Ad.take i)).length<=i:=E3 (J7 _ _) (by rw[D8];lia)
  have first:∀k,k<j->o[k]?≠some y:=λk hk e=>by
   obtain⟨h1,e1⟩:=A3.mp e;obtain⟨h2,e2⟩:=A3.mp z;exact absurd (e1.trans e2.symm) (G2.mp nd k j h1 h2 hk)
  refine⟨_,rfl,⟨t,_,rfl,g⟩,_,rfl,t,o,y,j,rfl,rfl,g.sq,z,first,_,b,qAZ (by rw[A0];lia),_,rfl,qAB sm hp,?_⟩
  rw[qA1];unfold qBH;rw[C9,v,D0,V4,F9,qDG nd z,C2]
  rfl
 ·refineλσ d l=>opq λa4 c=>?_;obtain⟨v0,rfl,sm,b⟩:=l;refine c ?_;rw[A0,G3] at b;refine⟨p,_,rfl,.inl ⟨Ab2 b,λr' a2=>?_⟩⟩;exact q r' _ (sm.trans (qA4 a2 _)) qA1
theorem sc_fewest:FnScope ["net","asked","works","part","wanted","rooms","end","reached"] ["net","asked"] (qA7 qJT):=qB2
theorem ok_fewest (F:Fun K "fewest" "fewest" qJT f fd) (am:Clb P w K mg base 1 qCC qDJ "all_needed" ["net","asked"] qPB) (aw:Clb P w K mg base 2 qER qHG "part_net" ["net","works"] qNI) (az:Clb P w K mg base 1 qCZ qFS "part_numbers" ["works","asked"] qNJ) (au:Clb P w K mg base 4 qC5 qEO "stands_reached" ["net","rooms"] qNG) (an:Clb P w K mg base 2 qDN qLH "best_end" ["reached","asked"] (qVQ Pt)) (ar:Clb P w K mg base 1 qLI qUZ "plan_to" ["reached","stand"] qVM) (aq:mg "tuple" = none):FnOk P w K mg base CX0 5 f fd ["net","asked"] (qaW Pt):=by
 refine F.okA sc_fewest λbf A ao s H vs Q E hr h=>?_;obtain⟨a,t,l,u,rfl,ad,hN,wf,bg,⟨hT,rA⟩,a1,q⟩:=h;have bb:Room 4 _:=hr;refine⟨_,(qA3 (qAF (i:=2) sc_fewest.nd rfl (r8 rfl) (qB0 qLM rfl aq qBX (qA0 (qAI am hr rfl (qA0 (pv 0) (qA0 (pv 1) qA2))) qA2))) (qA3 (qAF (i:=3) sc_fewest.nd rfl (E9 rfl) (qAI aw hr rfl (qA0 (pv 0) (qA0 (pv 2) qA2)))) (qA3 (qAF (i:=4) sc_fewest.nd rfl (E9 rfl) (qAI az hr rfl (qA0 (pv 2) (qA0 (pv 1) qA2)))) (qA3 (qAF (i:=5) sc_fewest.nd rfl (E9 rfl) qA8) (qA3 (qAF (i:=6) sc_fewest.nd rfl (E9 rfl) qJ5) (qA3 (qNU D4 (qE8 (qWD (pv 6))) (qA3 (qaX (i:=5) sc_fewest.nd rfl (E9 rfl) qA8 qb9) (qA3 (qAF (i:=7) sc_fewest.nd rfl (E9 rfl) (qAI au hr rfl (qA0 (pv 3) (qA0 (pv 5) qA2)))) (qA5 (qAF (i:=6) sc_fewest.nd rfl (E9 rfl) (qAI an hr rfl (qA0 (pv 7) (qA0 (pv 4) qA2)))))))) (qA5 (qAC (qAT (qA0 (pv 5) (qA0 (qGX rfl (lcs (own:=["word","number"]) (fv:=[2]) (by kernel_rfl)) (qBO (qAI ar hr rfl (qA0 (pv 7) (qA0 (pv 6) qA2)))) (λz2=>qcM (K:=K) (n:=2) rfl rfl (qBP (qDS 0) (qBP (qDS 1) qH8)) rfl rfl) (λz2=>qC7) (λz2=>(qAT (qA0 (pv 0) (qA0 (qBT (qIS (K:=K) rfl) (pv 2) (pv 1) (λ_ _=>rfl)) qA2))))) qA2))))))))))),?_⟩
 try dsimp only[Cx.nox,Cx.wish,cxOf]
 refine⟨_,rfl,_,rfl,a,t,l,u,rfl,hN,wf,by lia,hT,rA.in_,λla k H1 s1 b9 b2 N=>?_⟩
 refine⟨la,_,rfl,Ab2 b2,λtw ob b3 oc od=>?_⟩;have s2:=s1.trans (qA4 b3 (.frz ob (.tup (k.map V.int))));have v:BareT (Ag H1 tw (.frz ob (.tup (k.map V.int)))) tw (k.map V.int):=⟨ob,qA1,oc,od⟩;generalize Ag H1 tw (.frz ob (.tup (k.map V.int)))=H2 at s2 v;refine⟨_,rfl,_,rfl,a,tw,l,k,rfl,hN.same s2,wf,by lia,(let⟨o,e,_⟩:=v;.inr ⟨o,e⟩),N.1,λb H3 s3 hB=>?_⟩
 have ai:=s2.trans s3;have lw:=N.1.len;have ha:∀x∈u,x∈k:=λx hx=>(N.2 x).mpr (.ask hx);have al:=rA.len;refine⟨_,rfl,_,rfl,tw,t,k,u,rfl,v.same s3,ai _ _ hT,N.1.nodup,by lia,by lia,ha,λwt H4 s4 av=>?_⟩
 have a4:=ai.trans s4;have ag:=(v.same s3).same s4;have b1:=hB.same s4;have wp:WFn (qBY l k):=qCQ wf N.1;have lp:=qBV l k;have rW:=qEH N rA;have w1:1<=k.length:=by
  cases u with
  |nil=>simp at a1
  |cons x u=>exact Y9 (ha x (by simp))
 have lW:=rW.len;refine⟨λm σ Hc=>∃(r:Nat) (e:V) (v7:Option V),σ=[some (.ref a),some (.ref t),some (.ref tw),some (.ref b),some (.ref wt),some (.int (r:Int)),some e,v7]/\Same H4 Hc/\
   ((e=.non/\m=k.length+1 - r/\r<=k.length/\∀ r':Int,1<=r'->r'<=(r:Int)->¬ qFE l k u r')\/
    (∃rr d o Af ks fu g st,e=.ref rr/\v7=some (.ref d)/\m=0/\Hc d=some (.frz o (.dT Af))/\EntX Hc Af ks fu g/\Rch (qBY l k) (r:Int) ks fu/\PrvH (qBY l k) (r:Int) ks fu g/\Hc rr=some (.tup (st.map V.int))/\(st∈ks/\∀x∈qBH k u,x∈st)/\LeastR l k u (r:Int))),
  ⟨_,0,.non,none,rfl,Same.refl _,.inl ⟨rfl,rfl,E7 _,λr' h1 h2=>absurd h1 (by lia)⟩⟩,?_⟩
 refineλm σ Hc a9=>opq λba ab=>?_;obtain⟨r,e,v7,rfl,sm,ax⟩:=a9;refine ab ?_;rcases ax with⟨rfl,rfl,rn,nb⟩|⟨rr,d,o,Af,ks,fu,g,st,rfl,rfl,rfl,gd,ent,RC,FR,a3,B,LR⟩
 ·refine⟨_,rfl,_,rfl,?_⟩;refine iteT ?_;refine qd1 λN0 a7=>?_;refine⟨_,rfl,_,_,rfl,rfl,?_⟩;refine⟨_,rfl,_,rfl,b,qBY l k,(r:Int)+1,rfl,b1.same sm,wp,by lia,λd o Af ks fu g H5 s5 be gd ent RC FR=>?_⟩
  have y:=sm.trans s5;have lk:=RC.len;have pw:2^(qBY l k).length<=2^12:=W1 (by decide) (by lia)
  refine⟨_,rfl,_,rfl,d,wt,o,Af,ks,fu,qBH k u,rfl,y _ _ (a4 _ _ ad),gd,ent.ent,E3 lk (by lia),y _ _ av,by lia,λH6 s6=>⟨λhn=>?_,λrr st a3 ah a0 a5=>?_⟩⟩
  ·have nd:=qb6 N rA (qQP wp rW RC hn);have ak:∀r':Int,1<=r'->r'<=((r+1:Nat):Int)->¬qFE l k u r':=λr' h1 h2=>by
    by_cases c:r'<=(r:Int)
    ·exact nb r' h1 c
    ·rw[show r'=((r+1:Nat):Int) by lia]
     exact nd
   have b0:r+1<=k.length:=by
    apply O6;intro z;exact ak (k.length:Int) (by lia) (by lia) (qXM wf N)
   exact a7 _ _ ⟨k.length+1-(r+1),by lia,r+1,.non,_,rfl,y.trans s6,.inl ⟨rfl,rfl,b0,ak⟩⟩
  ·have dn:=qRM N rA (qQO wp rW RC ah a0 a5);refine a7 _ _ ⟨0,by lia,r+1,.ref rr,_,rfl,y.trans s6,.inr ⟨rr,d,o,Af,ks,fu,g,st,rfl,rfl,rfl,s6 _ _ gd,ent.same s6,RC,FR,a3,⟨ah,a0⟩,by lia,dn,λr' h1 h2=>nb r' h1 (by lia)⟩⟩
 ·refine⟨_,rfl,_,rfl,?_⟩;refine iteF ?_;have lk:=RC.len;have pw:2^(qBY l k).length<=2^12:=W1 (by decide) (by lia)
  refine⟨_,rfl,_,rfl,_,rfl,d,rr,o,Af,qBY l k,(r:Int),ks,fu,g,st,rfl,gd,ent,wp,RC,FR,E3 lk (by lia),a3,B.1,λl0 H6 s6 b8 PL=>?_⟩
  obtain⟨rs,ae,ML⟩:=PL;obtain⟨_,_,mv,b7⟩:=qVX wp RC FR.1 B.1;have b4:rs.length=(pth fu g st).length:=C6 ML;have af:=(ag.same sm).same s6;refine⟨l0,rfl,⟨_,Ab2 ae⟩,λp hp=>?_⟩;have fp:H p=none:=((a4.trans sm).trans s6).free hp;refine qHB (p:=p) (a:=l0) (xs:=rs.map V.ref) (λj σ Hd=>∃(v0 v1:Option V) (ts:List Addr),σ=[v0,v1,some (.ref tw)]/\Same H6 Hd/\Hd p=some (.lst (ts.map V.ref))/\MovL Hd ts (renM k ((pth fu g st).take j))) ?_ ?_ ?_ ?_
  ·exact⟨none,none,[],rfl,qA4 hp _,qA1,.nil⟩
  ·rintro j σ Hd hj ⟨v0,v1,ts,rfl,sd,_⟩;exact Ab2 (sd _ _ ae)
  ·refineλj x σ Hd hx aj=>opq λbc a8=>?_;obtain⟨v0,v1,ts,rfl,sd,gp,MT⟩:=aj;obtain⟨ap,b6,rfl⟩:=qCR hx;obtain⟨⟨Ac,wk⟩,a2,hH⟩:=qAV ML b6;refine a8 ?_;have hj:=(A3.mp a2).1;have a6:=sd _ _ hH;dsimp only at a6;obtain⟨_,w0,wb⟩:=mv _ (A9 a2);dsimp only at w0 wb;rw[lp] at wb;have hi:wk.toNat<k.length:=by lia
   have as:atI (k.map V.int) wk=some (.int (renW k wk)):=by
    have e:=qGZ (xs:=k.map V.int) (i:=wk) (x:=.int k[wk.toNat]) w0 (by rw[B6,A4 hi];rfl)
    rw[e];unfold renW;rw[A4 hi]
    rfl
   have lt:ts.length=(renM k ((pth fu g st).take j)).length:=C6 MT;unfold renM at lt;rw[A0,D8] at lt;refine⟨ap,_,rfl,Ac0 a6,rfl,_,_,rfl,_,_,rfl,rfl,?_⟩;refine⟨_,rfl,_,rfl,_,rfl,tw,_,_,_,rfl,rfl,(af.same sd).sq,as,(by show 2<=B12;decide),λtp ay=>?_⟩
   have s7:=qA4 ay (.tup [.str Ac,.int (renW k wk)]);refine⟨_,s7 _ _ gp,qAQ (by rw[A0];lia),_,_,ts++[tp],rfl,qAB (sd.trans s7) hp,by rw[qA1,qBF],?_⟩
   have er:renM k ((pth fu g st).take (j+1))=renM k ((pth fu g st).take j)++[(Ac,renW k wk)]:=by
    unfold renM;rw[C9,a2,D0,C2]
    rfl
   rw[er];exact MovL.putG (X4 (MT.same s7) qA1) (s7 _ _ gp) λxs z=>by cases z
  ·refineλσ H7 ac=>opq λbd aa=>?_;obtain⟨v0,v1,ts,rfl,sd,gp,MT⟩:=ac;refine aa ?_;rw[A0,b4,G3] at MT;refine⟨(by show 2<=B12;decide),λT b5=>?_⟩
   have s8:=qA4 b5 (.tup [.int (r:Int),.ref p]);exact q T p (r:Int) _ _ ((((a4.trans sm).trans s6).trans sd).trans s8) ⟨k,ks,fu,g,st,N,LR,RC,FR.1,B,rfl⟩ fp ⟨ts,s8 _ _ gp,MT.same s8⟩ qA1
theorem qPF:FnScope ["thing"] ["thing"] (qA7 qEX):=qB2
theorem ok_is_number (F:Fun K "is_number" "is_number" qEX f fd) (a:mg "isinstance" = none) (d:mg "int" = none) (c:mg "bool" = none):FnOk P w K mg base CX0 1 f fd ["thing"] qSK:=by
 refine F.okA qPF λe A b s H j Q E g h=>?_;obtain⟨i,rfl,q⟩:=h;refine⟨_,(qA5 (qAC (qMQ (qAG qCS rfl a qCK (qA0 (pv 0) (qA0 (qKP (v:=.ty "int") rfl d qfZ rfl) qA2))) (qMP (qb0 (qAG qCS rfl a qCK (qA0 (pv 0) (qA0 (qKP (v:=.ty "bool") rfl c qdU rfl) qA2)))))))),?_⟩
 try dsimp only[Cx.nox,Cx.wish,cxOf]
 refine⟨_,rfl,_,"int",_,true,rfl,TyOf.int i,qfK,_,rfl,?_⟩;refine⟨_,rfl,_,"bool",_,false,rfl,TyOf.int i,qfL,_,rfl,?_⟩;exact q
theorem qR8:FnScope ["thing","end"] ["thing","end"] (qA7 qGD):=qB2
theorem ok_is_below (F:Fun K "is_below" "is_below" qGD f fd) (b:Clb P w K mg base 1 qHI qQA "is_number" ["thing"] qSK):FnOk P w K mg base CX0 2 f fd ["thing","end"] qVR:=by
 refine F.okA qR8 λg A a s H j Q E c h=>?_;obtain⟨i,k,rfl,e,d,q⟩:=h;refine⟨_,(qA5 (qAC (qMQ (qAI b c rfl (qA0 (pv 0) qA2)) (qMP (qZK qcS qcR qA8 (pv 0) (pv 1)))))),?_⟩
 try dsimp only[Cx.nox,Cx.wish,cxOf]
 refine⟨_,rfl,i,rfl,_,rfl,?_⟩;refine⟨_,rfl,_,_,rfl,rfl,_,rfl,?_⟩;rw[decide_eq_true e];refine⟨_,rfl,_,_,rfl,rfl,?_⟩;dsimp only;rw[decide_eq_true d];exact q
theorem sc_is_rising:FnScope ["thing","end","least","number"] ["thing","end"] (qA7 qEW):=qB2
theorem ok_is_rising (F:Fun K "is_rising" "is_rising" qEW f fd) (y:Clb P w K mg base 2 qJ0 qRY "is_below" ["thing","end"] qVR) (u:mg "isinstance" = none) (t:mg "tuple" = none):FnOk P w K mg base CX0 3 f fd ["thing","end"] qKF:=by
 refine F.okA sc_is_rising λa7 A a1 s H vs Q E hr h=>?_;obtain⟨a,c,k,rfl,r,p,hl,q⟩:=h;refine⟨_,(qA3 (qC8 (qFM (qEI (qAG qQI rfl u qCK (qA0 (pv 0) (qA0 (qKP (v:=.ty "tuple") rfl t qBX rfl) qA2))))) (qA5 (qAC qEJ)) qAN) (qA3 (qAF (i:=2) sc_is_rising.nd rfl (E9 rfl) qA8) (qA3 (qB9 D4 rfl (qE9 (pv 0)) (qAJ (i:=3) sc_is_rising.nd rfl (E9 rfl)) (qA3 (qC8 (PW.pt (qLY (qFM (qEI (qAI y hr rfl (qA0 (pv 3) (qA0 (pv 1) qA2))))) (qJ4 (qAS qcR (pv 3) (pv 2) (qB4 _))))) (qA5 (qAC qEJ)) qAN) (qA5 (qAF (i:=2) sc_is_rising.nd rfl (E9 rfl) (qAU qCA (pv 3) qA8))))) (qA5 (qAC qEJ))))),?_⟩
 try dsimp only[Cx.nox,Cx.wish,cxOf]
 refine⟨_,rfl,_,"tuple",_,true,rfl,.inr ⟨a,_,rfl,r,rfl⟩,qb7 true,_,rfl,?_⟩;refine⟨_,rfl,a,rfl,⟨_,.inl r⟩,qHE (a:=a) (xs:=c.map V.int) (λi σ o=>∃(least:Int) (v3:Option V),σ=[some (.ref a),some (.int k),some (.int least),v3]/\o=H/\∀(x:Int),x∈c.drop i->least<=x)
  ⟨0,none,rfl,rfl,λx l=>(p.in_ x l).1⟩ ?_ ?_ ?_⟩
 ·refineλi σ o hi e=>opq λa5 j=>?_;obtain⟨least,v3,rfl,rfl,_⟩:=e;refine j ?_;exact .inl r
 ·refineλi x σ o l m=>opq λa3 n=>?_;obtain⟨least,v3,rfl,rfl,a2⟩:=m;obtain⟨z,hz,rfl⟩:=qAY l;refine n ?_;have d:=A9 hz;obtain⟨a0,ez⟩:=A3.mp hz;have ed:c.drop i=z::c.drop (i+1):=by rw[F4 a0,ez]
  refine⟨_,rfl,_,rfl,z,k,rfl,(p.in_ z d).1,(p.in_ z d).2,?_⟩;refine⟨_,rfl,_,rfl,_,rfl,_,_,rfl,rfl,_,rfl,?_⟩;have a6:least<=z:=a2 z (by rw[ed];exact E4 ..)
  rw[decide_eq_false (by lia:¬z<least)]
  refine⟨_,rfl,_,_,rfl,rfl,?_⟩;refine⟨z+1,_,rfl,rfl,λx l=>?_⟩;have up:=p.up.sublist (V6 i c);rw[ed,M7] at up;have:=up.1 x l
  lia
 ·refineλσ o g=>opq λa4 b=>?_;obtain⟨least,v3,rfl,rfl,_⟩:=g;refine b ?_;exact q _ (.refl _)
theorem qU7:FnScope ["thing"] ["thing"] (qA7 qHR):=qB2
theorem ok_is_pair (F:Fun K "is_pair" "is_pair" qHR f fd) (c:mg "isinstance" = none) (b:mg "tuple" = none) (qCD:mg "len" = none):FnOk P w K mg base CX0 1 f fd ["thing"] qP9:=by
 refine F.okA qU7 λg A d s H j Q E i h=>?_;obtain⟨a,x,y,rfl,e,q⟩:=h;refine⟨_,(qA5 (qAC (qMQ (qAG qCS rfl c qCK (qA0 (pv 0) (qA0 (qKP (v:=.ty "tuple") rfl b qBX rfl) qA2))) (qMP (qH9 qIN (qAG qAH rfl qCD qCM (qA0 (pv 0) qA2)) qA8 (qB4 _)))))),?_⟩
 try dsimp only[Cx.nox,Cx.wish,cxOf]
 refine⟨_,rfl,_,"tuple",_,true,rfl,TyOf.tup e,qb7 true,_,rfl,?_⟩;refine⟨_,rfl,a,_,rfl,.inr (Ac0 e),rfl,?_⟩;exact q
theorem qR7:FnScope ["net","rooms","thing"] ["net","rooms","thing"] (qA7 qGC):=qB2
theorem ok_is_stand (F:Fun K "is_stand" "is_stand" qGC f fd) (d:Clb P w K mg base 3 qF8 qJA "is_rising" ["thing","end"] qKF) (qCD:mg "len" = none):FnOk P w K mg base CX0 4 f fd ["net","rooms","thing"] qP8:=by
 refine F.okA qR7 λp A c s H v Q E r h=>?_;obtain⟨a,t,z,x,l,rfl,m,u,e,i,k,q⟩:=h;obtain⟨y,j,n⟩:=id m;have b:=C6 n;have o:=i.len;refine⟨_,(qA5 (qAC (qMQ (qAI d r rfl (qA0 (pv 2) (qA0 (qAG qAH rfl qCD qCM (qA0 (pv 0) qA2)) qA2))) (qMP (qH9 qcS (qAG qAH rfl qCD qCM (qA0 (pv 2) qA2)) (pv 1) (qB4 _)))))),?_⟩
 try dsimp only[Cx.nox,Cx.wish,cxOf]
 refine⟨_,rfl,_,rfl,a,_,rfl,.inr (Ac0 j),?_⟩;rw[A0,b];refine⟨t,l,_,rfl,.inl e,i,by lia,λH1 g=>⟨_,rfl,?_⟩⟩
 refine iteT ?_;refine⟨_,rfl,t,_,rfl,.inr (Ac0 (g _ _ e)),_,rfl,_,_,rfl,rfl,?_⟩;dsimp only;rw[A0,decide_eq_true k];exact q _ g
theorem qh8 {Af:List (List Key×V)}{z s:List Int}:(valV (putK Af (keyS z) (.bl true)) (keyS s)).isSome=(decide (s=z)||(valV Af (keyS s)).isSome):=by
 rw[qDB];by_cases e:s=z
 ·rw[e,if_pos rfl,decide_eq_true rfl];rfl
 ·rw[if_neg λh=>e (qI2 h),decide_eq_false e,o9]
theorem keyL {Af:List (List Key×V)}{z:List Int}:∀{ks:Aa0},Af.map (·.1)=ks.map keyS->(putK Af (keyS z) (.bl true)).map (·.1)=(if z∈ks then ks else ks++[z]).map keyS:=by
 intro ks h;have g:(Af.any λa=>decide (a.1=keyS z))=decide (z∈ks):=by
  rw[G6,decide_eq_true_eq,X2]
  constructor
  ·refineλb=>opq λi c=>?_;obtain⟨a,d,f⟩:=b;refine c ?_;have:a.1∈ks.map keyS:=by rw[<- h];exact X6 d
   obtain⟨y,k,e⟩:=D9.mp this;rw[of_decide_eq_true f] at e;rw[<- qI2 e];exact k
  ·intro j;have:keyS z∈Af.map (·.1):=by rw[h];exact X6 j
   obtain⟨a,d,f⟩:=D9.mp this;exact⟨a,d,decide_eq_true f⟩
 unfold putK;rw[g];by_cases e:z∈ks
 ·rw[decide_eq_true e,if_pos rfl,if_pos e,<- h,T6];refine O5 λa _=>?_;show(if a.1=keyS z then(a.1,V.bl true) else a).1=a.1
  split<;>rfl
 ·rw[decide_eq_false e,if_neg (by decide),if_neg e,C2,C2,h]
  rfl
theorem sc_are_closed:FnScope ["net","rooms","stands","known","stand","move"] ["net","rooms","stands"] (qA7 qE6):=qB2
theorem ok_are_closed (F:Fun K "are_closed" "are_closed" qE6 f fd) (ah:Clb P w K mg base 3 qGQ qLF "moves_of" ["net","rooms","stand"] qKG) (qB1:Clb P w K mg base 1 qC2 qDV "stand_behind" ["stand","move"] qHN):FnOk P w K mg base CX0 4 f fd ["net","rooms","stands"] qSO:=by
 refine F.okA sc_are_closed λaz A ae s H vs Q E hr h=>?_;obtain⟨a,l,Ae,Aa,ap,rs,ss,rfl,hN,wf,b0,gl,SL,l5,NV,q⟩:=h;have hu:=qI4 hr;refine⟨_,(qA3 (qAF (i:=3) sc_are_closed.nd rfl (E9 rfl) qZJ) (qA3 (qB9 D4 rfl (qBO (pv 2)) (qAJ (i:=4) sc_are_closed.nd rfl (E9 rfl)) (qA5 (qCG hu (pv 3) (pv 4) qEJ rfl))) (qA3 (qB9 D4 rfl (qT1 (qWB (pv 3))) (qAJ (i:=4) sc_are_closed.nd rfl (E9 rfl)) (qA5 (qB9 D4 rfl (qBO (qAI ah hr rfl (qA0 (pv 0) (qA0 (pv 1) (qA0 (pv 4) qA2))))) (qAJ (i:=5) sc_are_closed.nd rfl (E9 rfl)) (qA5 (qC8 (qE8 (qKQ hu (qAI qB1 hr rfl (qA0 (pv 4) (qA0 (pv 5) qA2))) (pv 3))) (qA5 (qAC qEJ)) qAN))))) (qA5 (qAC qEJ))))),?_⟩
 try dsimp only[Cx.nox,Cx.wish,cxOf]
 refine cut λN0 af=>?_;intro b d;have s1:=qA4 d (.dT []);have g1:(Ag H b (.dT [])) b=some (.dT []):=qA1;generalize Ag H b (.dT [])=H1 at s1 g1 ⊢;refine af _ _ (cut λN1 ai=>?_);have an:rs.length=ss.length:=C6 SL;refine⟨_,rfl,l,rfl,⟨_,Ab2 (s1 _ _ gl)⟩,qC4 (a:=l) (xs:=rs.map V.ref) (λi σ c=>∃(Af:List (List Key×V)) (ks:Aa0) (v4:Option V),σ=[some (.ref a),some (.int Aa),some (.ref l),some (.ref b),v4,none]/\Same H c/\c b=some (.dT Af)/\Af.map (·.1)=ks.map keyS/\(∀z:List Int,(valV Af (keyS z)).isSome=true↔z∈ss.take i)/\ks.length<=i/\∀z∈ks,z∈ss)
  ⟨[],[],none,rfl,s1,g1,rfl,λz=>by simp[valV],A7 _,λz hz=>nomatch hz⟩ (λi σ c _ hP=>by obtain⟨_,_,_,_,n,_⟩:=hP;exact Ab2 (n _ _ gl)) ?_ ?_⟩
 ·refineλi x σ c hx a9=>opq λaq a4=>?_;obtain⟨Af,ks,v4,rfl,n,gd,ek,vk,lk,ik⟩:=a9;obtain⟨r,er,rfl⟩:=qCR hx;obtain⟨z,ez,gz⟩:=qAV SL er;refine a4 ?_;have hi:=(A3.mp ez).1;have b1:Af.length=ks.length:=by have:=congrArg R7 ek;rw[A0,A0] at this;exact this
  have am:c r=some (.tup ((keyS z).map kV)):=by rw[qDT];exact n _ _ gz
  refine⟨_,rfl,_,rfl,b,_,rfl,DPut.t (k:=keyS z) gd am (qAQ (by lia)),?_⟩
  refine⟨_,_,_,rfl,qAB n d,qA1,keyL ek,λy=>?_,?_,λy hy=>?_⟩
  ·rw[qh8,G7,decide_eq_true_eq,vk,C9,ez,D0,B4,A6];exact or_comm
  ·split
   ·lia
   ·rw[B7];show _+1<=_
    lia
  ·by_cases e:z∈ks
   ·rw[if_pos e] at hy;exact ik y hy
   ·rw[if_neg e] at hy;rcases B4.mp hy with h|h
    ·exact ik y h
    ·rw[A6.mp h];exact A9 ez
 ·refineλσ c a3=>opq λar a5=>?_;obtain⟨Af,ks,v4,rfl,n,gd,ek,vk,lk,ik⟩:=a3;refine a5 ?_;rw[A0,an,G3] at vk;refine ai _ _ (cut λN2 ag=>?_);refine⟨_,rfl,b,_,rfl,gd,λo=>⟨b,o,_,rfl,qA1,?_⟩⟩;have sd:Same H (Ag c b (.frz o (.dT Af))):=qAB n d;have g:(Ag c b (.frz o (.dT Af))) b=some (.frz o (.dT Af)):=qA1;generalize Ag c b (.frz o (.dT Af))=Hd at sd g ⊢;refine qUY (a:=b) (o:=o) (Af:=Af) (λi σ He=>∃(v4 v5:Option V),σ=[some (.ref a),some (.int Aa),some (.ref l),some (.ref b),v4,v5]/\Same Hd He)
   ⟨v4,none,rfl,.refl _⟩ (λi σ He _ ⟨_,_,_,z⟩=>z _ _ g) ?_ ?_
  ·refineλi k v r σ He al gr a2=>opq λau a7=>?_;obtain⟨v4,v5,rfl,se⟩:=a2;refine a7 ?_;have hk:k∈ks.map keyS:=by rw[<- ek];exact X6 (f:=λx:List Key×V=>x.1) (A9 al)
   obtain⟨z,hz,rfl⟩:=D9.mp hk;rw[qDT] at gr;have ad:=ik z hz;have rz:=NV.rise z ad;have lz:=rz.len;refine⟨_,rfl,_,rfl,_,rfl,a,r,Ae,z,Aa,rfl,hN.same (sd.trans se),wf,by lia,gr,by lia,λlm rm H3 s3 fl gm ML=>?_⟩
   have as:rm.length=(qD7 Ae z Aa).length:=C6 ML;refine⟨lm,rfl,⟨_,Ab2 gm⟩,qC4 (a:=lm) (xs:=rm.map V.ref) (λk σ Hf=>∃(v5:Option V),σ=[some (.ref a),some (.int Aa),some (.ref l),some (.ref b),some (.ref r),v5]/\Same H3 Hf)
    ⟨v5,rfl,.refl _⟩ (λk σ Hf _ hP=>by obtain⟨_,_,zf⟩:=hP;exact Ab2 (zf _ _ gm)) ?_ ?_⟩
   ·refineλk x σ Hf hx aa=>opq λav p=>?_;obtain⟨v5,rfl,j⟩:=aa;obtain⟨mv,ao,rfl⟩:=qCR hx;obtain⟨⟨Ac,wk⟩,a0,u⟩:=qAV ML ao;refine p ?_;dsimp only at u;have hw:=(due_iff.mp (A9 a0)).1.1;refine⟨_,rfl,_,rfl,r,mv,z,Ac,wk,rfl,j _ _ (s3 _ _ gr),by lia,j _ _ u,hw,λr2 ay H4 s4 ac aj=>?_⟩
    have e2:=qbJ (m:=(Ac,wk)) rz hw aj;rw[e2] at ac;have ak:=(vk _).mpr (NV.shut z ad _ (A9 a0));refine⟨_,rfl,b,_,rfl,.inr ⟨Af,keyS (behL z (Ac,wk)),r2,.inr ⟨o,s4 _ _ (j _ _ (s3 _ _ (se _ _ g)))⟩,rfl,by rw[qDT];exact ac,rfl⟩,_,rfl,?_⟩
    rw[ak];exact⟨_,rfl,j.trans s4⟩
   ·refineλσ Hf ab=>opq λaw a1=>?_;obtain⟨v5,rfl,j⟩:=ab;refine a1 ?_;exact⟨_,_,rfl,se.trans (s3.trans j)⟩
  ·refineλσ He a8=>opq λax a6=>?_;obtain⟨v4,v5,rfl,se⟩:=a8;refine a6 ?_;exact ag _ _ (q _ (sd.trans se))
theorem qJL:FnScope ["net","wanted","rooms","stands"] ["net","wanted","rooms","stands"] (qA7 qCF):=qB2
theorem ok_never_come_to (F:Fun K "never_come_to" "never_come_to" qCF f fd) (af:Clb P w K mg base 4 qIZ qRX "is_stand" ["net","rooms","thing"] qP8) (ak:Clb P w K mg base 4 qFZ qOC "are_closed" ["net","rooms","stands"] qSO) (qD5:Clb P w K mg base 1 qFX qIV "has_all" ["results","works"] qSN) (ab:mg "isinstance" = none) (am:mg "list" = none) (ac:mg "all" = none) (an:mg "any" = none):FnOk P w K mg base CX0 5 f fd ["net","wanted","rooms","stands"] qMK:=by
 refine F.okA qJL λau A ad s H vs Q E hr h=>?_;obtain⟨a,lw,l,Ae,Aa,j,o,ss,rfl,hN,wf,a9,gw,aj,m,u,l5,NV,q⟩:=h;have a8:=hr.units;refine⟨_,(qA3 (qC8 (PW.pt (qLY (qFM (qEI (qAG qCS rfl ab qCK (qA0 (pv 3) (qA0 (qKP (v:=.ty "list") rfl am qOR rfl) qA2))))) (qJ4 (qFM (qEI (qAG (qTS rfl) rfl ac qbI (qA0 (qGX rfl (lcs (own:=["stand"]) (fv:=[0,2]) (by kernel_rfl)) (qBO (pv 3)) (λz1=>qDS 0) (λz1=>qC7) (λz1=>(qAI af hr rfl (qA0 (pv 1) (qA0 (pv 2) (qA0 (pv 0) qA2)))))) qA2))))))) (qA5 (qAC qEJ)) qAN) (qA3 (qC8 (PW.pt (qLY (qAS (qNW a8) (qAT qA2) (pv 3) (by with_unfolding_all rfl)) (qJ4 (qFM (qEI (qAI ak hr rfl (qA0 (pv 0) (qA0 (pv 2) (qA0 (pv 3) qA2))))))))) (qA5 (qAC qEJ)) qAN) (qA5 (qAC (qb0 (qAG (qaP rfl) rfl an qg0 (qA0 (qGX rfl (lcs (own:=["stand"]) (fv:=[1]) (by kernel_rfl)) (qBO (pv 3)) (λz2=>qDS 0) (λz2=>qC7) (λz2=>(qAI qD5 hr rfl (qA0 (pv 0) (qA0 (pv 1) qA2))))) qA2))))))),?_⟩
 try dsimp only[Cx.nox,Cx.wish,cxOf]
 have ae:o.length=ss.length:=C6 u;refine cut λN0 ag=>?_;refine⟨_,rfl,_,"list",_,true,rfl,TyOf.lst m,rfl,_,rfl,?_⟩;refine⟨_,rfl,l,rfl,⟨_,Ab2 m⟩,λp hp=>?_⟩;refine qHB (p:=p) (a:=l) (xs:=o.map V.ref) (λi σ d=>∃(v:Option V),σ=[v,some (.ref a),some (.int Aa)]/\Same H d/\d p=some (.lst ((E5 i true).map V.bl))) ?_ ?_ ?_ ?_
 ·exact⟨none,rfl,qA4 hp _,qA1⟩
 ·rintro i σ d hi ⟨v,rfl,sm,_⟩;exact Ab2 (sm _ _ m)
 ·refineλi x σ d hx a7=>opq λao aa=>?_;obtain⟨v,rfl,sm,k⟩:=a7;obtain⟨r,er,rfl⟩:=qCR hx;obtain⟨z,ez,gz⟩:=qAV u er;refine aa ?_;have hi:=(A3.mp ez).1;have hz:=A9 ez;refine⟨_,rfl,_,rfl,_,rfl,a,r,Ae,Aa,z,rfl,hN.same sm,a9,sm _ _ gz,NV.rise z hz,NV.few z hz,λH2 s2=>?_⟩;refine⟨_,s2 _ _ k,qAQ (by rw[A0,u9];lia),_,rfl,qAB (sm.trans s2) hp,?_⟩
  rw[qA1,List.replicate_succ',C2]
  rfl
 refineλσ d a6=>opq λar a0=>?_;obtain⟨v,rfl,sm,k⟩:=a6;refine a0 ?_;refine⟨p,_,rfl,Ab2 k,?_⟩;have al:((E5 (o.map V.ref).length true).all id)=true:=F5.mpr λx hx=>by rw[(List.mem_replicate.mp hx).2];rfl
 rw[al];refine⟨_,rfl,?_⟩;refine ag _ _ (cut λN1 ah=>?_);refine⟨(by show 0<=B12;decide),λe he=>?_⟩
 have n:=sm.trans (qA4 he (.tup []));have ge:(Ag d e (.tup [])) e=some (.tup (([]:List Int).map V.int)):=qA1;generalize Ag d e (.tup [])=H1 at n ge ⊢;refine⟨_,rfl,e,l,[],o,ss,rfl,rfl,ge,Ab2 (n _ _ m),u.same n,_,rfl,?_⟩;rw[decide_eq_false (λh=>h NV.nil)];refine⟨_,rfl,_,rfl,_,rfl,a,l,Ae,Aa,[-1],o,ss,rfl,hN.same n,wf,a9,n _ _ m,u.same n,l5,NV.nev1,λH2 s2=>⟨_,rfl,?_⟩⟩;have c:=n.trans s2;have ai:=u.same c;refine ah _ _ ?_;refine⟨_,rfl,l,rfl,⟨_,Ab2 (c _ _ m)⟩,λp2 a3=>?_⟩;refine qHB (p:=p2) (a:=l) (xs:=o.map V.ref) (λi σ d=>∃(v:Option V),σ=[v,some (.ref lw)]/\Same H2 d/\d p2=some (.lst (((ss.take i).map λz=>decide (∀x∈j,x∈z)).map V.bl))) ?_ ?_ ?_ ?_
 ·exact⟨none,rfl,qA4 a3 _,qA1⟩
 ·rintro i σ Hd hi ⟨v,rfl,sd,_⟩;exact Ab2 (sd _ _ (c _ _ m))
 ·refineλi x σ Hd hx t=>opq λap y=>?_;obtain⟨v,rfl,sd,g⟩:=t;obtain⟨r,er,rfl⟩:=qCR hx;obtain⟨z,ez,gz⟩:=qAV ai er;refine y ?_;have hi:=(A3.mp ez).1;refine⟨_,rfl,_,rfl,false,r,lw,z,j,rfl,sd _ _ gz,.inl (sd _ _ (c _ _ gw)),aj,λH3 s3=>?_⟩;refine⟨_,s3 _ _ g,qAQ (by rw[A0,A0,D8];lia),_,rfl,qAB (sd.trans s3) a3,?_⟩
  rw[qA1,C9,ez,D0,C2,C2]
  rfl
 refineλσ Hd a1=>opq λas a2=>?_;obtain⟨v,rfl,sd,g⟩:=a1;refine a2 ?_;rw[A0,ae,G3] at g;refine⟨p2,_,rfl,Ab2 g,?_⟩;refine⟨_,rfl,q _ _ (c.trans sd) ?_⟩;rw[Z7,F8,ne_eq,X2]
 constructor
 ·exactλh s hs al=>h ⟨_,D9.mpr ⟨s,hs,rfl⟩,decide_eq_true al⟩
 ·refineλh a5=>opq λaq a4=>?_;obtain⟨b,hb,e⟩:=a5;obtain⟨s,hs,rfl⟩:=D9.mp hb;refine a4 ?_;exact h s hs (of_decide_eq_true e)
theorem qZB {ws:List Int}{x:Int}(h:x∉ws):qEY ws x=none:=by
 cases e:qEY ws x with
 |none=>rfl
 |some p=>exact absurd (A9 (qHT e).2) h
theorem sc_shows_never:FnScope ["net","asked","rooms","thing","works","wanted"] ["net","asked","rooms","thing"] (qA7 qDD):=qB2
theorem ok_shows_never (F:Fun K "shows_never" "shows_never" qDD f fd) (ac:Clb P w K mg base 1 qLJ qV0 "is_pair" ["thing"] qP9) (af:Clb P w K mg base 3 qF8 qJA "is_rising" ["thing","end"] qKF) (ab:Clb P w K mg base 2 qER qHG "part_net" ["net","works"] qNI) (ad:Clb P w K mg base 5 qDW qJP "never_come_to" ["net","wanted","rooms","stands"] qMK) (qCD:mg "len" = none):FnOk P w K mg base CX0 6 f fd ["net","asked","rooms","thing"] qSI:=by
 refine F.okA sc_shows_never λak A a7 s H vs Q E hr h=>?_;obtain⟨a,t,T,r,l,Ae,m,d,Aa,rs,ss,rfl,hN,wf,al,⟨hT,rA⟩,z,v,aa,l5,NV,q⟩:=h;refine⟨_,(qA3 (qC8 (PW.pt (qLY (qFM (qEI (qAI ac hr rfl (qA0 (pv 3) qA2)))) (qJ4 (qFM (qEI (qAI af hr rfl (qA0 (qBT qBK (pv 3) qA8 (λ_ _=>rfl)) (qA0 (qAG qAH rfl qCD qCM (qA0 (pv 0) qA2)) qA2)))))))) (qA5 (qAC qEJ)) qAN) (qA3 (qAF (i:=4) sc_shows_never.nd rfl (r8 rfl) (qBT qBK (pv 3) qA8 (λ_ _=>rfl))) (qA3 (qUC (i:=5) sc_shows_never.nd rfl rfl rfl (lcs (own:=["work"]) (fv:=[4]) (by kernel_rfl)) (qE9 (pv 1)) (λz1=>qDS 0) (λz1=>(qH7 (qAS (qb3 (K:=K) rfl) (pv 0) (pv 1) (by with_unfolding_all rfl)))) (λz1=>(qb1 (X:=lcCx _ _ _ _ z1) n8 n9 o5 (qKV (K:=K) rfl) (pv 1) (qA0 (pv 0) qA2))) (by kernel_rfl)) (qA5 (qAC (qMQ (qH9 qWI (qAG qAH rfl qCD qCM (qA0 (pv 5) qA2)) qA8 (qB4 _)) (qMP (qAI ad hr rfl (qA0 (qAI ab hr rfl (qA0 (pv 0) (qA0 (pv 4) qA2))) (qA0 (pv 5) (qA0 (pv 2) (qA0 (qBT qBK (pv 3) qA8 (λ_ _=>rfl)) qA2)))))))))))),?_⟩
 try dsimp only[Cx.nox,Cx.wish,cxOf]
 obtain⟨ra,hA,NL⟩:=id hN;have a6:=C6 NL;have ah:=v.len;have lA:=rA.len;have gT:=z.tup;have a3:Rd H r (.tup (d.map V.int)):=(let⟨o,e,_⟩:=z.works;.inr ⟨o,e⟩)
 refine cut λN0 a8=>?_;refine⟨_,rfl,T,_,_,rfl,gT,_,rfl,?_⟩;refine⟨_,rfl,T,_,_,_,rfl,rfl,Ac0 gT,rfl,_,rfl,a,_,rfl,.inr (Ac0 hA),?_⟩;rw[A0,a6];refine⟨r,d,_,rfl,a3,v,by lia,λH1 s1=>⟨_,rfl,?_⟩⟩
 refine a8 _ _ (cut λN1 a9=>?_);refine⟨_,rfl,T,_,_,_,rfl,rfl,Ac0 (s1 _ _ gT),rfl,?_⟩;refine a9 _ _ (cut λN2 a5=>?_);refine⟨_,rfl,t,rfl,⟨_,Ac0 (s1 _ _ hT)⟩,λp hp=>?_⟩;refine qJ7 (p:=p) (a:=t) (xs:=m.map V.int) (λi σ Hc=>∃(v0:Option V),σ=[v0,some (.ref r)]/\Same H1 Hc/\Hc p=some (.lst ((qBH d (m.take i)).map V.int))) ?_ ?_ ?_ ?_
 ·exact⟨none,rfl,qA4 hp _,qA1⟩
 ·rintro i σ Hc hi ⟨v0,rfl,sm,_⟩;exact Ac0 (sm _ _ (s1 _ _ hT))
 ·refineλi x σ Hc hx a2=>opq λag a4=>?_;obtain⟨v0,rfl,sm,g⟩:=a2;obtain⟨y,ey,rfl⟩:=qAY hx;refine a4 ?_;have lt:=(A3.mp ey).1;have u:=(z.works.same s1).same sm;have lk:(qBH d (m.take i)).length<=i:=E3 (J7 _ _) (by rw[D8];lia)
  have tk:qBH d (m.take (i+1))=qBH d (m.take i)++(qEY d y).toList:=by
   unfold qBH;rw[C9,ey,D0,V4];cases e:qEY d y<;>simp[e]
  refine⟨_,rfl,_,rfl,r,_,rfl,.inr u.sq,rfl,qIB d,_,rfl,?_⟩;rw[qO6];by_cases cy:y∈d
  ·rw[decide_eq_true cy];obtain⟨j,hj⟩:=J5 cy;have first:∀k,k<j->d[k]?≠some y:=λk hk e=>by
    obtain⟨h1,e1⟩:=A3.mp e;obtain⟨h2,e2⟩:=A3.mp hj;exact absurd (e1.trans e2.symm) (G2.mp v.nodup k j h1 h2 hk)
   refine iteT ?_;refine⟨_,rfl,⟨r,_,rfl,u⟩,_,rfl,r,d,y,j,rfl,rfl,u.sq,hj,first,_,g,qAZ (by rw[A0];lia),_,rfl,qAB sm hp,?_⟩
   rw[qA1,tk,qDG v.nodup hj,C2]
   rfl
  ·rw[decide_eq_false cy];refine iteF ?_;refine⟨_,rfl,sm,?_⟩;rw[tk,qZB cy,g];simp
 refineλσ Hc a1=>opq λai a0=>?_;obtain⟨v0,rfl,sm,g⟩:=a1;refine a0 ?_;rw[A0,G3] at g;have s2:=s1.trans sm;have aj:(qBH d m).length<=m.length:=J7 _ _;have w0:0<(qBH d m).length:=A25.mpr aa;refine a5 _ _ ?_;refine⟨_,rfl,p,_,rfl,.inl (Ab2 g),_,_,rfl,rfl,_,rfl,?_⟩;rw[A0];refine ite2 (λ_=>?_) (λc=>?_)
 ·refine⟨_,rfl,_,rfl,a,r,Ae,d,rfl,hN.same s2,wf,by lia,a3.same s2,v,λb H3 s3 hB=>?_⟩
  have n:=s2.trans s3;have ae:=n _ _ gT;refine⟨_,rfl,_,rfl,_,rfl,T,_,_,_,rfl,rfl,Ac0 ae,rfl,?_⟩;refine⟨b,p,l,qBY Ae d,Aa,qBH d m,rs,ss,rfl,hB,qCQ wf v,by rw[qBV];lia,s3 _ _ g,by lia,n _ _ z.lst,z.at_.same n,l5,NV,λb H4 s4 hb=>?_⟩
  exact q _ _ (n.trans s4) hb
 ·exact absurd (decide_eq_true (show(0:Int)<((qBH d m).length:Int) by lia)) c
theorem sc_never_paper:FnScope ["net","asked","rooms","works","reached"] ["net","asked","rooms"] (qA7 qDE):=qB2
theorem ok_never_paper (F:Fun K "never_paper" "never_paper" qDE f fd) (aa:Clb P w K mg base 1 qCC qDJ "all_needed" ["net","asked"] qPB) (ak:Clb P w K mg base 2 qER qHG "part_net" ["net","works"] qNI) (al:Clb P w K mg base 1 qCZ qFS "part_numbers" ["works","asked"] qNJ) (ai:Clb P w K mg base 4 qC5 qEO "stands_reached" ["net","rooms"] qNG) (ab:Clb P w K mg base 2 qDN qLH "best_end" ["reached","asked"] (qVQ Pt)) (af:mg "tuple" = none) (am:mg "sorted" = none):FnOk P w K mg base CX0 5 f fd ["net","asked","rooms"] (qSL Pt):=by
 refine F.okA sc_never_paper λaw A ac s H vs Q E q h=>?_;obtain⟨a,t,r,Ad,ws,Aa,rfl,a2,hN,wf,ax,⟨hT,rA⟩,a1,N,q1,q2⟩:=h;have a5:=q.units;refine⟨_,(qA3 (qAF (i:=3) sc_never_paper.nd rfl (E9 rfl) (qB0 qLM rfl af qBX (qA0 (qAI aa q rfl (qA0 (pv 0) (qA0 (pv 1) qA2))) qA2))) (qA3 (qAF (i:=4) sc_never_paper.nd rfl (E9 rfl) (qAI ai q rfl (qA0 (qAI ak q rfl (qA0 (pv 0) (qA0 (pv 3) qA2))) (qA0 (pv 2) qA2)))) (qA3 (qC8 (qE8 (qRE (qAI ab q rfl (qA0 (pv 4) (qA0 (qAI al q rfl (qA0 (pv 3) (qA0 (pv 1) qA2))) qA2))))) (qA5 (qAC qJ5)) qAN) (qA5 (qAC (qAT (qA0 (pv 3) (qA0 (qAG (L2.G.call_sortedTD rfl a5) rfl am qLN (qA0 (pv 4) qA2)) qA2)))))))),?_⟩
 try dsimp only[Cx.nox,Cx.wish,cxOf]
 refine cut λN0 ad=>?_;refine⟨_,rfl,_,rfl,a,t,r,Ad,rfl,hN,wf,by lia,hT,rA.in_,λla c H1 s1 au ap N'=>?_⟩
 have ew:=qEL N' N;subst ew;refine⟨la,_,rfl,Ab2 ap,λp ob aq oc od=>?_⟩;have s2:=s1.trans (qA4 aq (.frz ob (.tup (c.map V.int))));have k:BareT (Ag H1 p (.frz ob (.tup (c.map V.int)))) p (c.map V.int):=⟨ob,qA1,oc,od⟩;generalize Ag H1 p (.frz ob (.tup (c.map V.int)))=H2 at s2 k ⊢;refine ad _ _ (cut λN1 ah=>?_);refine⟨_,rfl,_,rfl,a,p,r,c,rfl,hN.same s2,wf,by lia,(let⟨o,e,_⟩:=k;.inr ⟨o,e⟩),N.1,λb H3 s3 hB=>?_⟩
 have ao:=s2.trans s3;have lw:=N.1.len;have wp:WFn (qBY r c):=qCQ wf N.1;have lp:=qBV r c;have ha:∀x∈Ad,x∈c:=λx hx=>(N.2 x).mpr (.ask hx);have a9:=rA.len;have rW:=qEH N rA;have lW:=rW.len;refine⟨_,rfl,b,qBY r c,Aa,rfl,hB,wp,by lia,λd o Af ks fu gX H4 s4 as gd a8 RC FR=>?_⟩
 have ent:=a8.ent;have a7:=ao.trans s4;have g:=(k.same s3).same s4;have lk:=RC.len;have pw:2^(qBY r c).length<=2^12:=W1 (by decide) (by lia)
 refine ah _ _ (cut λN2 ag=>?_);refine⟨_,rfl,_,rfl,_,rfl,p,t,c,Ad,rfl,g,a7 _ _ hT,N.1.nodup,by lia,by lia,ha,λwt H5 s5 aj=>?_⟩
 have l:=a7.trans s5;refine⟨d,wt,o,Af,ks,fu,qBH c Ad,rfl,l _ _ a2,s5 _ _ gd,ent.same s5,E3 lk (by lia),aj,by lia,λH6 s6=>⟨λhn=>?_,λrr st av an y n=>?_⟩⟩
 ·have nd:=qb6 N rA (qQP wp rW RC hn);have v:=l.trans s6;refine⟨_,rfl,iteF (ag _ _ ?_)⟩;refine⟨_,rfl,_,rfl,d,o,Af,ks,rfl,s6 _ _ (s5 _ _ gd),ent.keys1,FR.2,λm j L a3 TA pm ar=>?_⟩;have s7:=qA4 a3 (.lst (j.map V.ref));have a4:(Ag H6 m (.lst (j.map V.ref))) m=some (.lst (j.map V.ref)):=qA1;have ae:H m=none:=v.free a3;have a0:StL (Ag H6 m (.lst (j.map V.ref))) j L:=Paired.mapP TA λ_ _ z=>s7 _ _ z;generalize Ag H6 m (.lst (j.map V.ref))=H7 at s7 a4 a0 ⊢;refine⟨(by show 2<=B12;decide),λT a6=>?_⟩
  have s8:=qA4 a6 (.tup [.ref p,.ref m]);have u:=v.trans s7;exact q2 nd T p m j L _ (u.trans s8) (u.free a6) ae ⟨qA1,(((g.same s5).same s6).same s7).same s8,s8 _ _ a4,a0.same s8⟩ (RC.nevP pm ar) (λz hz=>hn z (pm.mem_iff.mp hz)) (by rw[pm.length_eq];exact E3 lk (by lia))
 ·have dn:=qRM N rA (qQO wp rW RC an y n);refine⟨_,rfl,iteT ?_⟩;exact q1 dn _ (l.trans s6)
theorem qLW:FnScope ["self","move","word"] ["self","move","word"] (qA7 qBN):=qB2
theorem ok_init_Barred (F:Fun K "__init__" "Barred.__init__" qBN f fd) (qDA:XCls K qAM (some (.ref f))) (n_move:G1 K (.ref qAM) "move" = some none) (n_word:G1 K (.ref qAM) "word" = some none):FnOk P w K mg base CX0 1 f fd ["self","move","word"] (qVN qAM):=by
 refine F.okA qLW λj A g s H l Q E k h=>?_;obtain⟨x,a,b,rfl,i,q⟩:=h;refine⟨_,(qA3 (qVY qDA (pv 0) (pv 1)) (qA5 (qVY qDA (pv 0) (pv 2)))),?_⟩
 try dsimp only[Cx.nox,Cx.wish,cxOf]
 refine⟨_,rfl,_,rfl,x,none,rfl,i,n_move,.inl ⟨rfl,λd e c=>?_⟩⟩;refine⟨_,rfl,_,rfl,x,some d,rfl,qA1,n_word,.inr ⟨d,[("move",a)],rfl,c,by rw[qA9 c];exact qA1,(by show 1<1000;decide),?_⟩⟩
 rw[qVC c];exact q d e c
theorem sc_played:FnScope ["net","rooms","plan","stand","stands","number","move","word"] ["net","rooms","plan"] (qA7 qJS):=qB2
theorem ok_played (F:Fun K "played" "played" qJS f fd) (qDA:XCls K qAM (some (.ref qAW))) (qEN:f9 K (.ref qAW)=true) (qGI:mg "Barred" = some (.ref qAM))
  (qDL:FnOk P w K mg base CX0 1 qAW qH0 ["self","move","word"] (qVN qAM)) (qDK:Binds K qH0 ["self","move","word"] [])
  (qDP:Clb P w K mg base 2 qGR qLG "fault_of" ["net","rooms","stand","move"] qR2)
  (qB1:Clb P w K mg base 1 qC2 qDV "stand_behind" ["stand","move"] qHN)
  (qCN:mg "enumerate" = none):FnOk P w K mg base (CX1 P w) 3 f fd ["net","rooms","plan"] (qVL qAM):=by
 refine F.okX sc_played (λvs H Q E h=>?_) (λas A ab s H vs Q E hr h=>?_)
 ·obtain⟨a,l,Ae,ms,j,rfl,_⟩:=h
  rfl
 obtain⟨a,l,Ae,ms,j,rfl,⟨hN,wf,an,⟨rs,hl,M⟩,aq,aa,r0,am⟩,q,qE⟩:=h;have ap:Room 2 _:=hr;have ag:Room 2 _:=hr;refine⟨_,(qA3 (qAF (i:=3) sc_played.nd rfl (E9 rfl) (qAT qA2)) (qA3 (qAF (i:=4) sc_played.nd rfl (E9 rfl) (qFN (qA0 (pv 3) qA2))) (qA3 (qB9 own1 rfl (qW7 rfl qCN qG3 (qA0 (pv 2) qA2)) (qKO rfl (qBP (qAJ (i:=5) sc_played.nd rfl (E9 rfl)) (qBP (qAJ (i:=6) sc_played.nd rfl (E9 rfl)) qH8))) (qA3 (qAF (i:=7) sc_played.nd rfl (E9 rfl) (qAI qDP hr rfl (qA0 (pv 0) (qA0 (pv 1) (qA0 (pv 3) (qA0 (pv 6) qA2)))))) (qA3 (qC8 (qE8 (qRE (pv 7))) (qA5 (qVZ rfl rfl qDA qEN qDL ag rfl qGI qDK (qA0 (pv 5) (qA0 (pv 7) qA2)) (by decide))) qAN) (qA3 (qAF (i:=3) sc_played.nd rfl (E9 rfl) (qAI qB1 hr rfl (qA0 (pv 3) (qA0 (pv 6) qA2)))) (qA5 (qEE (qNV G0 J8 J9 qD2 (pv 4) (qA0 (pv 3) qA2)))))))) (qA5 (qAC (pv 4)))))),?_⟩
 try dsimp only[Cx.nox,Cx.wish,cxOf]
 have ac:=C6 M;refine⟨(by show 0<=B12;decide),λe he=>?_⟩
 refine⟨_,rfl,(by show 1<=B12;decide),λls c=>?_⟩
 have s1:=qA4 he (.tup []);have t:=s1.trans (qA4 c (.lst [.ref e]));have a5:H ls=none:=s1.free c;refine⟨_,rfl,l,rfl,⟨_,Ab2 (t _ _ hl)⟩,qTG (a:=l) (xs:=rs.map V.ref) (λk σ g=>∃(ss:List Addr) (sts:Aa0) (r:Addr) (st:List Int) (v5 v6 v7:Option V),σ=[some (.ref a),some (.int j),some (.ref l),some (.ref r),some (.ref ls),v5,v6,v7]/\Same H g/\g ls=some (.lst (ss.map V.ref))/\NetL g ss ([]::sts)/\g r=some (.tup (st.map V.int))/\(st.length:Int)<=j/\sts.length=k/\∀sts' v,Play Ae j st (ms.drop k) sts' v->Play Ae j [] ms (sts++sts') v)
  ⟨[e],[],e,[],none,none,none,rfl,t,qA1,.cons ((qA4 c (.lst [.ref e])) _ _ qA1) .nil,(qA4 c (.lst [.ref e])) _ _ qA1,r0,rfl,λsts' v p=>p⟩ (λk σ g _ hP=>by obtain⟨_,_,_,_,_,_,_,_,sm,_⟩:=hP;exact Ab2 (sm _ _ hl)) ?_ ?_⟩
 ·refineλk x σ g T hx a6 hT=>opq λar a7=>?_;obtain⟨ss,sts,r,st,v5,v6,v7,rfl,sm,a0,N,u,a2,lk,go⟩:=a6;obtain⟨mv,ai,rfl⟩:=qCR hx;obtain⟨⟨y,b⟩,hm,hH⟩:=qAV M ai;refine a7 ?_;have hk:=(A3.mp hm).1;obtain⟨hw,a4,af⟩:=aa _ (A9 hm);dsimp only at hw a4 af hH;have ed:ms.drop k=(y,b)::ms.drop (k+1):=by
   obtain⟨al,e⟩:=A3.mp hm;rw[F4 al,e]
  have ae:b.toNat<Ae.length:=by lia
  have d:=A4 ae;have aj:=(wf b.toNat _ d).len;generalize Ae[b.toNat]=ns at d aj;have a1:wd Ae st j (y,b)=qD9 ns st j y b:=by unfold wd;rw[d];rfl
  have sT:=qA4 hT (.tup [.int (k:Int),.ref mv]);refine⟨T,_,rfl,Ac0 qA1,rfl,_,_,rfl,_,_,rfl,rfl,?_⟩;generalize Ag g T (.tup [.int (k:Int),.ref mv])=Hd at sT ⊢;refine⟨_,rfl,_,rfl,_,rfl,_,rfl,a,r,mv,Ae,st,ns,j,b,y,rfl,hN.same (sm.trans sT),sT _ _ u,by lia,(sm.trans sT) _ _ hH,hw,a4,d,by lia,λH2 ad=>?_⟩
  have t:=sT.trans ad;rcases qQV ns st j y b with e|⟨w0,e⟩
  ·rw[e];refine⟨_,rfl,_,rfl,?_⟩;rw[decide_eq_true (rfl:V.non=V.non)];refine⟨_,rfl,_,rfl,r,mv,st,y,b,rfl,t _ _ u,by lia,(sm.trans t) _ _ hH,hw,λr' n H3 ak gr bh=>?_⟩
   have s3:=t.trans ak;have o:=s3 _ _ a0;have ah:=C6 N;rw[C5] at ah;refine⟨_,rfl,.inl ⟨rfl,_,Ab2 o⟩,_,rfl,ls,_,_,rfl,rfl,o,qAQ (by rw[A0];lia),?_⟩
   rw[qBF];have N3:NetL H3 (ss++[r']) ([]::(sts++[n])):=X4 (NetL.sm N s3) gr;refine⟨ss++[r'],sts++[n],r',n,_,_,_,rfl,qAB (sm.trans s3) a5,qA1,NetL.put N3 o,?_,Beh.fits (m:=(y,b)) hw (a1.trans e) bh a2,by rw[B7,F1,lk],λsts' v p=>?_⟩
   ·rw[qA9 (qC1 gr o (by intro z;cases z))]
    exact gr
   ·rw[L0];exact go (n::sts') v (by rw[ed];exact .go (a1.trans e) bh p)
  ·rw[e];refine⟨_,rfl,_,rfl,?_⟩;rw[decide_eq_false (show¬V.str w0=V.non fromλz=>nomatch z)];refine⟨_,rfl,_,rfl,λx hx=>⟨x,.int (k:Int),.str w0,rfl,qA1,λdx a3 nx=>?_⟩⟩;rw[qA9 nx] at a3;refine⟨rfl,some dx,Ag H2 dx (XDic dx (xfs (.int (k:Int)) (.str w0))),(qYV nx),by rw[qA9 nx.symm];exact hx,?_⟩
   have pl:=go [] (.str w0) (by rw[ed];exact .stop (a1.trans e))
   rw[K6] at pl;exact qE sts w0 dx _ ((sm.trans t).trans (qA4 a3 _)) pl (by rw[lk];exact qA1)
 ·refineλσ g a8=>opq λao a9=>?_;obtain⟨ss,sts,r,st,v5,v6,v7,rfl,sm,a0,N,u,a2,lk,go⟩:=a8;refine a9 ?_;have pl:=go [] .non (by rw[A0,ac,X3];exact .nil)
  rw[K6] at pl;exact⟨_,rfl,q ls sts g sm pl a5 ⟨ss,a0,N⟩⟩
theorem qU6:FnScope ["net","plan"] ["net","plan"] (qA7 qHQ):=qB2
theorem ok_most_of (F:Fun K "most_of" "most_of" qHQ f fd)
  (qGT:FnOk P w K mg base (CX1 P w) 3 qEB qFR ["net","rooms","plan"] (qVL qAM)) (qGS:Binds K qFR ["net","rooms","plan"] []) (qI3:G8 K (.ref qEB)=true) (qGH:mg "played" = some (.ref qEB))
  (qCD:mg "len" = none) (qYR:mg "max" = none):FnOk P w K mg base (CX1 P w) 4 f fd ["net","plan"] (qaV qAM):=by
 refine F.okX qU6 (λvs H Q E h=>?_) (λa9 A y s H vs Q E hr h=>?_)
 ·obtain⟨a,l,t,ms,rfl,_⟩:=h
  rfl
 obtain⟨a,l,t,ms,rfl,u,q,qE⟩:=h;have a1:Room 3 _:=hr;refine⟨_,(qA5 (qAC (qAG (qYD rfl) rfl qYR qbH (qA0 (qGX rfl (lcs (own:=["stand"]) (fv:=[]) (by kernel_rfl)) (qBO (qRD qGT a1 rfl qGH qI3 qGS .nil qf8 (qA0 (pv 0) (qA0 (qAG qAH rfl qCD qCM (qA0 (pv 0) qA2)) (qA0 (pv 1) qA2))))) (λz1=>qDS 0) (λz1=>qC7) (λz1=>(qAG (qYF (K:=K) rfl) rfl qCD qCM (qA0 (pv 0) qA2)))) qA2)))),?_⟩
 try dsimp only[Cx.nox,Cx.wish,cxOf]
 obtain⟨rs,hA,NL⟩:=id u.1;have a2:(((rs.map V.ref).length:Nat):Int)=(t.length:Int):=by rw[A0,C6 NL]
 refine⟨_,rfl,_,rfl,a,_,rfl,.inr (Ac0 hA),_,rfl,a,l,t,ms,(t.length:Int),by rw[a2];rfl,u,λls j H1 a0 pl a7 SA=>?_,qE⟩
 obtain⟨ks,d,NK⟩:=id SA;have k:=C6 NK;have a8:=pl.len;have a6:=u.2.2.2.2.1;rw[C5] at k;refine⟨ls,rfl,⟨_,Ab2 d⟩,λp hp=>?_⟩;refine qHB (p:=p) (a:=ls) (xs:=ks.map V.ref) (λi σ c=>∃(v:Option V),σ=[v]/\Same H1 c/\c p=some (.lst ((lens (([]::j).take i)).map V.int))) ?_ ?_ ?_ ?_
 ·exact⟨none,rfl,qA4 hp _,qA1⟩
 ·rintro i σ c hi ⟨v,rfl,sm,_⟩;exact Ab2 (sm _ _ d)
 ·refineλi x σ c hx n=>opq λa4 o=>?_;obtain⟨v,rfl,sm,b⟩:=n;obtain⟨r,a3,rfl⟩:=qCR hx;obtain⟨z,ez,g⟩:=qAV NK a3;refine o ?_;have hi:=(A3.mp ez).1;rw[C5] at hi;refine⟨_,rfl,r,_,rfl,.inr (Ac0 (sm _ _ g)),_,b,qAQ (by unfold lens;rw[A0,A0,D8];lia),_,rfl,qAB sm hp,?_⟩
  rw[qA1];refine congrArg (λl=>some (HO.lst l)) ?_;rw[qVG ez];unfold lens;rw[C2,C2,A0]
  rfl
 ·refineλσ c m=>opq λa5 e=>?_;obtain⟨v,rfl,sm,b⟩:=m;refine e ?_;rw[A0,k,qBS (by rw[C5])] at b
  refine⟨p,_,_,rfl,Ab2 b,rfl,q j _ c (a0.trans sm) pl rfl⟩
theorem sc_does:FnScope ["net","rooms","plan","asked","stands"] ["net","rooms","plan","asked"] (qA7 qSS):=qB2
theorem ok_does (F:Fun K "does" "does" qSS f fd) (g:A15 K (.ref qAM) (.ref qAM)=some true) (qGI:mg "Barred" = some (.ref qAM)) (qGT:FnOk P w K mg base (CX1 P w) 3 qEB qFR ["net","rooms","plan"] (qVL qAM)) (qGS:Binds K qFR ["net","rooms","plan"] []) (qI3:G8 K (.ref qEB)=true) (qGH:mg "played" = some (.ref qEB)) (qD5:Clb P w K mg base 1 qFX qIV "has_all" ["results","works"] qSN):FnOk P w K mg base CX0 4 f fd ["net","rooms","plan","asked"] qVO:=by
 refine F.okA sc_does λa1 A e s H vs Q E o h=>?_;obtain⟨a,l,t,Ae,u,z,Ad,rfl,q,hT,l1,q1,q2⟩:=h;have k:Room 3 _:=o.mono (by decide)
 refine⟨_,(qA3 (qcH (i:=4) (j:=none) rfl rfl sc_does.nd rfl (E9 rfl) qGT k rfl qGH qI3 qGS .nil (qA0 (pv 0) (qA0 (pv 1) (qA0 (pv 2) qA2))) rfl qGI trivial (λev=>(qA5 (qAC qEJ)))) (qA5 (qAC (qAI qD5 o rfl (qA0 (qBT qL4 (pv 4) (qZF qSD qA8) (λ_ _=>rfl)) (qA0 (pv 3) qA2)))))),?_⟩
 try dsimp only[Cx.nox,Cx.wish,cxOf]
 refine⟨_,rfl,_,rfl,_,rfl,a,l,Ae,u,z,rfl,q,λy b v d m a0 x=>?_,λb w0 dx v d m p=>⟨g,λex n=>?_⟩⟩
 ·obtain⟨ks,c,NK⟩:=id x;obtain⟨ss,r,ek,gr⟩:=qd7 NK;rw[ek] at c;refine⟨_,rfl,_,rfl,y,_,_,_,rfl,rfl,Ab2 c,by rw[C2];exact qaR _ _,?_⟩
  refine⟨_,rfl,true,r,t,_,Ad,rfl,gr,.inl (d _ _ hT),l1,λH2 s2=>?_⟩;exact q1 b H2 (d.trans s2) m
 ·exact q2 b w0 _ (d.trans (qA4 n _)) m
theorem qR5:FnScope ["plan"] ["plan"] (qA7 qG6):=qB2
theorem ok_steps_of (F:Fun K "steps_of" "steps_of" qG6 f fd) (qCD:mg "len" = none):FnOk P w K mg base CX0 1 f fd ["plan"] qVK:=by
 refine F.okA qR5 λa3 A t s H vs Q E hr h=>?_;obtain⟨l,r,rfl,⟨rs,hl,M⟩,a2,q⟩:=h;refine⟨_,(qA5 (qAC (qAG qAH rfl qCD qCM (qA0 (qGX rfl (lcs (own:=["move"]) (fv:=[]) (by kernel_rfl)) (qBO (pv 0)) (λz1=>qDS 0) (λz1=>(qH7 (qAS qIN (qBT (qIS (K:=K) rfl) (pv 0) qA8 (λ_ _=>rfl)) qC0 (qB4 _)))) (λz1=>(pv 0))) qA2)))),?_⟩
 try dsimp only[Cx.nox,Cx.wish,cxOf]
 have u:=C6 M;refine⟨_,rfl,l,rfl,⟨_,Ab2 hl⟩,λp hp=>?_⟩;refine qHB (p:=p) (a:=l) (xs:=rs.map V.ref) (λi σ c=>∃(v:Option V) (fs:List Addr),σ=[v]/\Same H c/\c p=some (.lst (fs.map V.ref))/\fs.length=((r.take i).filter isDo).length) ?_ ?_ ?_ ?_
 ·exact⟨none,[],rfl,qA4 hp _,qA1,rfl⟩
 ·rintro i σ c hi ⟨v,fs,rfl,sm,_⟩;exact Ab2 (sm _ _ hl)
 ·refineλi x σ c hx k=>opq λa0 m=>?_;obtain⟨v,fs,rfl,sm,b,d⟩:=k;obtain⟨mv,y,rfl⟩:=qCR hx;obtain⟨⟨n,wk⟩,hm,hH⟩:=qAV M y;refine m ?_;dsimp only at hH;have hi:=(A3.mp hm).1;have lk:=qaC (p:=isDo) (l:=r) (i:=i);refine⟨_,rfl,mv,_,_,_,rfl,rfl,Ac0 (sm _ _ hH),rfl,rfl,_,rfl,?_⟩;rw[qC9 hm];refine ite2 (λo=>?_) (λo=>?_)
  ·have hd:n = "do":=V.str.inj (of_decide_eq_true o)
   refine⟨_,rfl,_,b,qAQ (by rw[A0];lia),_,fs++[mv],rfl,qAB sm hp,?_,?_⟩
   ·rw[qA1,C2];rfl
   ·rw[if_pos (show isDo (n,wk)=true from decide_eq_true hd),B7,B7,d];rfl
  ·have hd:¬n = "do":=λe=>o (decide_eq_true (congrArg V.str e))
   refine⟨_,fs,rfl,sm,b,?_⟩;rw[if_neg (show¬isDo (n,wk)=true fromλz=>hd (of_decide_eq_true z)),K6,d]
 refineλσ c j=>opq λa1 g=>?_;obtain⟨v,fs,rfl,sm,b,d⟩:=j;refine g ?_;rw[A0,u,qBS rfl] at d;refine⟨p,_,rfl,.inl (Ab2 b),?_⟩;have e:(((fs.map V.ref).length:Nat):Int)=doN r:=by rw[A0,d];rfl
 rw[e];exact q c sm
theorem sc_plan_in_order:FnScope ["net","asked","order","last_user","work","need","plan"] ["net","asked","order"] (qA7 qCE):=qB2
theorem ok_plan_in_order (F:Fun K "plan_in_order" "plan_in_order" qCE f fd):FnOk P w K mg base CX0 1 f fd ["net","asked","order"] qNK:=by
 refine F.okA sc_plan_in_order λbd A b2 s H vs Q E hr h=>?_;obtain⟨a,t,lo,j,Ad,g,rfl,hN,wf,b4,⟨hT,rA⟩,a3,af,lz,q⟩:=h;have hu:=qI4 hr;refine⟨_,(qA3 (qAF (i:=3) sc_plan_in_order.nd rfl (E9 rfl) qEA) (qA3 (qB9 D4 rfl (qBO (pv 2)) (qAJ (i:=4) sc_plan_in_order.nd rfl (E9 rfl)) (qA5 (qB9 D4 rfl (qE9 (qBT qBK (pv 0) (pv 4) (λ_ _=>rfl))) (qAJ (i:=5) sc_plan_in_order.nd rfl (E9 rfl)) (qA5 (qCG hu (pv 3) (pv 5) (pv 4) rfl))))) (qA3 (qAF (i:=6) sc_plan_in_order.nd rfl (E9 rfl) (qFN qA2)) (qA3 (qB9 D4 rfl (qBO (pv 2)) (qAJ (i:=4) sc_plan_in_order.nd rfl (E9 rfl)) (qA3 (qEE (qNV G0 J8 J9 qD2 (pv 6) (qA0 (qAT (qA0 qC0 (qA0 (pv 4) qA2))) qA2))) (qA5 (qB9 D4 rfl (qE9 (qBT qBK (pv 0) (pv 4) (λ_ _=>rfl))) (qAJ (i:=5) sc_plan_in_order.nd rfl (E9 rfl)) (qA5 (qC8 (PW.pt (qeU (qAS qIN (qBU hu (pv 3) (pv 5) (λ_ _=>rfl)) (pv 4) (qB4 _)) (qcG (qAS qPM (pv 5) (pv 1) (by with_unfolding_all rfl))))) (qA5 (qEE (qNV G0 J8 J9 qD2 (pv 6) (qA0 (qAT (qA0 qC0 (qA0 (pv 5) qA2))) qA2)))) qAN)))))) (qA5 (qAC (pv 6))))))),?_⟩
 try dsimp only[Cx.nox,Cx.wish,cxOf]
 obtain⟨rs,hA,NL⟩:=id hN;refineλu aw=>?_;have sn:=qA4 aw (.dK []);refine⟨_,rfl,lo,rfl,⟨_,Ab2 (sn _ _ a3)⟩,qC4 (a:=lo) (xs:=g.map V.int) (λi σ Hf=>∃(Af:List (Key×V)) (v4 v5 v6:Option V),σ=[some (.ref a),some (.ref t),some (.ref lo),some (.ref u),v4,v5,v6]/\Same H Hf/\Hf u=some (.dK Af)/\Af.length<=400*i/\∀y,valV Af (E8 y)=(qBJ j (g.take i) y).map V.int)
  ⟨[],none,none,none,rfl,sn,qA1,E7 _,λy=>by simp[qBJ,valV]⟩ (λi σ Hf _ hP=>by obtain⟨_,_,_,_,_,sm,_⟩:=hP;exact Ab2 (sm _ _ a3)) ?_ ?_⟩
 ·refineλi x σ Hf hx ak=>opq λbc as=>?_;obtain⟨Af,v4,v5,v6,rfl,sm,hd,lk,hv⟩:=ak;obtain⟨b,ew,rfl⟩:=qAY hx;refine as ?_;have hi:=(A3.mp ew).1;have wb:=af b (A9 ew);have hw:b.toNat<j.length:=by lia
  have hz:=A4 hw;obtain⟨r,h3,h4⟩:=NL.get hz;have ln:=(wf b.toNat _ hz).len;have en:=qCI hz;generalize j[b.toNat]=ns at h4 hz ln en;refine⟨_,rfl,_,rfl,a,_,_,_,rfl,rfl,Ac0 (sm _ _ hA),qGZ wb.1 (by rw[B6,h3];rfl),r,rfl,⟨_,Ac0 (sm _ _ h4)⟩,qHE (a:=r) (xs:=ns.map V.int) (λk σ m=>∃(Af:List (Key×V)) (v5 v6:Option V),σ=[some (.ref a),some (.ref t),some (.ref lo),some (.ref u),some (.int b),v5,v6]/\Same H m/\m u=some (.dK Af)/\Af.length<=400*i+k/\∀y,valV Af (E8 y)=if y∈ns.take k then some (.int b) else(qBJ j (g.take i) y).map V.int)
   ⟨Af,v5,v6,rfl,sm,hd,by lia,λy=>by rw[hv y];simp⟩ (λk σ m _ hP=>by obtain⟨_,_,_,_,a0,_⟩:=hP;exact Ac0 (a0 _ _ h4)) ?_ ?_⟩
  ·refineλk x σ m hx ap=>opq λb5 ah=>?_;obtain⟨Af,v5,v6,rfl,a0,a6,ao,a1⟩:=ap;obtain⟨y,ey,rfl⟩:=qAY hx;refine ah ?_;have hk:=(A3.mp ey).1;refine⟨_,rfl,_,rfl,_,rfl,u,_,rfl,DPut.k (k:=E8 y) a6 (qAQ (by lia)),?_⟩
   refine⟨_,_,_,rfl,qAB a0 aw,qA1,E3 (qB5 _ _ _) (by lia),λx=>?_⟩
   rw[qDB,C9,ey,D0];by_cases e:x=y
   ·rw[e,if_pos rfl,if_pos (by simp)]
   ·rw[if_neg λz=>e (P1 z),a1 x];simp[e]
  ·refineλσ m ag=>opq λb6 ai=>?_;obtain⟨Af,v5,v6,rfl,a0,a6,ao,a1⟩:=ag;refine ai ?_;rw[A0] at ao a1;refine⟨Af,_,_,_,rfl,a0,a6,by lia,λy=>?_⟩
   rw[a1 y,qBS rfl,C9,ew,D0,qL1,en];by_cases c:y∈ns
   ·rw[if_pos c,if_pos c]
    rfl
   ·rw[if_neg c,if_neg c]
 refineλσ Hf ae=>opq λb7 am=>?_;obtain⟨Af,v4,v5,v6,rfl,sm,hd,lk,hv⟩:=ae;refine am ?_;rw[A0] at lk hv;rw[qBS rfl] at hv;refine⟨(by show 0<=B12;decide),λd aq=>?_⟩
 have a8:H d=none:=sm.free aq;have sp:=qA4 aq (.lst []);have a7:=sp _ _ hd;have s1:=sm.trans sp;have a9:(Ag Hf d (.lst [])) d=some (.lst (([]:List Addr).map V.ref)):=qA1;generalize Ag Hf d (.lst [])=H1 at a7 s1 a9;have au:u≠d:=qC1 a7 a9 (by intro z;cases z)
 refine⟨_,rfl,lo,rfl,⟨_,Ab2 (s1 _ _ a3)⟩,qC4 (a:=lo) (xs:=g.map V.int) (λi σ n=>∃(ss:List Addr) (v4 v5:Option V),σ=[some (.ref a),some (.ref t),some (.ref lo),some (.ref u),v4,v5,some (.ref d)]/\Same H n/\n u=some (.dK Af)/\n d=some (.lst (ss.map V.ref))/\MovL n ss ((g.take i).flatMap (qKR j Ad g))/\ss.length<=500*i)
  ⟨[],v4,v5,rfl,s1,a7,a9,.nil,E7 _⟩ (λi σ n _ hP=>by obtain⟨_,_,_,_,sg,_⟩:=hP;exact Ab2 (sg _ _ a3)) ?_ ?_⟩
 ·refineλi x σ n hx av=>opq λb8 ac=>?_;obtain⟨ss,v4,v5,rfl,sg,b0,a4,M,ls⟩:=av;obtain⟨b,ew,rfl⟩:=qAY hx;refine ac ?_;have hi:=(A3.mp ew).1;have wb:=af b (A9 ew);have hw:b.toNat<j.length:=by lia
  have hz:=A4 hw;obtain⟨r,h3,h4⟩:=NL.get hz;have ln:=(wf b.toNat _ hz).len;have en:=qCI hz;generalize j[b.toNat]=ns at h4 hz ln en;have fm:(g.take (i+1)).flatMap (qKR j Ad g)=(g.take i).flatMap (qKR j Ad g)++qKR j Ad g b:=by
   rw[C9,ew,D0,A24];simp
  rw[fm];generalize (g.take i).flatMap (qKR j Ad g)=ar at M;refine⟨_,rfl,.inl ⟨rfl,_,Ab2 a4⟩,_,rfl,(by show 2<=B12;decide),λT ab=>?_⟩
  have sT:=qA4 ab (.tup [.str "do",.int b])
  have gl:=sT _ _ a4;refine⟨d,_,_,rfl,rfl,gl,qAQ (by rw[A0];lia),?_⟩
  rw[qBF];have a2:Same H (Ag (Ag n T (.tup [.str "do",.int b])) d (.lst ((ss++[T]).map V.ref))):=qAB (sg.trans sT) a8
  have M2:MovL (Ag (Ag n T (.tup [.str "do",.int b])) d (.lst ((ss++[T]).map V.ref))) (ss++[T]) (ar++[(("do",b):Mv)]):=((M.same sT).snoc qA1).put gl
  have a5:(Ag (Ag n T (.tup [.str "do",.int b])) d (.lst ((ss++[T]).map V.ref))) u=some (.dK Af):=by rw[qA9 au];exact sT _ _ b0
  have aa:(Ag (Ag n T (.tup [.str "do",.int b])) d (.lst ((ss++[T]).map V.ref))) d=some (.lst ((ss++[T]).map V.ref)):=qA1
  have b3:(ss++[T]).length<=500*i+1:=by rw[B7,F1];lia
  generalize Ag (Ag n T (.tup [.str "do",.int b])) d (.lst ((ss++[T]).map V.ref))=H2 at a2 M2 a5 aa
  generalize ss++[T]=b1 at M2 aa b3;refine⟨_,rfl,_,rfl,a,_,_,_,rfl,rfl,Ac0 (a2 _ _ hA),qGZ wb.1 (by rw[B6,h3];rfl),r,rfl,⟨_,Ac0 (a2 _ _ h4)⟩,qHE (a:=r) (xs:=ns.map V.int) (λk σ m=>∃(ss:List Addr) (v5:Option V),σ=[some (.ref a),some (.ref t),some (.ref lo),some (.ref u),some (.int b),v5,some (.ref d)]/\Same H m/\m u=some (.dK Af)/\m d=some (.lst (ss.map V.ref))/\MovL m ss (ar++[(("do",b):Mv)]++((ns.take k).filter λy=>decide (qBJ j g y=some b/\y∉Ad)).map λy=>(("clear",y):Mv))/\ss.length<=500*i+1+k)
   ⟨b1,v5,rfl,a2,a5,aa,by simpa using M2,by lia⟩ (λk σ m _ hP=>by obtain⟨_,_,_,sd,_⟩:=hP;exact Ac0 (sd _ _ h4)) ?_ ?_⟩
  ·refineλk x σ m hx ax=>opq λb9 ad=>?_;obtain⟨ss,v5,rfl,sd,l,p,M3,ay⟩:=ax;obtain⟨y,ey,rfl⟩:=qAY hx;refine ad ?_;have hk:=(A3.mp ey).1;have my:y∈nd j b:=by rw[en];exact A9 ey
   obtain⟨v,ev⟩:∃v,qBJ j g y=some v:=by
    cases e:qBJ j g y with
    |some v=>exact⟨v,rfl⟩
    |none=>exact absurd my (lastOf_none.mp e b (A9 ew))
   have hg:=DGet.k (k:=E8 y) l;rw[hv y,ev] at hg;rw[qC9 ey,ev];refine⟨_,rfl,_,rfl,u,_,rfl,hg,_,rfl,rfl,_,rfl,?_⟩;by_cases c1:v=b
   ·rw[decide_eq_true (show V.int v=V.int b by rw[c1])]
    refine⟨_,rfl,_,rfl,t,_,rfl,.inr (Ac0 (sd _ _ hT)),rfl,qIB Ad,_,rfl,?_⟩;rw[qO6];by_cases c2:y∈Ad
    ·rw[decide_eq_true c2,decide_eq_false (show¬(some v=some b/\y∉Ad) fromλz=>z.2 c2)];exact⟨ss,_,rfl,sd,l,p,by simpa using M3,by lia⟩
    ·rw[decide_eq_false c2,decide_eq_true (show some v=some b/\y∉Ad from⟨by rw[c1],c2⟩)]
     refine⟨_,rfl,.inl ⟨rfl,_,Ab2 p⟩,_,rfl,(by show 2<=B12;decide),λT ab=>?_⟩
     have sT:=qA4 ab (.tup [.str "clear",.int y]);have gl:=sT _ _ p;refine⟨d,_,_,rfl,rfl,gl,qAQ (by rw[A0];lia),?_⟩
     rw[qBF];refine⟨ss++[T],_,rfl,qAB (sd.trans sT) a8,by rw[qA9 au];exact sT _ _ l,qA1,?_,by rw[B7,F1];lia⟩
     have:=((M3.same sT).snoc qA1).put (o:=.lst ((ss++[T]).map V.ref)) gl;rw[if_pos rfl,C2 (f:=λy=>(("clear",y):Mv)),<- L0];exact this
   ·rw[decide_eq_false (show¬V.int v=V.int b fromλz=>c1 (V.int.inj z)),decide_eq_false (show¬(some v=some b/\y∉Ad) fromλz=>c1 (B0 z.1))];exact⟨ss,_,rfl,sd,l,p,by simpa using M3,by lia⟩
  ·refineλσ m an=>opq λba al=>?_;obtain⟨ss,v5,rfl,sd,l,p,M3,ay⟩:=an;refine al ?_;rw[A0] at M3 ay;rw[qBS rfl] at M3;refine⟨ss,_,_,rfl,sd,l,p,?_,by lia⟩
   unfold qKR clrs;rw[en];rw[L0] at M3;exact M3
 ·refineλσ n az=>opq λbb aj=>?_;obtain⟨ss,v4,v5,rfl,sg,b0,a4,M,ls⟩:=az;refine aj ?_;rw[A0,qBS rfl] at M;exact⟨_,rfl,q d n sg a8 ⟨ss,a4,M⟩⟩
theorem qNP:FnScope ["net","asked"] ["net","asked"] (qA7 qE4):=qB2
theorem ok_plain_plan (F:Fun K "plain_plan" "plain_plan" qE4 f fd) (d:Clb P w K mg base 1 qBW qD6 "plan_in_order" ["net","asked","order"] qNK)
  (e:Clb P w K mg base 1 qCC qDJ "all_needed" ["net","asked"] qPB):FnOk P w K mg base CX0 2 f fd ["net","asked"] qNH:=by
 refine F.okA qNP λa2 A g s H vs Q E c h=>?_;obtain⟨a,t,u,r,rfl,p,m,x,⟨v,n⟩,q⟩:=h;have a1:Room 1 _:=c;have a0:Room 1 _:=c;refine⟨_,(qA5 (qAC (qAI d c rfl (qA0 (pv 0) (qA0 (pv 1) (qA0 (qAI e c rfl (qA0 (pv 0) (qA0 (pv 1) qA2))) qA2)))))),?_⟩
 try dsimp only[Cx.nox,Cx.wish,cxOf]
 refine⟨_,rfl,_,rfl,_,rfl,_,rfl,a,t,u,r,rfl,p,m,by lia,v,n.in_,λl o H1 b fl z j=>?_⟩
 exact⟨a,t,l,u,r,o,rfl,p.same b,m,by lia,⟨b _ _ v,n⟩,z,j.1.in_,j.1.len,λy H2 i k hp=>q y o H2 (b.trans i) (b.free k) j hp⟩
theorem qU5:FnScope ["n","back"] ["n","back"] (qA7 qHO):=qB2
theorem ok_row_net (F:Fun K "row_net" "row_net" qHO f fd) (j:mg "tuple" = none) (qBG:mg "range" = none) (qYR:mg "max" = none):FnOk P w K mg base CX0 1 f fd ["n","back"] qSJ:=by
 refine F.okA qU5 λa3 A x s H vs Q E hr h=>?_;obtain⟨n,b,rfl,hn,hb,q⟩:=h;refine⟨_,(qA5 (qAC (qB0 qBC rfl j qBX (qA0 (qGX rfl (lcs (own:=["work"]) (fv:=[1]) (by kernel_rfl)) (qD1 rfl qBG (qA0 (pv 0) qA2)) (λz1=>qDS 0) (λz1=>qC7) (λz1=>(qB0 (qMD rfl) rfl j qBX (qA0 (qB0 qYB rfl qBG qTT (qA0 (qAG (qYE rfl) rfl qYR qbH (qA0 qA8 (qA0 (qAU qFD (pv 0) (pv 1)) qA2))) (qA0 (pv 0) qA2))) qA2)))) qA2)))),?_⟩
 try dsimp only[Cx.nox,Cx.wish,cxOf]
 refine⟨_,rfl,(n:Int),rfl,by lia,by lia,λp hp=>?_⟩
 refine qGK (p:=p) (lo:=0) (n:=(n:Int).toNat) (λi σ l=>∃(v:Option V) (rs:List Addr),σ=[v,some (.int (b:Int))]/\Same H l/\l p=some (.lst (rs.map V.ref))/\NetL l rs (rowN i b)) ?_ ?_ ?_
 ·exact⟨none,[],rfl,qA4 hp _,qA1,.nil⟩
 ·refineλi σ l hi m=>opq λa2 o=>?_;obtain⟨v,rs,rfl,z,d,N⟩:=m;refine o ?_;have lN:rs.length=i:=by rw[NetAt.len N];simp[rowN]
  refine⟨_,rfl,_,rfl,_,_,rfl,rfl,0,_,rfl,_,rfl,_,_,rfl,λp1 k=>?_⟩;refine⟨p1,_,_,rfl,qA1,by split<;>lia,by split<;>lia,by lia,by lia,λr c=>?_⟩
  have a0:(if(0+(i:Int))-(b:Int)>0 then(0+(i:Int))-(b:Int) else 0)=((i-b:Nat):Int):=by split<;>lia
  have y:0+(i:Int)=(i:Int):=by lia
  dsimp only at c k ⊢;rw[qKL];rw[a0] at c ⊢;rw[y] at c ⊢;have g:=(qA4 k (.rng ((i-b:Nat):Int) (i:Int))).trans (qA4 c (.tup ((qAO ((i-b:Nat):Int) (i:Int)).map V.int)));have g1:=g _ _ d;refine⟨_,g1,qAZ (by rw[A0,lN];lia),?_⟩
  rw[qBF];refine⟨_,rs++[r],rfl,qAB (z.trans g) hp,qA1,?_⟩;have e1:rowN (i+1) b=rowN i b++[qAO ((i-b:Nat):Int) (i:Int)]:=by unfold rowN;rw[T1,C2];rfl
  rw[e1];exact qHW (qGJ (N.same λr' ys e=>g _ _ e) qA1) g1
 ·refineλσ l t=>opq λa1 u=>?_;obtain⟨v,rs,rfl,z,d,N⟩:=t;refine u ?_;refine⟨p,_,rfl,.inl ⟨Ab2 d,λa ha=>?_⟩⟩;have g:=qA4 ha (.tup (rs.map V.ref));exact q a _ (z.trans g) ⟨rs,qA1,N.same λr ys e=>g _ _ e⟩
theorem sc_square_needs:FnScope ["m","i","j","above","ahead"] ["m","i","j"] (qA7 qCW):=qB2
theorem ok_square_needs (F:Fun K "square_needs" "square_needs" qCW f fd):FnOk P w K mg base CX0 1 f fd ["m","i","j"] qP6:=by
 refine F.okA sc_square_needs λa0 A l s H vs Q E hr h=>?_;obtain⟨m,a,i,j,rfl,m4,i0,x,jm,r,q⟩:=h;refine⟨_,(qA3 (qAF (i:=3) sc_square_needs.nd rfl (E9 rfl) (qHU (qAS qWI (pv 1) qA8 (qB4 _)) (qAT (qA0 (qAU qCA (qAU qEK (qAU qFD (pv 1) qA8) (pv 0)) (pv 2)) qA2)) (qAT qA2))) (qA3 (qAF (i:=4) sc_square_needs.nd rfl (E9 rfl) (qHU (qAS qWI (pv 2) qA8 (qB4 _)) (qAT (qA0 (qAU qFD (qAU qCA (qAU qEK (pv 1) (pv 0)) (pv 2)) qA8) qA2)) (qAT qA2))) (qA5 (qAC (qAU qcT (pv 3) (pv 4)))))),?_⟩
 try dsimp only[Cx.nox,Cx.wish,cxOf]
 have hm:(0:Int)<m:=by lia
 have v:0<i->m<=a:=λh=>by
  have k:0<=(i-1)*(m:Int):=Int.mul_nonneg (by lia) (by lia)
  rw[Int.sub_mul,Int.one_mul] at k
  lia
 have c2:¬0<i->¬m<=a:=λh=>by
  have k:i=0:=by lia
  subst k;rw[Int.zero_mul] at r
  lia
 have cm:((a%m:Nat):Int)=j:=by
  rw[Int.natCast_emod,<- r,Int.add_comm,Int.add_mul_emod_self_right];exact Int.emod_eq_of_lt x jm
 refine cut λN1 n=>?_;have u:∀(a1:Addr) (H1:Hp),Same H H1->H1 a1=some (.tup ((if m<=a then[(a:Int)-m] else[]).map V.int))->N1 [some (.int (m:Int)),some (.int i),some (.int j),some (.ref a1),none] H1:=by
  intro a1 H1 s1 g1;refine n _ _ (cut λN2 g=>?_);have t:∀(a2:Addr) (H2:Hp),Same H1 H2->H2 a2=some (.tup ((if 0<a%m then[(a:Int)-1] else[]).map V.int))->N2 [some (.int (m:Int)),some (.int i),some (.int j),some (.ref a1),some (.ref a2)] H2:=by
   intro a2 H2 o g2;refine g _ _ ?_;refine⟨_,rfl,_,rfl,a1,a2,_,_,rfl,rfl,o _ _ g1,g2,?_,λp z s3 y=>?_⟩
   ·have e1:(if m<=a then[(a:Int)-m] else[]).length<=1:=by split<;>simp
    have e2:(if 0<a%m then[(a:Int)-1] else[]).length<=1:=by split<;>simp
    exact R4 (qAZ (by rw[A0,A0];lia))
   ·refine q p z ((s1.trans o).trans s3) ?_;unfold sqW;rw[C2];exact y
  refine⟨_,rfl,_,_,rfl,rfl,_,rfl,?_⟩;refine ite2 (λc=>?_) (λc=>?_)
  ·have d:0<j:=of_decide_eq_true c;refine⟨_,rfl,_,rfl,_,_,rfl,rfl,(qKU (by lia) (by lia)),_,rfl,_,_,rfl,rfl,_,_,rfl,rfl,(by show 1<=B12;decide),λp b=>?_⟩
   refine t p _ (qA4 b _) ?_;rw[if_pos (by lia)]
   have e:i*(m:Int)+j-1=(a:Int)-1:=by lia
   rw[<- e];exact qA1
  ·have d:¬0<j:=of_decide_eq_false (F8.mpr c);refine⟨(by show 0<=B12;decide),λp b=>?_⟩
   refine t p _ (qA4 b _) ?_;rw[if_neg (by lia)]
   exact qA1
 refine⟨_,rfl,_,_,rfl,rfl,_,rfl,?_⟩;refine ite2 (λc=>?_) (λc=>?_)
 ·have d:0<i:=of_decide_eq_true c;refine⟨_,rfl,_,_,rfl,rfl,_,rfl,_,_,rfl,rfl,(qKU (by lia) (by lia)),_,rfl,_,_,rfl,rfl,(by show 1<=B12;decide),λp b=>?_⟩
  refine u p _ (qA4 b _) ?_;rw[if_pos (v d)];have e:(i-1)*(m:Int)+j=(a:Int)-m:=by rw[Int.sub_mul,Int.one_mul];lia
  rw[<- e];exact qA1
 ·have d:¬0<i:=of_decide_eq_false (F8.mpr c);refine⟨(by show 0<=B12;decide),λp b=>?_⟩
  refine u p _ (qA4 b _) ?_;rw[if_neg (c2 d)];exact qA1
theorem qNN:FnScope ["n","m"] ["n","m"] (qA7 qE2):=qB2
theorem ok_square_net (F:Fun K "square_net" "square_net" qE2 f fd) (y:Clb P w K mg base 1 qEF qLE "square_needs" ["m","i","j"] qP6) (t:mg "tuple" = none) (qBG:mg "range" = none):FnOk P w K mg base CX0 2 f fd ["n","m"] qZ0:=by
 refine F.okA qNN λa2 A x s H vs Q E hr h=>?_;obtain⟨n,m,rfl,hm,m4,hz,q⟩:=h;have u:(n:Int)*(m:Int)=((n*m:Nat):Int):=by rw[Int.natCast_mul]
 refine⟨_,(qA5 (qAC (qB0 qBC rfl t qBX (qA0 (qGX rfl (lcs (own:=["work"]) (fv:=[1]) (by kernel_rfl)) (qD1 rfl qBG (qA0 (qAU qEK (pv 0) (pv 1)) qA2)) (λz1=>qDS 0) (λz1=>qC7) (λz1=>(qAI y hr rfl (qA0 (pv 1) (qA0 (qAU qWJ (pv 0) (pv 1)) (qA0 (qAU qKS (pv 0) (pv 1)) qA2)))))) qA2)))),?_⟩
 try dsimp only[Cx.nox,Cx.wish,cxOf]
 refine⟨_,rfl,_,rfl,_,_,rfl,rfl,(qKU (by lia) (by lia)),((n:Int)*(m:Int)),rfl,by rw[u];lia,by rw[u];lia,λp hp=>?_⟩
 rw[u];refine qGK (p:=p) (lo:=0) (n:=((n*m:Nat):Int).toNat) (λi σ g=>∃(v:Option V) (rs:List Addr),σ=[v,some (.int (m:Int))]/\Same H g/\g p=some (.lst (rs.map V.ref))/\NetL g rs ((C3 i).map (sqW m))) ?_ ?_ ?_
 ·exact⟨none,[],rfl,qA4 hp _,qA1,.nil⟩
 ·refineλi σ g hi j=>opq λa1 k=>?_;obtain⟨v,rs,rfl,z,b,N⟩:=j;refine k ?_;have lN:rs.length=i:=by rw[NetAt.len N];simp
  have c:(0:Int)<(m:Int):=by lia
  have hd:=Int.mul_ediv_add_emod (0+(i:Int)) (m:Int);rw[Int.mul_comm] at hd;refine⟨_,rfl,_,rfl,_,rfl,_,_,rfl,rfl,⟨c,(by show(m:Int)<1073741824;lia)⟩,_,rfl,_,rfl,_,_,rfl,rfl,c,?_⟩
  refine⟨m,i,_,_,rfl,m4,Int.ediv_nonneg (by lia) (by lia),V5 _ (by lia),R6 _ c,by rw[hd];lia,λr H' d gr=>?_⟩
  have g1:=d _ _ b;refine⟨_,g1,qAZ (by rw[A0,lN];lia),?_⟩
  rw[qBF];refine⟨_,rs++[r],rfl,qAB (z.trans d) hp,qA1,?_⟩;have e7:(C3 (i+1)).map (sqW m)=(C3 i).map (sqW m)++[sqW m i]:=by rw[T1,C2];rfl
  rw[e7];exact qHW (qGJ (N.same λr' ys e=>d _ _ e) gr) g1
 ·refineλσ g l=>opq λa0 o=>?_;obtain⟨v,rs,rfl,z,b,N⟩:=l;refine o ?_;refine⟨p,_,rfl,.inl ⟨Ab2 b,λa ha=>?_⟩⟩;have d:=qA4 ha (.tup (rs.map V.ref));exact q a _ (z.trans d) ⟨rs,qA1,N.same λr ys e=>d _ _ e⟩
theorem sc_step_net:FnScope ["n","net","ahead","length"] ["n"] (qA7 qG7):=qB2
theorem ok_step_net (F:Fun K "step_net" "step_net" qG7 f fd) (a7:mg "tuple" = none) (qBG:mg "range" = none):FnOk P w K mg base CX0 1 f fd ["n"] qc5:=by
 refine F.okA sc_step_net λak A ac s H vs Q E hr h=>?_;obtain⟨n,rfl,n1,n3,q⟩:=h;refine⟨_,(qA3 (qAF (i:=1) sc_step_net.nd rfl (E9 rfl) (qAU qf9 (qFN (qA0 (qAT qA2) qA2)) (pv 0))) (qA3 (qAF (i:=2) sc_step_net.nd rfl (r8 rfl) qA8) (qA3 (qB9 D4 rfl (qW8 rfl qBG (qA0 (qAU qFD (pv 0) qA8) (qA0 qA8 (qA0 (qZF qSD qA8) qA2)))) (qAJ (i:=3) sc_step_net.nd rfl (E9 rfl)) (qA3 (qEE (qNV G0 o6 o8 qPQ (pv 1) (qA0 (qGX rfl (lcs (own:=["place"]) (fv:=[2]) (by kernel_rfl)) (qD1 rfl qBG (qA0 (pv 3) qA2)) (λz1=>qDS 0) (λz1=>qC7) (λz1=>(qAT (qA0 (qAU qCA (pv 1) (pv 0)) (qA0 (qAU qCA (qAU qCA (pv 1) (pv 0)) qA8) qA2))))) qA2))) (qA5 (qaX (i:=2) sc_step_net.nd rfl (r8 rfl) (qAU qCA (pv 3) qA8) qb9)))) (qA5 (qAC (qB0 qBC rfl a7 qBX (qA0 (pv 1) qA2))))))),?_⟩
 try dsimp only[Cx.nox,Cx.wish,cxOf]
 refine cut λN1 ad=>?_;refine⟨(by show 0<=B12;decide),λb ae=>?_⟩
 refine⟨(by show 1<=B12;decide),λa1 a5=>?_⟩
 refine⟨_,rfl,a1,(n:Int),_,rfl,rfl,qA1,by lia,by lia,?_,λl hl=>?_⟩
 ·rw[D7];exact R4 (qAZ (by simp;lia))
 have s0:=(qA4 ae (.tup [])).trans (qA4 a5 (.lst [.ref b]));have ab:=qcW s0 hl;dsimp only at hl ⊢;rw[D7,qcC];have s1:=s0.trans (qA4 hl (.lst ((E5 n b).map V.ref)));have g0:=(qA4 a5 (.lst [.ref b])).trans (qA4 hl (.lst ((E5 n b).map V.ref))) _ _ (show(Ag H b (.tup [])) b=some (.tup []) from qA1);have g1:(Ag (Ag (Ag H b (.tup [])) a1 (.lst [.ref b])) l (.lst ((E5 n b).map V.ref))) l=some (.lst ((E5 n b).map V.ref)):=qA1;generalize Ag (Ag (Ag H b (.tup [])) a1 (.lst [.ref b])) l (.lst ((E5 n b).map V.ref))=H1 at s1 g0 g1 ⊢;have N0:NetL H1 (E5 n b) (stUp n 1):=by
  have e:stUp n 1=E5 n []:=by rw[qKA];rfl
  rw[e];exact qT8 g0 n
 refine ad _ _ (cut λN2 a9=>?_);refine a9 _ _ (cut λN3 a8=>?_);refine⟨_,rfl,_,_,rfl,rfl,_,rfl,_,_,rfl,⟨by lia,by lia,by decide,by decide⟩,qTH (lo:=(n:Int)-1) (n:=((n:Int)-1-0).toNat) (λi σ g=>∃(rs:List Addr) (v3:Option V),σ=[some (.int (n:Int)),some (.ref l),some (.int ((off n i:Nat):Int)),v3]/\Same H g/\g l=some (.lst (rs.map V.ref))/\NetL g rs (stUp n (i+1)))
  ⟨_,none,rfl,s1,g1,N0⟩ ?_ ?_⟩
 ·refineλi σ g hi y=>opq λaj a3=>?_;obtain⟨rs,v3,rfl,sm,c,N⟩:=y;refine a3 ?_;have lN:rs.length=off n (i+1):=by rw[NetAt.len N,qNE]
  have lo:=qb4 n (i+1);have lb:(i+1)*n<=30*30:=Nat.mul_le_mul (by lia) n3
  have oi:off n i<=off n (i+1):=Nat.le_add_right _ _;have ei:((n:Int)-1-(i:Int)).toNat=n-(i+1):=by lia
  refine cut λN4 aa=>?_;refine⟨_,rfl,.inl ⟨rfl,_,Ab2 c⟩,_,rfl,((n:Int)-1-(i:Int)),rfl,by lia,by lia,λp hp=>?_⟩
  have ai:l≠p:=qA6 c hp;refine qGK (p:=p) (lo:=0) (n:=((n:Int)-1-(i:Int)).toNat) (λj σ t=>∃(v:Option V) (qs:List Addr),σ=[v,some (.int ((off n i:Nat):Int))]/\Same g t/\t p=some (.lst (qs.map V.ref))/\NetL t qs ((C3 j).map λp=>[((off n i+p:Nat):Int),((off n i+p:Nat):Int)+1])) ?_ ?_ ?_
  ·exact⟨none,[],rfl,qA4 hp _,qA1,.nil⟩
  ·refineλj σ t hj a4=>opq λag a6=>?_;obtain⟨v,qs,rfl,sd,d,m⟩:=a4;refine a6 ?_;have lQ:qs.length=j:=by rw[NetAt.len m];simp
   refine⟨_,rfl,_,rfl,_,_,rfl,rfl,_,rfl,_,rfl,_,_,rfl,rfl,_,_,rfl,rfl,(by show 2<=B12;decide),λr x=>?_⟩
   have e1:((off n i:Nat):Int)+(0+(j:Int))=((off n i+j:Nat):Int):=by lia
   dsimp only at x ⊢;rw[e1];have k:=qA4 x (.tup [.int ((off n i+j:Nat):Int),.int (((off n i+j:Nat):Int)+1)]);have g2:=k _ _ d;refine⟨_,g2,qAZ (by rw[A0,lQ];lia),?_⟩
   rw[qBF];refine⟨_,qs++[r],rfl,qAB (sd.trans k) hp,qA1,?_⟩;have e7:((C3 (j+1)).map λp=>[((off n i+p:Nat):Int),((off n i+p:Nat):Int)+1])=((C3 j).map λp=>[((off n i+p:Nat):Int),((off n i+p:Nat):Int)+1])++[[((off n i+j:Nat):Int),((off n i+j:Nat):Int)+1]]:=by rw[T1,C2];rfl
   rw[e7];exact qHW (qGJ (m.same λr' ys e=>k _ _ e) qA1) g2
  ·refineλσ t a2=>opq λah o=>?_;obtain⟨v,qs,rfl,sd,d,m⟩:=a2;refine o ?_;have lQ:qs.length=n-(i+1):=by rw[NetAt.len m,A0,J2];lia
   rw[ei] at m;have g2:=sd _ _ c;refine⟨l,p,_,_,rfl,rfl,g2,d,R4 (qAQ (by rw[A0,A0,lN,lQ];lia)),?_⟩
   refine aa _ _ ?_;refine⟨_,rfl,_,rfl,_,_,rfl,rfl,_,_,rfl,rfl,?_⟩;refine⟨rs++qs,some (.int ((n:Int)-1-(i:Int))),?_,qAB (sm.trans sd) ab,?_,?_⟩
   ·have e2:((off n i:Nat):Int)+((n:Int)-1-(i:Int)+1)=((off n (i+1):Nat):Int):=by
     show _=((off n i+(n-i):Nat):Int)
     lia
    dsimp only[List.set];rw[e2]
   ·rw[C2];exact qA1
   ·rw[qKA];exact qHW (Paired.app (N.same λr' ys e=>sd _ _ e) m) g2
 ·refineλσ g u=>opq λaf z=>?_;obtain⟨rs,v3,rfl,sm,c,N⟩:=u;refine z ?_;refine a8 _ _ ?_;refine⟨_,rfl,l,_,rfl,.inl ⟨Ab2 c,λa ha=>?_⟩⟩;have k:=qA4 ha (.tup (rs.map V.ref));refine q a _ (sm.trans k) ⟨rs,qA1,?_⟩;rw[show((n:Int)-1-0).toNat+1=n by lia] at N
  exact N.same λr ys e=>k _ _ e
section
variable{P:B13}{w:World}{K:Ab1}{mg:Ab0}{base:Heap}{f:Addr}{fd:B22}
theorem qPE:FnScope ["n","back"] ["n","back"] (qA7 qEV):=qB2
theorem ok_row_rooms (F:Fun K "row_rooms" "row_rooms" qEV f fd) (qU0:mg "min" = none):FnOk P w K mg base CX0 1 f fd ["n","back"] qIL:=by
 refine F.okA qPE λc A a s H g Q E d h=>?_;obtain⟨n,b,rfl,i,j,k,q⟩:=h;refine⟨_,(qA5 (qAC (qAG (qQG rfl) rfl qU0 qYG (qA0 (pv 0) (qA0 (qAU qCA (pv 1) qA8) qA2))))),?_⟩
 try dsimp only[Cx.nox,Cx.wish,cxOf]
 refine⟨_,rfl,_,rfl,_,_,rfl,rfl,_,_,rfl,?_⟩;have e:(if(b:Int)+1<(n:Int) then(b:Int)+1 else(n:Int))=((min (n-1) b:Nat):Int)+1:=by split<;>lia
 dsimp only;rw[e];exact q
theorem qKJ:FnScope ["n","m"] ["n","m"] (qA7 qCV):=qB2
theorem ok_square_rooms (F:Fun K "square_rooms" "square_rooms" qCV f fd) (qU0:mg "min" = none):FnOk P w K mg base CX0 1 f fd ["n","m"] qKE:=by
 refine F.okA qKJ λd A a s H k Q E i h=>?_;obtain⟨n,m,rfl,l,o,p,j,q⟩:=h;refine⟨_,(qA3 (qC8 (qAS qIN (qAU qEK (pv 0) (pv 1)) qA8 (qB4 _)) (qA5 (qAC qA8)) qAN) (qA5 (qAC (qAU qCA (qAG (qQG rfl) rfl qU0 qYG (qA0 (pv 0) (qA0 (pv 1) qA2))) qA8)))),?_⟩
 try dsimp only[Cx.nox,Cx.wish,cxOf]
 refine⟨_,rfl,_,rfl,_,_,rfl,rfl,qKU (by lia) (by lia),rfl,_,rfl,?_⟩
 unfold qR1 at q;refine ite2 (λc=>?_) (λc=>?_)
 ·have e:(n:Int)*(m:Int)=1:=V.int.inj (of_decide_eq_true c);have b:n*m=1:=by exact_mod_cast e
  rw[if_pos b] at q;exact q
 ·have e:¬n*m=1:=λz=>c (decide_eq_true (by show V.int ((n:Int)*(m:Int))=V.int 1;rw[show(n:Int)*(m:Int)=1 by exact_mod_cast z]))
  rw[if_neg e] at q;refine⟨_,rfl,_,rfl,_,_,rfl,_,_,rfl,rfl,?_⟩;have g:(if(m:Int)<(n:Int) then(m:Int) else(n:Int))=((min n m:Nat):Int):=by split<;>lia
  dsimp only;rw[g];exact q
theorem qNM:FnScope ["n"] ["n"] (qA7 qE0):=qB2
theorem ok_step_rooms (F:Fun K "step_rooms" "step_rooms" qE0 f fd):FnOk P w K mg base CX0 1 f fd ["n"] qP4:=by
 refine F.okA qNM λb A a s H g Q E d h=>?_;obtain⟨n,rfl,i,j,q⟩:=h;refine⟨_,(qA5 (qAC (qHU (qAS qIN (pv 0) qA8 (qB4 _)) qA8 (qAU qCA (pv 0) qA8)))),?_⟩
 try dsimp only[Cx.nox,Cx.wish,cxOf]
 refine⟨_,rfl,rfl,_,rfl,?_⟩;refine ite2 (λc=>?_) (λc=>?_)
 ·have e:(n:Int)=1:=V.int.inj (of_decide_eq_true c);rw[if_pos (show n=1 by lia)] at q
  exact q
 ·have e:¬n=1:=λz=>c (decide_eq_true (by rw[z];rfl))
  rw[if_neg e] at q;exact⟨_,rfl,_,_,rfl,rfl,q⟩
end
section
variable{P:B13}{w:World}{K:Ab1}{mg:Ab0}{base:Heap}{f:Addr}{fd:B22}{qEQ qD3:Addr}{qGP qF3:B22}
theorem qR6:FnScope ["n","back"] ["n","back"] (qA7 qG9):=qB2
theorem ok_row_plan (F:Fun K "row_plan" "row_plan" qG9 f fd) (qD4:Clb P w K mg base 1 qEQ qGP "row_net" ["n","back"] qSJ) (i:Clb P w K mg base 2 qD3 qF3 "plain_plan" ["net","asked"] qNH):FnOk P w K mg base CX0 3 f fd ["n","back"] qMJ:=by
 refine F.okA qR6 λv A g s H vs Q E m h=>?_;obtain⟨n,b,rfl,t,h2,h3,h4,q⟩:=h;have C:=qTQ t h2 h3 h4;refine⟨_,(qA5 (qAC (qAI i m rfl (qA0 (qAI qD4 m rfl (qA0 (pv 0) (qA0 (pv 1) qA2))) (qA0 (qAT (qA0 (qAU qFD (pv 0) qA8) qA2)) qA2))))),?_⟩
 try dsimp only[Cx.nox,Cx.wish,cxOf]
 refine⟨_,rfl,_,rfl,n,b,rfl,by lia,by lia,λa H1 k r=>?_⟩
 refine⟨_,rfl,_,_,rfl,rfl,(by show 1<=B12;decide),λu d=>?_⟩
 have c:=qA4 d (.tup [.int ((n:Int)-1)]);refine⟨a,u,rowN n b,[(n:Int)-1],rfl,r.same c,C.wf,by have:=C.l10;lia,⟨qA1,⟨.cons (λ_ z=>nomatch z) .nil,λx y=>by rw[A6.mp y,qNT];lia⟩⟩,λl zs H2 p o N j=>?_⟩
 have e:=qEL N (by have:=C.nd;rw[qNT] at this;exact this)
 rw[e] at j;exact q l H2 (k.trans (c.trans p)) ((k.trans c).free o) j
end
section
variable{P:B13}{w:World}{K:Ab1}{mg:Ab0}{base:Heap}{f:Addr}{fd:B22}{qEP qD3:Addr}{qHF qF3:B22}
theorem sc_step_plan:FnScope ["n","net"] ["n"] (qA7 qEU):=qB2
theorem ok_step_plan (F:Fun K "step_plan" "step_plan" qEU f fd) (g:Clb P w K mg base 1 qEP qHF "step_net" ["n"] qc5) (k:Clb P w K mg base 2 qD3 qF3 "plain_plan" ["net","asked"] qNH) (qCD:mg "len" = none):FnOk P w K mg base CX0 3 f fd ["n"] qP5:=by
 refine F.okA sc_step_plan λa0 A d s H vs Q E t h=>?_;obtain⟨n,rfl,o,h2,q⟩:=h;refine⟨_,(qA3 (qAF (i:=1) sc_step_plan.nd rfl (E9 rfl) (qAI g t rfl (qA0 (pv 0) qA2))) (qA5 (qAC (qAI k t rfl (qA0 (pv 1) (qA0 (qAT (qA0 (qAU qFD (qAG qAH rfl qCD qCM (qA0 (pv 1) qA2)) qA8) qA2)) qA2)))))),?_⟩
 try dsimp only[Cx.nox,Cx.wish,cxOf]
 have C:=qY9 o h2;have og:1<=off n n:=by have:=C.l1;rwa[qKB] at this
 refine⟨_,rfl,n,rfl,o,by lia,λa H1 r m=>?_⟩
 obtain⟨rs,u,NL⟩:=id m;have j:(((rs.map V.ref).length:Nat):Int)=((off n n:Nat):Int):=by rw[A0,C6 NL,qKB]
 refine⟨_,rfl,_,rfl,a,_,rfl,.inr (Ac0 u),_,_,rfl,rfl,(by show 1<=B12;decide),λta c=>?_⟩
 dsimp only;rw[j];have b:=qA4 c (.tup [.int (((off n n:Nat):Int)-1)]);refine⟨a,ta,stN n,[((off n n:Nat):Int)-1],rfl,m.same b,C.wf,by have:=C.l10;lia,⟨qA1,⟨.cons (λ_ z=>nomatch z) .nil,λx hx=>by rw[A6.mp hx,qKB];lia⟩⟩,λl zs H2 y v N p=>?_⟩
 have e:=qEL N (by have:=C.nd;rw[qKB] at this;exact this)
 rw[e] at p;exact q l H2 (r.trans (b.trans y)) ((r.trans b).free v) p
end
section
variable{P:B13}{w:World}{K:Ab1}{mg:Ab0}{base:Heap}{f:Addr}{fd:B22}
theorem sc_by_columns:FnScope ["n","m","order","j"] ["n","m"] (qA7 qE5):=qB2
theorem ok_by_columns (F:Fun K "by_columns" "by_columns" qE5 f fd) (qBG:mg "range" = none):FnOk P w K mg base CX0 1 f fd ["n","m"] qVP:=by
 refine F.okA sc_by_columns λa6 A a0 s H vs Q E hr h=>?_;obtain⟨n,m,rfl,h1,h2,h3,h4,h5,q⟩:=h;refine⟨_,(qA3 (qAF (i:=2) sc_by_columns.nd rfl (E9 rfl) (qFN qA2)) (qA3 (qB9 D4 rfl (qD1 rfl qBG (qA0 (pv 1) qA2)) (qAJ (i:=3) sc_by_columns.nd rfl (r8 rfl)) (qA5 (qEE (qNV G0 o6 o8 qPQ (pv 2) (qA0 (qGX rfl (lcs (own:=["i"]) (fv:=[1,3]) (by kernel_rfl)) (qD1 rfl qBG (qA0 (pv 0) qA2)) (λz1=>qDS 0) (λz1=>qC7) (λz1=>(qAU qCA (qAU qEK (pv 0) (pv 1)) (pv 2)))) qA2))))) (qA5 (qAC (pv 2))))),?_⟩
 try dsimp only[Cx.nox,Cx.wish,cxOf]
 refine⟨(by show 0<=B12;decide),λlo c=>?_⟩
 have s1:=qA4 c (.lst []);refine⟨_,rfl,(m:Int),rfl,by lia,by lia,qQ6 (lo:=0) (n:=((m:Int)).toNat) (λj σ d=>∃v3:Option V,σ=[some (.int (n:Int)),some (.int (m:Int)),some (.ref lo),v3]/\Same H d/\d lo=some (.lst ((colK n m j).map V.int)))
  ⟨none,rfl,s1,by rw[qA1];rfl⟩ ?_ ?_⟩
 ·refineλj σ d hj l=>opq λa5 t=>?_;obtain⟨v3,rfl,sm,a⟩:=l;refine t ?_;rw[D7] at hj;refine⟨_,rfl,.inl ⟨rfl,_,Ab2 a⟩,_,rfl,(n:Int),rfl,by lia,by lia,λp hp=>?_⟩
  refine qGK (p:=p) (lo:=0) (n:=((n:Int)).toNat) (λi σ y=>∃v:Option V,σ=[v,some (.int (m:Int)),some (.int (0+(j:Int)))]/\Same d y/\y p=some (.lst (((C3 i).map λi=>((i*m+j:Nat):Int)).map V.int))) ?_ ?_ ?_
  ·exact⟨none,rfl,qA4 hp _,by rw[qA1];rfl⟩
  ·refineλi σ y hi u=>opq λa3 x=>?_;obtain⟨v,rfl,z,b⟩:=u;refine x ?_;rw[D7] at hi;refine⟨_,rfl,_,rfl,_,_,rfl,rfl,qKU (by lia) (by lia),_,rfl,_,_,rfl,rfl,_,b,qAQ (by rw[A0,A0,J2];lia),?_⟩
   refine⟨_,rfl,qAB z hp,?_⟩;rw[qA1,T1,C2,C2];have e:(0+(i:Int))*(m:Int)+(0+(j:Int))=((i*m+j:Nat):Int):=by rw[A61,A61];exact_mod_cast rfl
   dsimp only;rw[e]
   rfl
  refineλσ y r=>opq λa4 g=>?_;obtain⟨v,rfl,z,b⟩:=r;refine g ?_;rw[D7] at b;have a1:=z _ _ a;have sz:n*j<=n*m:=A26 n (by lia)
  refine⟨lo,p,_,_,rfl,rfl,a1,b,by rw[A0,A0,A0,J2,qaO,B24];lia,?_⟩
  refine⟨_,rfl,qAB (sm.trans z) c,?_⟩;rw[qA1,qY4 h1,C2 (f:=V.int)]
 ·refineλσ d k=>opq λa2 o=>?_;obtain⟨v3,rfl,sm,a⟩:=k;refine o ?_;rw[D7] at a;exact⟨_,rfl,q lo d sm c a⟩
end
section
variable{P:B13}{w:World}{K:Ab1}{mg:Ab0}{base:Heap}{f:Addr}{fd:B22}{qFY qBW qCB:Addr}{qOB qD6 qDI:B22}
theorem sc_square_plan:FnScope ["n","m","order"] ["n","m"] (qA7 qDC):=qB2
theorem ok_square_plan (F:Fun K "square_plan" "square_plan" qDC f fd) (o:Clb P w K mg base 1 qFY qOB "by_columns" ["n","m"] qVP) (p:Clb P w K mg base 1 qBW qD6 "plan_in_order" ["net","asked","order"] qNK) (qBL:Clb P w K mg base 2 qCB qDI "square_net" ["n","m"] qZ0) (a2:mg "list" = none) (qBG:mg "range" = none):FnOk P w K mg base CX0 3 f fd ["n","m"] qMI:=by
 refine F.okA sc_square_plan λa3 A y s H vs Q E hr h=>?_;obtain⟨n,m,rfl,hq,q⟩:=h;have C:=qYA hq;have O:=qc4 _ hq;obtain⟨v,j,h3,h4,h5⟩:=qbA _ hq;dsimp only at C O v j h3 h4 h5;refine⟨_,(qA3 (qAF (i:=2) sc_square_plan.nd rfl (E9 rfl) (qHU (qAS qcR (pv 0) (pv 1) (qB4 _)) (qAI o hr rfl (qA0 (pv 0) (qA0 (pv 1) qA2))) (qB0 (qOP rfl) rfl a2 qOR (qA0 (qB0 qYC rfl qBG qTT (qA0 (qAU qEK (pv 0) (pv 1)) qA2)) qA2)))) (qA5 (qAC (qAI p hr rfl (qA0 (qAI qBL hr rfl (qA0 (pv 0) (qA0 (pv 1) qA2))) (qA0 (qAT (qA0 (qAU qFD (qAU qEK (pv 0) (pv 1)) qA8) qA2)) (qA0 (pv 2) qA2))))))),?_⟩
 try dsimp only[Cx.nox,Cx.wish,cxOf]
 refine cut λN0 a0=>?_;have c5:((n:Int)*(m:Int))=((n*m:Nat):Int):=by exact_mod_cast rfl
 have h6:1<=n*m:=Nat.mul_pos v j;have d:∀(lo:Addr) (H1:Hp),Same H H1->H1 lo=some (.lst ((qNF n m).map V.int))->N0 [some (.int (n:Int)),some (.int (m:Int)),some (.ref lo)] H1:=by
  intro lo H1 g k;refine a0 _ _ ?_;refine⟨_,rfl,_,rfl,n,m,rfl,j,by lia,by lia,λa H2 u hN=>?_⟩
  refine⟨_,rfl,_,rfl,_,_,rfl,rfl,qKU (by lia) (by lia),_,_,rfl,rfl,(by show 1<=B12;decide),λta t=>?_⟩
  dsimp only;rw[c5];have b:=qA4 t (.tup [.int (((n*m:Nat):Int)-1)]);refine⟨_,rfl,a,ta,lo,sqN n m,[((n*m:Nat):Int)-1],qNF n m,rfl,hN.same b,C.wf,by have:=C.l10;lia,⟨qA1,⟨.cons (λ_ z=>nomatch z) .nil,λx hx=>by rw[A6.mp hx,qKC];lia⟩⟩,b _ _ (u _ _ k),by rw[qKC];exact O.1,by rw[qKC];exact O.2,λl H3 s3 f3 PL=>?_⟩
  exact q l H3 ((g.trans u).trans (b.trans s3)) (((g.trans u).trans b).free f3) PL
 refine⟨_,rfl,_,rfl,_,_,rfl,rfl,_,rfl,?_⟩;refine ite2 (λc=>?_) (λc=>?_)
 ·have e:(n:Int)<(m:Int):=of_decide_eq_true c;refine⟨_,rfl,_,rfl,n,m,rfl,v,j,by lia,by lia,by lia,λlo H1 g f1 gl=>d lo H1 g ?_⟩
  unfold qNF;rw[if_pos (by lia)]
  exact gl
 ·have e:¬(n:Int)<(m:Int):=λz=>c (decide_eq_true z);refine⟨_,rfl,_,rfl,_,_,rfl,rfl,qKU (by lia) (by lia),_,rfl,λpr r=>?_⟩
  dsimp only;rw[c5];refine⟨pr,_,_,rfl,qA1,by lia,by lia,by lia,by lia,λlo a1=>d lo _ ((qA4 r _).trans (qA4 a1 _)) ?_⟩
  unfold qNF;rw[if_neg (by lia),qA1,qKL]
end
theorem sc_stays_of:FnScope ["net","plan","needed","latest","place","move"] ["net","plan"] (qA7 qG8):=qB2
theorem ok_stays_of (F:Fun K "stays_of" "stays_of" qG8 f fd) (qCN:mg "enumerate" = none):FnOk P w K mg base CX0 1 f fd ["net","plan"] qP3:=by
 refine F.okA sc_stays_of λb8 A as s H vs Q E hr h=>?_;obtain⟨a,l,Ae,p,rfl,⟨hN,wf,b2,⟨rs,hL,ML⟩,lp,mo,nf⟩,q⟩:=h;have hu:=qI4 hr;refine⟨_,(qA3 (qAF (i:=2) sc_stays_of.nd rfl (E9 rfl) qEA) (qA3 (qAF (i:=3) sc_stays_of.nd rfl (r8 rfl) qEA) (qA3 (qB9 D4 rfl (qW7 rfl qCN qG3 (qA0 (pv 1) qA2)) (qKO rfl (qBP (qAJ (i:=4) sc_stays_of.nd rfl (E9 rfl)) (qBP (qAJ (i:=5) sc_stays_of.nd rfl (E9 rfl)) qH8))) (qA5 (qC8 (qAS qIN (qBT qBK (pv 5) qA8 (λ_ _=>rfl)) qC0 (qB4 _)) (qA3 (qCG hu (pv 2) (pv 4) (qGX rfl (lcs (own:=["need"]) (fv:=[3]) (by kernel_rfl)) (qE9 (qBT qBK (pv 0) (qBT qBK (pv 5) qA8 (λ_ _=>rfl)) (λ_ _=>rfl))) (λz1=>qDS 0) (λz1=>qC7) (λz1=>(qBU hu (pv 1) (pv 0) (λ_ _=>rfl)))) rfl) (qA5 (qCG hu (pv 3) (qBT qBK (pv 5) qA8 (λ_ _=>rfl)) (pv 4) rfl))) qAN))) (qA5 (qAC (qAT (qA0 (pv 2) (qA0 (pv 3) qA2)))))))),?_⟩
 try dsimp only[Cx.nox,Cx.wish,cxOf]
 obtain⟨b6,hA,NL⟩:=id hN;have az:=C6 ML;refine cut λN0 au=>?_;refineλb a6=>?_;have s1:=qA4 a6 (.dK []);have g1:(Ag H b (.dK [])) b=some (.dK (kvsV [] λ_=>V.non)):=qA1;generalize Ag H b (.dK [])=H1 at s1 g1 ⊢;refine au _ _ (cut λN1 ax=>?_);refineλo a9=>?_;have ac:=qA4 a9 (.dK []);have s2:=s1.trans ac;have g2:=ac _ _ g1;have am:(Ag H1 o (.dK [])) o=some (.dK []):=qA1;have an:b≠o:=qA6 g1 a9;have aw:H o=none:=s1.free a9;generalize Ag H1 o (.dK [])=H2 at s2 g2 am ⊢;refine ax _ _ (cut λN2 av=>?_);refine⟨_,rfl,l,rfl,⟨_,Ab2 (s2 _ _ hL)⟩,qTG (a:=l) (xs:=rs.map V.ref) (λi σ Hc=>∃(ad:Int->Addr) (v4 v5:Option V),σ=[some (.ref a),some (.ref l),some (.ref b),some (.ref o),v4,v5]/\Same H Hc/\Hc b=some (.dK (kvsV (intL ((C3 i).filter (dpB p))) λz=>.ref (ad z)))/\(∀j∈(C3 i).filter (dpB p),Hc (ad (j:Int))=some (.lst ((ndI Ae p j).map V.int)))/\qg4 Hc o p i)
  ⟨λ_=>a,none,none,rfl,s2,g2,λj u=>by simp at u,[],am,E7 _,λn=>rfl⟩ (λi σ Hc _ hP=>by obtain⟨_,_,_,_,sc,_⟩:=hP;exact Ab2 (sc _ _ hL)) ?_ ?_⟩
 ·refineλi x σ Hc T hx aj hT=>opq λb7 al=>?_;obtain⟨ad,v4,v5,rfl,sc,gd,PA,Af,gl,lk,hv⟩:=aj;obtain⟨r,er,rfl⟩:=qCR hx;obtain⟨m,em,hm⟩:=qAV ML er;refine al ?_;have hi:=(A3.mp em).1;have sT:=qA4 hT (.tup [.int (i:Int),.ref r]);have d:=sc.trans sT;have a2:=sT _ _ gd;have a1:=sT _ _ gl;have gT:SqT K (Ag Hc T (.tup [.int (i:Int),.ref r])) T [.int (i:Int),.ref r]:=Ac0 qA1;have a4:∀j∈(C3 i).filter (dpB p),(Ag Hc T (.tup [.int (i:Int),.ref r])) (ad (j:Int))=some (.lst ((ndI Ae p j).map V.int)):=λj u=>sT _ _ (PA j u);generalize Ag Hc T (.tup [.int (i:Int),.ref r])=H3 at d a2 a1 gT a4 ⊢;refine⟨T,_,rfl,gT,rfl,_,_,rfl,_,_,rfl,rfl,?_⟩;obtain⟨wd,w⟩:=m;obtain⟨mw,w0,w1⟩:=mo (wd,w) (A9 em);refine⟨_,rfl,r,_,_,_,rfl,rfl,Ac0 (d _ _ hm),rfl,rfl,_,rfl,?_⟩;refine ite2 (λck=>?_) (λck=>?_)
  ·have hd:wd = "do":=V.str.inj (of_decide_eq_true ck)
   subst hd;have a3:p[i]?=some (dO w):=em;have ar:=qMF a3;have hw:w.toNat<Ae.length:=by lia
   have hz:=A4 hw;obtain⟨rt,h3,h4⟩:=NL.get hz;have en:=qCI hz;have ln:=(wf w.toNat _ hz).len;have a5:=nf i w a3;rw[en] at a5;generalize Ae[w.toNat]=ys at h4 hz en ln a5;refine nmT λD1 d1 _=>?_;refine cut λM1 b1=>?_;refine⟨_,rfl,_,rfl,r,_,_,_,rfl,rfl,Ac0 (d _ _ hm),rfl,a,_,_,_,rfl,rfl,Ac0 (d _ _ hA),qGZ w0 (by rw[B6,h3];rfl),rt,rfl,⟨_,Ac0 (d _ _ h4)⟩,λt aa=>?_⟩
   refine qJ7 (p:=t) (a:=rt) (xs:=ys.map V.int) (λk σ Hd=>∃v:Option V,σ=[v,some (.ref o)]/\Same H3 Hd/\Hd t=some (.lst (((ys.take k).map λn=>(((lat p i n).getD 0:Nat):Int)).map V.int))) ?_ ?_ ?_ ?_
   ·exact⟨none,rfl,qA4 aa _,qA1⟩
   ·rintro k σ Hd hk ⟨v,rfl,sd,_⟩;exact Ac0 (sd _ _ (d _ _ h4))
   ·refineλk x σ Hd hx af=>opq λb3 ah=>?_;obtain⟨v,rfl,sd,a0⟩:=af;obtain⟨n,ey,rfl⟩:=qAY hx;refine ah ?_;have hk:=(A3.mp ey).1;obtain⟨j,ej⟩:=a5 n (A9 ey);have hg:=DGet.k (k:=E8 n) (sd _ _ a1);rw[hv n,ej] at hg;refine⟨_,rfl,_,rfl,o,_,rfl,hg,_,a0,qAZ (by rw[A0,A0,D8];lia),_,rfl,qAB sd aa,?_⟩
    rw[qA1,C9,ey,D0,C2,C2,A43,ej]
    rfl
   refineλσ Hd ae=>opq λb4 ak=>?_;obtain⟨v,rfl,sd,a0⟩:=ae;refine ak ?_;rw[A0,qBS rfl] at a0;have eN:ndI Ae p i=ys.map λn=>(((lat p i n).getD 0:Nat):Int):=by unfold ndI;rw[ar,en]
   rw[<- eN] at a0;have ao:=sd _ _ a2;have ay:(i:Int)∉intL ((C3 i).filter (dpB p)):=λz=>by
    obtain⟨j,u,e⟩:=D9.mp z;have:=E2.mp (B9.mp u).1
    lia
   have ai:=DPut.k (k:=E8 (i:Int)) (v:=.ref t) ao (qAQ (by unfold kvsV intL;rw[A0,A0];have:=F2 (dpB p) (C3 i);rw[J2] at this;lia))
   rw[qZW ay] at ai;refine⟨_,rfl,_,rfl,b,_,rfl,ai,?_⟩;have nq:t≠b:=(qA6 a2 aa).symm;have b0:o≠b:=an.symm;have a7:(Ag Hd b (.dK (kvsV (intL ((C3 i).filter (dpB p))++[(i:Int)]) λy=>if y=(i:Int) then .ref t else .ref (ad y)))) o=some (.dK Af):=by rw[qA9 b0];exact sd _ _ a1
   have a8:Same H (Ag Hd b (.dK (kvsV (intL ((C3 i).filter (dpB p))++[(i:Int)]) λy=>if y=(i:Int) then .ref t else .ref (ad y)))):=qAB (d.trans sd) a6
   have aq:(Ag Hd b (.dK (kvsV (intL ((C3 i).filter (dpB p))++[(i:Int)]) λy=>if y=(i:Int) then .ref t else .ref (ad y)))) b=some (.dK (kvsV (intL ((C3 i).filter (dpB p))++[(i:Int)]) λy=>if y=(i:Int) then .ref t else .ref (ad y))):=qA1
   have ag:∀j∈(C3 i).filter (dpB p)++[i],(Ag Hd b (.dK (kvsV (intL ((C3 i).filter (dpB p))++[(i:Int)]) λy=>if y=(i:Int) then .ref t else .ref (ad y)))) (if(j:Int)=(i:Int) then t else ad (j:Int))=some (.lst ((ndI Ae p j).map V.int)):=by
    intro j u;rcases B4.mp u with h|h
    ·have hl:=E2.mp (B9.mp h).1;rw[if_neg (by lia)]
     have g:=sd _ _ (a4 j h);rw[qA9 (qC1 g ao (by intro z;cases z))]
     exact g
    ·rw[A6.mp h,if_pos rfl,qA9 nq];exact a0
   generalize Ag Hd b (.dK (kvsV (intL ((C3 i).filter (dpB p))++[(i:Int)]) λy=>if y=(i:Int) then .ref t else .ref (ad y)))=H5 at a7 a8 aq ag ⊢
   refine b1 _ _ ?_;refine⟨_,rfl,_,rfl,_,rfl,r,_,_,_,rfl,rfl,Ac0 (a8 _ _ hm),rfl,o,_,rfl,DPut.k (k:=E8 w) a7 (qAQ (by lia)),?_⟩
   have ef:(C3 (i+1)).filter (dpB p)=(C3 i).filter (dpB p)++[i]:=by rw[qTN hi,if_pos (qfY a3)]
   refine d1 _ _ ⟨λz=>if z=(i:Int) then t else ad z,_,_,rfl,qAB a8 aw,?_,?_,putK Af (E8 w) (.int (i:Int)),qA1,E3 (qB5 _ _ _) (by lia),λn=>?_⟩
   ·rw[qA9 an,aq,ef];congr 2;unfold intL;rw[C2];congr 1
    funext y
    dsimp only;by_cases c:y=(i:Int)
    ·rw[if_pos c,if_pos c]
    ·rw[if_neg c,if_neg c]
   ·rw[ef];intro j u;have g:=ag j u;rw[qA9 (qC1 g a7 (by intro z;cases z))]
    exact g
   ·rw[qDB,hv n];show _=(if p[i]?=some (dO n) then some i else lat p i n).map _
    rw[a3];by_cases c:n=w
    ·rw[c,if_pos rfl,if_pos rfl];rfl
    ·rw[if_neg λz=>c (P1 z),if_neg λz=>c (qH1 (B0 z)).symm]
  ·have hd:¬wd = "do":=λe=>ck (decide_eq_true (congrArg V.str e))
   have nb:dpB p i=false:=F8.mpr fun z=>hd (by
    have:=dB_iff.mp z;rw[em] at this;exact congrArg A01 (B0 this))
   have ef:(C3 (i+1)).filter (dpB p)=(C3 i).filter (dpB p):=by rw[qTN hi,nb];simp
   refine⟨ad,_,_,rfl,d,by rw[ef];exact a2,by rw[ef];exact a4,Af,a1,by lia,λn=>?_⟩
   rw[hv n];show _=(if p[i]?=some (dO n) then some i else lat p i n).map _
   rw[em,if_neg λz=>hd (congrArg A01 (B0 z))]
 ·refineλσ Hc ap=>opq λb5 ab=>?_;obtain⟨ad,v4,v5,rfl,sc,gd,PA,LA⟩:=ap;refine ab ?_;rw[A0,az] at gd PA LA;refine av _ _ ?_;refine⟨_,rfl,_,rfl,(by show 2<=B12;decide),λT hT=>?_⟩
  have sT:=qA4 hT (.tup [.ref b,.ref o]);obtain⟨Af,h1,h2,h3⟩:=LA;exact q T b o ad _ (sc.trans sT) qA1 a6 (sT _ _ gd) (λj u=>sT _ _ (PA j u)) ⟨Af,sT _ _ h1,h2,h3⟩
theorem sc_stays_left:FnScope ["needed","last","left","stay","other"] ["needed","last"] (qA7 qE1):=qB2
theorem ok_stays_left (F:Fun K "stays_left" "stays_left" qE1 f fd) (au:mg "reversed" = none) (b1:mg "list" = none):FnOk P w K mg base CX0 1 f fd ["needed","last"] qKD:=by
 refine F.okA sc_stays_left λbd A av s H vs Q E hr h=>?_;obtain⟨dn,ll,Ae,p,Ad,ad,rfl,ap,PA,nf,lp,ar,la,ax,a5,q⟩:=h;have hu:=qI4 hr;refine⟨_,(qA3 (qAF (i:=2) sc_stays_left.nd rfl (E9 rfl) qEA) (qA3 (qB9 D4 rfl (qBO (pv 1)) (qAJ (i:=3) sc_stays_left.nd rfl (E9 rfl)) (qA5 (qCG hu (pv 2) (pv 3) qEJ rfl))) (qA3 (qB9 D4 rfl (qf2 rfl au (qA0 (qB0 (qV2 rfl) rfl b1 qOR (qA0 (pv 0) qA2)) qA2)) (qAJ (i:=3) sc_stays_left.nd rfl (E9 rfl)) (qA5 (qC8 (qE8 (qPJ hu (pv 3) (pv 2))) (qA5 (qB9 D4 rfl (qBO (qBU hu (pv 0) (pv 3) (λ_ _=>rfl))) (qAJ (i:=4) sc_stays_left.nd rfl (E9 rfl)) (qA5 (qCG hu (pv 2) (pv 4) qEJ rfl)))) qAN))) (qA5 (qAC (pv 2)))))),?_⟩
 try dsimp only[Cx.nox,Cx.wish,cxOf]
 have ba:(dps p).length<=p.length:=by unfold dps;have:=F2 (dpB p) (C3 p.length);rw[J2] at this;exact this
 refine cut λN0 aw=>?_;refineλd hd=>?_;have s1:=qA4 hd (.dK []);have g1:(Ag H d (.dK [])) d=some (.dK []):=qA1;generalize Ag H d (.dK [])=H1 at s1 g1 ⊢;refine aw _ _ (cut λN1 az=>?_);have af:=s1 _ _ a5;refine⟨_,rfl,ll,rfl,⟨_,Ab2 af⟩,qC4 (a:=ll) (xs:=(qEZ p Ad).map V.int) (λi σ Hc=>∃(Af:List (Key×V)) (v3:Option V),σ=[some (.ref dn),some (.ref ll),some (.ref d),v3,none]/\Same H Hc/\Hc d=some (.dK Af)/\Af.length<=i/\∀y:Int,(valV Af (E8 y)).isSome=decide (y∈(qEZ p Ad).take i))
  ⟨[],none,rfl,s1,g1,E7 _,λy=>by simp[valV]⟩ (λi σ Hc _ hP=>by obtain⟨_,_,_,sc,_⟩:=hP;exact Ab2 (sc _ _ a5)) ?_ ?_⟩
 ·refineλi x σ Hc hx ae=>opq λbb ak=>?_;obtain⟨Af,v3,rfl,sc,gd,lk,hv⟩:=ae;obtain⟨y,ey,rfl⟩:=qAY hx;refine ak ?_;have hi:=(A3.mp ey).1;have bc:i<400:=by unfold qEZ at hi;rw[A0] at hi;lia
  refine⟨_,rfl,_,rfl,d,_,rfl,DPut.k (k:=E8 y) gd (qAQ (by lia)),?_⟩
  refine⟨_,_,rfl,qAB sc hd,qA1,E3 (qB5 _ _ _) (by lia),λz=>?_⟩
  rw[qDB,C9,ey,D0];by_cases c:z=y
  ·rw[c,if_pos rfl];simp
  ·rw[if_neg λe=>c (P1 e),hv z];simp[c]
 refineλσ Hc ah=>opq λb4 ab=>?_;obtain⟨Af,v3,rfl,sc,gd,lk,hv⟩:=ah;refine ab ?_;rw[A0] at lk hv;rw[G3] at hv;have b6:(qEZ p Ad).length<=400:=by unfold qEZ;rw[A0];exact la
 refine az _ _ (cut λN2 ay=>?_);have as:=sc _ _ ap;refine⟨_,rfl,dn,_,intL (dps p),rfl,as,(by unfold kvsV;rw[T6];rfl),λb v=>?_⟩
 have s2:=qA4 v (.lst ((intL (dps p)).map V.int));have gk:(Ag Hc b (.lst ((intL (dps p)).map V.int))) b=some (.lst ((intL (dps p)).map V.int)):=qA1;have ai:=s2 _ _ gd;have a4:=sc.trans s2;have b2:b≠d:=(qA6 gd v).symm;generalize Ag Hc b (.lst ((intL (dps p)).map V.int))=H2 at s2 gk ai a4 ⊢;have aj:((intL (dps p)).map V.int).length=(dps p).length:=by unfold intL;rw[A0,A0]
 refine⟨b,_,rfl,Ab2 gk,?_⟩;refine qdH (a:=b) (xs:=(intL (dps p)).map V.int) (λi σ Hx=>∃(Af:List (Key×V)) (v3 v4:Option V),σ=[some (.ref dn),some (.ref ll),some (.ref d),v3,v4]/\Same H Hx/\Hx b=some (.lst ((intL (dps p)).map V.int))/\Hx d=some (.dK Af)/\Af.length<=400+400*i/\∀y:Nat,(valV Af (E8 (y:Int))).isSome=true↔((∃n∈Ad,lat p p.length n=some y)\/∃k∈(dps p).drop ((dps p).length-i),wn Ae Ad p (k+1) (wkO p k)=true/\∃n∈nd Ae (wkO p k),lat p k n=some y))
  ⟨Af,v3,none,rfl,a4,gk,ai,by lia,λy=>?_⟩ (λi σ Hx _ hP=>by obtain⟨_,_,_,_,_,g,_⟩:=hP;exact Ab2 g) ?_ ?_
 ·rw[hv,decide_eq_true_eq,A57,X3]
  constructor
  ·intro h;obtain⟨n,r,e⟩:=D9.mp h;obtain⟨j,ej⟩:=ax n r;rw[ej] at e;exact .inl ⟨n,r,by rw[ej];congr 1;simp at e;lia⟩
  ·rintro(⟨n,r,e⟩|⟨k,hk,_⟩)
   ·exact D9.mpr ⟨n,r,by rw[e];rfl⟩
   ·cases hk
 ·refineλi x σ Hx hi hx a9=>opq λb5 ac=>?_;obtain⟨Af,v3,v4,rfl,sx,a1,m,b0,l⟩:=a9;refine ac ?_;rw[aj] at hi hx;obtain⟨yk,ek,rfl⟩:=qAY hx;unfold intL at ek;rw[B6] at ek;obtain⟨k,aa,e1⟩:=Q5.mp ek;subst e1;have t:=A9 aa;have an:=mem_dps.mp t;obtain⟨ud,um⟩:=qbR dps_up aa;rw[show(dps p).length-1-i+1=(dps p).length-i by lia] at ud um
  have b3:(dps p).drop ((dps p).length-(i+1))=k::(dps p).drop ((dps p).length-i):=by rw[show(dps p).length-(i+1)=(dps p).length-1-i by lia];exact ud
  have a6:(valV Af (E8 (k:Int))).isSome=true↔wn Ae Ad p (k+1) (wkO p k)=true:=by
   rw[l k,<- qTC an]
   constructor
   ·rintro(h|⟨j,hj,h1,h2⟩)
    ·exact .inl h
    ·have u:=W0 hj;exact .inr ⟨j,_,(um j u).mp hj,mem_dps.mp u,h1,h2⟩
   ·rintro(h|⟨j,w,h0,h1,h2,h3⟩)
    ·exact .inl h
    ·have:=qMF h1;subst this;have u:=mem_dps.mpr h1;exact .inr ⟨j,(um j u).mpr h0,h2,h3⟩
  refine⟨_,rfl,_,rfl,d,_,rfl,DGet.k (k:=E8 (k:Int)) m,_,rfl,?_⟩;rw[b3];by_cases c:wn Ae Ad p (k+1) (wkO p k)=true
  ·rw[a6.mpr c];refine iteT ?_;have al:=sx _ _ ap;have hg:=DGet.k (k:=E8 (k:Int)) al;have mi:((k:Nat):Int)∈intL (dps p):=D9.mpr ⟨k,t,rfl⟩;rw[qO3 (g:=λz=>V.ref (ad z)) mi] at hg;have gA:=sx _ _ (PA k t);have l4:=ar k;refine⟨_,rfl,_,rfl,dn,_,rfl,hg,ad (k:Int),rfl,⟨_,Ab2 gA⟩,qC4 (a:=ad (k:Int)) (xs:=(ndI Ae p k).map V.int) (λj σ Hy=>∃(kv2:List (Key×V)) (v4:Option V),σ=[some (.ref dn),some (.ref ll),some (.ref d),some (.int (k:Int)),v4]/\Same H Hy/\Hy b=some (.lst ((intL (dps p)).map V.int))/\Hy d=some (.dK kv2)/\kv2.length<=Af.length+j/\∀y:Int,(valV kv2 (E8 y)).isSome=((valV Af (E8 y)).isSome||decide (y∈(ndI Ae p k).take j)))
    ⟨Af,v4,rfl,sx,a1,m,by lia,λy=>by simp⟩ (λj σ Hy _ hP=>by obtain⟨_,_,_,sy,_⟩:=hP;exact Ab2 (sy _ _ (PA k t))) ?_ ?_⟩
   ·refineλj x σ Hy hx a8=>opq λb7 ag=>?_;obtain⟨kv2,v4,rfl,sy,a0,a2,aq,o⟩:=a8;obtain⟨y,ey,rfl⟩:=qAY hx;refine ag ?_;have hj:=(A3.mp ey).1;refine⟨_,rfl,_,rfl,d,_,rfl,DPut.k (k:=E8 y) a2 (qAQ (by lia)),?_⟩
    refine⟨_,_,rfl,qAB sy hd,by rw[qA9 b2];exact a0,qA1,E3 (qB5 _ _ _) (by lia),λz=>?_⟩
    rw[qDB,C9,ey,D0];by_cases c:z=y
    ·rw[c,if_pos rfl];simp
    ·rw[if_neg λe=>c (P1 e),o z];simp[c]
   ·refineλσ Hy am=>opq λb8 a3=>?_;obtain⟨kv2,v4,rfl,sy,a0,a2,aq,o⟩:=am;refine a3 ?_;rw[A0] at aq o;rw[G3] at o;refine⟨kv2,_,_,rfl,sy,a0,a2,by lia,λy=>?_⟩
    rw[o,G7,l y,decide_eq_true_eq]
    constructor
    ·rintro((h|⟨j,hj,h1⟩)|h)
     ·exact .inl h
     ·exact .inr ⟨j,A8 _ hj,h1⟩
     ·obtain⟨n,r,e⟩:=D9.mp h;obtain⟨j,ej⟩:=nf k _ an n r;rw[ej,Q9] at e;exact .inr ⟨k,E4,c,n,r,by rw[ej];congr 1;lia⟩
    ·rintro(h|⟨j,hj,h1,n,r,h3⟩)
     ·exact .inl (.inl h)
     ·rcases B8.mp hj with e|hj
      ·subst e;exact .inr (D9.mpr ⟨n,r,by rw[h3];rfl⟩)
      ·exact .inl (.inr ⟨j,hj,h1,n,r,h3⟩)
  ·rw[F8.mpr λz=>c (a6.mp z)];refine iteF ?_;refine⟨Af,_,_,rfl,sx,a1,m,by lia,λy=>?_⟩
   rw[l y]
   constructor
   ·rintro(h|⟨j,hj,h1⟩)
    ·exact .inl h
    ·exact .inr ⟨j,A8 _ hj,h1⟩
   ·rintro(h|⟨j,hj,h1,h2⟩)
    ·exact .inl h
    ·rcases B8.mp hj with e|hj
     ·subst e;exact absurd h1 c
     ·exact .inr ⟨j,hj,h1,h2⟩
 ·refineλσ Hx ao=>opq λb9 a7=>?_;obtain⟨Af,v3,v4,rfl,sx,a1,m,b0,l⟩:=ao;refine a7 ?_;rw[aj] at l;refine ay _ _ ⟨_,rfl,q d Af Hx sx hd m λy=>?_⟩;rw[l y,A58,W8]
  constructor
  ·rintro(h|⟨k,hk,h1,h2⟩)
   ·exact .inl h
   ·exact .inr ⟨k,_,E7 _,mem_dps.mp hk,h1,h2⟩
  ·rintro(h|⟨k,w,_,h1,h2,h3⟩)
   ·exact .inl h
   ·have:=qMF h1;subst this;exact .inr ⟨k,mem_dps.mpr h1,h2,h3⟩
theorem sc_tidied:FnScope ["net","plan","asked","told","needed","last","left","dos","last_user","stay","other","tidy"] ["net","plan","asked"] (qA7 qJR):=qB2
theorem ok_tidied (F:Fun K "tidied" "tidied" qJR f fd) (dz:Clb P w K mg base 1 qIX qRV "stays_of" ["net","plan"] qP3) (cy:Clb P w K mg base 1 qFU qO9 "stays_left" ["needed","last"] qKD):FnOk P w K mg base CX0 2 f fd ["net","plan","asked"] qSG:=by
 refine F.okA sc_tidied λev A d0 s H vs Q E hr h=>?_;obtain⟨a,l,t,Ae,p,Ad,rfl,PI,hT,la,b6,q⟩:=h;have hu:=qI4 hr;refine⟨_,(qA3 (qAF (i:=3) sc_tidied.nd rfl (r8 rfl) (qAI dz hr rfl (qA0 (pv 0) (qA0 (pv 1) qA2)))) (qA3 (qAF (i:=4) sc_tidied.nd rfl (E9 rfl) (qBT qBK (pv 3) qA8 (λ_ _=>rfl))) (qA3 (qUC (i:=5) sc_tidied.nd rfl rfl rfl (lcs (own:=["work"]) (fv:=[3]) (by kernel_rfl)) (qE9 (pv 2)) (λz1=>qDS 0) (λz1=>qC7) (λz1=>(qBU hu (qBT (qIS (K:=K) rfl) (pv 1) qA8 (λ_ _=>rfl)) (pv 0) (λ_ _=>rfl))) (by kernel_rfl)) (qA3 (qAF (i:=6) sc_tidied.nd rfl (r8 rfl) (qAI cy hr rfl (qA0 (pv 4) (qA0 (pv 5) qA2)))) (qA3 (qUC (i:=7) sc_tidied.nd rfl rfl rfl (lcs (own:=["stay"]) (fv:=[6]) (by kernel_rfl)) (qZE (qf6 (pv 4))) (λz2=>qDS 0) (λz2=>(qH7 (qE8 (qPJ hu (pv 0) (pv 1))))) (λz2=>(pv 0)) (by kernel_rfl)) (qA3 (qAF (i:=8) sc_tidied.nd rfl (E9 rfl) qEA) (qA3 (qB9 D4 rfl (qBO (pv 7)) (qAJ (i:=9) sc_tidied.nd rfl (E9 rfl)) (qA5 (qB9 D4 rfl (qBO (qBU hu (pv 4) (pv 9) (λ_ _=>rfl))) (qAJ (i:=10) sc_tidied.nd rfl (E9 rfl)) (qA5 (qCG hu (pv 8) (pv 10) (pv 9) rfl))))) (qA3 (qB9 D4 rfl (qBO (pv 5)) (qAJ (i:=9) sc_tidied.nd rfl (E9 rfl)) (qA5 (qCG hu (pv 8) (pv 9) qJ5 rfl))) (qA3 (qAF (i:=11) sc_tidied.nd rfl (E9 rfl) (qFN qA2)) (qA3 (qB9 D4 rfl (qBO (pv 7)) (qAJ (i:=9) sc_tidied.nd rfl (E9 rfl)) (qA3 (qEE (qNV G0 J8 J9 qD2 (pv 11) (qA0 (qBT qL4 (pv 1) (pv 9) (λ_ _=>rfl)) qA2))) (qA5 (qB9 D4 rfl (qBO (qBU hu (pv 4) (pv 9) (λ_ _=>rfl))) (qAJ (i:=10) sc_tidied.nd rfl (E9 rfl)) (qA5 (qC8 (qAS qIN (qBU hu (pv 8) (pv 10) (λ_ _=>rfl)) (pv 9) (qB4 _)) (qA5 (qEE (qNV G0 J8 J9 qD2 (pv 11) (qA0 (qAT (qA0 qC0 (qA0 (qBT qBK (qBT qL4 (pv 1) (pv 10) (λ_ _=>rfl)) qA8 (λ_ _=>rfl)) qA2))) qA2)))) qAN)))))) (qA5 (qAC (pv 11))))))))))))),?_⟩
 try dsimp only[Cx.nox,Cx.wish,cxOf]
 obtain⟨hN,wf,a3,⟨rs,hL,ML⟩,lp,mo,nf⟩:=id PI;have em:(dps p).length<=p.length:=by unfold dps;have:=F2 (dpB p) (C3 p.length);rw[J2] at this;exact this
 refine cut λN0 d3=>?_;refine⟨_,rfl,_,rfl,a,l,Ae,p,rfl,PI,λT dn dl ad H1 s1 gT dm bn PA LA=>?_⟩;refine d3 _ _ (cut λN1 d7=>?_);refine⟨_,rfl,T,_,_,_,rfl,rfl,Ac0 gT,rfl,?_⟩;refine d7 _ _ (cut λN2 d5=>?_);obtain⟨eh,cw,eu,dj⟩:=LA;refine⟨_,rfl,t,rfl,⟨_,Ac0 (s1 _ _ hT)⟩,λp5 c0=>?_⟩;refine qJ7 (p:=p5) (a:=t) (xs:=Ad.map V.int) (λi σ Hc=>∃v:Option V,σ=[v,some (.ref T)]/\Same H1 Hc/\Hc p5=some (.lst (((Ad.take i).map λn=>(((lat p p.length n).getD 0:Nat):Int)).map V.int))) ?_ ?_ ?_ ?_
 ·exact⟨none,rfl,qA4 c0 _,qA1⟩
 ·rintro i σ Hc hi ⟨v,rfl,sc,_⟩;exact Ac0 (sc _ _ (s1 _ _ hT))
 ·refineλi x σ Hc hx cf=>opq λec c5=>?_;obtain⟨v,rfl,sc,ar⟩:=cf;obtain⟨n,ey,rfl⟩:=qAY hx;refine c5 ?_;have hi:=(A3.mp ey).1;obtain⟨j,ej⟩:=b6 n (A9 ey);have hg:=DGet.k (k:=E8 n) (sc _ _ cw);rw[dj n,ej] at hg;refine⟨_,rfl,T,_,_,_,rfl,rfl,Ac0 (sc _ _ gT),rfl,_,rfl,dl,_,rfl,hg,_,ar,qAZ (by rw[A0,A0,D8];lia),_,rfl,qAB sc c0,?_⟩
  rw[qA1,C9,ey,D0,C2,C2,A43,ej]
  rfl
 refineλσ Hc c1=>opq λed c6=>?_;obtain⟨v,rfl,sc,ar⟩:=c1;refine c6 ?_;rw[A0,qBS rfl] at ar;have bu:Hc p5=some (.lst ((qEZ p Ad).map V.int)):=ar;have s2:=s1.trans sc;refine d5 _ _ (cut λN3 di=>?_);refine⟨_,rfl,_,rfl,dn,p5,Ae,p,Ad,ad,rfl,sc _ _ bn,λj hj=>sc _ _ (PA j hj),nf,lp,λj=>?_,la,b6,bu,λdd Af H3 s3 db ds c8=>?_⟩
 ·unfold ndI;rw[A0];exact qPP wf a3 _
 have ba:=sc.trans s3;have cx:=s1.trans ba;have aj:=ba _ _ bn;have az:=s3 _ _ bu;have bt:∀j∈dps p,H3 (ad (j:Int))=some (.lst ((ndI Ae p j).map V.int)):=λj hj=>ba _ _ (PA j hj);refine di _ _ (cut λN4 cz=>?_);refine⟨_,rfl,dn,_,rfl,aj,λo=>⟨dn,o,_,rfl,qA1,λp7 ap=>?_⟩⟩;have dk:p5≠dn:=qC1 az aj (by intro z;cases z)
 have cv:dd≠dn:=(qA6 (sc _ _ bn) db).symm;have bl:Same H (Ag H3 dn (.frz o (.dK (kvsV (intL (dps p)) λz=>.ref (ad z))))):=qAB cx dm;have a5:(Ag H3 dn (.frz o (.dK (kvsV (intL (dps p)) λz=>.ref (ad z))))) dn=some (.frz o (.dK (kvsV (intL (dps p)) λz=>.ref (ad z)))):=qA1;have ae:(Ag H3 dn (.frz o (.dK (kvsV (intL (dps p)) λz=>.ref (ad z))))) p5=some (.lst ((qEZ p Ad).map V.int)):=by rw[qA9 dk];exact az
 have ak:(Ag H3 dn (.frz o (.dK (kvsV (intL (dps p)) λz=>.ref (ad z))))) dd=some (.dK Af):=by rw[qA9 cv];exact ds
 have b3:∀j∈dps p,(Ag H3 dn (.frz o (.dK (kvsV (intL (dps p)) λz=>.ref (ad z))))) (ad (j:Int))=some (.lst ((ndI Ae p j).map V.int)):=λj hj=>by rw[qA9 (qC1 (bt j hj) aj (by intro z;cases z))];exact bt j hj
 generalize Ag H3 dn (.frz o (.dK (kvsV (intL (dps p)) λz=>.ref (ad z))))=H4 at ap bl a5 ae ak b3 ⊢;have e0:(kvsV (intL (dps p)) λz=>V.ref (ad z)).length=(dps p).length:=by unfold kvsV intL;rw[A0,A0]
 refine qZU (p:=p7) (a:=dn) (o:=o) (Af:=kvsV (intL (dps p)) λz=>.ref (ad z)) (λi σ Hx=>∃v:Option V,σ=[v,some (.ref dd)]/\Same H4 Hx/\Hx p7=some (.lst ((intL (((dps p).take i).filter (kB Ae Ad p))).map V.int))) ?_ ?_ ?_ ?_
 ·exact⟨none,rfl,qA4 ap _,qA1⟩
 ·refineλi σ Hx hi bx=>opq λef cb=>?_;obtain⟨v,rfl,sx,_⟩:=bx;refine cb ?_;exact sx _ _ a5
 ·refineλi k v σ Hx hk cn=>opq λeg br=>?_;obtain⟨v0,rfl,sx,af⟩:=cn;obtain⟨j,ej,rfl,_⟩:=qfI hk;refine br ?_;have dv:=A9 ej;have gj:=mem_dps.mp dv;have hi:=(A3.mp ej).1;refine⟨_,rfl,_,rfl,dd,_,rfl,DGet.k (k:=E8 (j:Int)) (sx _ _ ak),_,rfl,?_⟩;rw[qC9 ej];have kk:(valV Af (E8 (j:Int))).isSome=kB Ae Ad p j:=by
   rw[G6,c8 j,qbQ gj];unfold kB;rw[D6,dB_iff];exact⟨λh=>⟨gj,h⟩,λh=>h.2⟩
  rw[kk];by_cases c:kB Ae Ad p j=true
  ·rw[c,if_pos rfl];refine iteT ?_;have lf:=F2 (kB Ae Ad p) ((dps p).take i);rw[D8] at lf;refine⟨_,rfl,_,af,qAQ (by unfold intL;rw[A0,A0];lia),_,rfl,qAB sx ap,?_⟩
   rw[qA1];unfold intL;rw[C2,C2]
   rfl
  ·rw[F8.mpr c];refine iteF ?_;refine⟨_,rfl,sx,?_⟩;simpa using af
 refineλσ Hx cp=>opq λel bw=>?_;obtain⟨v0,rfl,sx,af⟩:=cp;refine bw ?_;rw[e0,G3] at af;have cr:Hx p7=some (.lst ((intL (kps Ae Ad p)).map V.int)):=af;have bz:=bl.trans sx;have aw:=sx _ _ a5;have ay:=sx _ _ ae;have d4:∀j∈kps Ae Ad p,Hx (ad (j:Int))=some (.lst ((ndI Ae p j).map V.int)):=λj hj=>sx _ _ (b3 j (B9.mp hj).1);clear c8 ak b3 ae a5;have f7:H p7=none:=bl.free ap;have es:(kps Ae Ad p).length<=1000:=E3 (F2 _ _) (by lia)
 have c9:∀xs:List Nat,((intL xs).map V.int).length=xs.length:=λxs=>by unfold intL;rw[A0,A0]
 have ax:∀{Hy:Hp} {k:Nat},k∈kps Ae Ad p->Hy dn=some (.frz o (.dK (kvsV (intL (dps p)) λz=>.ref (ad z))))->DGet Hy dn (.int (k:Int)) (some (.ref (ad (k:Int)))):=λ{Hy k} hk g=>.inl ⟨_,E8 (k:Int),.inr ⟨o,g⟩,rfl,by
  have mi:((k:Nat):Int)∈intL (dps p):=D9.mpr ⟨k,(B9.mp hk).1,rfl⟩;rw[qO3 (g:=λz=>V.ref (ad z)) mi]⟩
 refine cz _ _ (cut λN5 d9=>?_);refineλd am=>?_;have s6:=qA4 am (.dK []);have ai:(Ag Hx d (.dK [])) d=some (.dK []):=qA1;have cm:H d=none:=bz.free am;have cj:=bz.trans s6;have ah:=s6 _ _ cr;have al:=s6 _ _ ay;have a6:=s6 _ _ aw;have ac:∀j∈kps Ae Ad p,(Ag Hx d (.dK [])) (ad (j:Int))=some (.lst ((ndI Ae p j).map V.int)):=λj hj=>s6 _ _ (d4 j hj);have ab:dn≠d:=qA6 aw am;have aa:p7≠d:=qA6 cr am;have as:p5≠d:=qA6 ay am;generalize Ag Hx d (.dK [])=H6 at ai cj ah al a6 ac ⊢;refine d9 _ _ (cut λN6 cu=>?_);refine⟨_,rfl,p7,rfl,⟨_,Ab2 ah⟩,qC4 (a:=p7) (xs:=(intL (kps Ae Ad p)).map V.int) (λi σ Hy=>∃(kv:List (Key×V)) (v9 v10:Option V),σ=[some (.ref a),some (.ref l),some (.ref t),some (.ref T),some (.ref dn),some (.ref p5),some (.ref dd),some (.ref p7),some (.ref d),v9,v10,none]/\Keep d d H6 Hy/\Hy d=some (.dK kv)/\kv.length<=400*i/\∀y:Nat,valV kv (E8 (y:Int))=(luF Ae p ((kps Ae Ad p).take i) y).map λ(k:Nat)=>V.int (k:Int))
  ⟨[],none,none,rfl,.refl,ai,E7 _,λy=>rfl⟩ (λi σ Hy _ hP=>by obtain⟨_,_,_,_,ky,_⟩:=hP;exact Ab2 (ky _ _ ah aa aa)) ?_ ?_⟩
 ·refineλi x σ Hy hx cc=>opq λep ca=>?_;obtain⟨kv,v9,v10,rfl,ky,gu,lk,hv⟩:=cc;obtain⟨yk,ek,rfl⟩:=qAY hx;refine ca ?_;unfold intL at ek;rw[B6] at ek;obtain⟨k,a7,e1⟩:=Q5.mp ek;subst e1;have hi:=(A3.mp a7).1;have a0:=A9 a7;have an:=(mem_kps.mp a0).1;have gA:=ac k a0;have a2:ad (k:Int)≠d:=qC1 gA ai (by intro z;cases z)
  have l4:(ndI Ae p k).length<=400:=by unfold ndI;rw[A0];exact qPP wf a3 _
  refine⟨_,rfl,_,rfl,dn,_,rfl,ax a0 (ky _ _ a6 ab ab),ad (k:Int),rfl,⟨_,Ab2 (ky _ _ gA a2 a2)⟩,qC4 (a:=ad (k:Int)) (xs:=(ndI Ae p k).map V.int) (λj σ Hz=>∃(kv2:List (Key×V)) (v10:Option V),σ=[some (.ref a),some (.ref l),some (.ref t),some (.ref T),some (.ref dn),some (.ref p5),some (.ref dd),some (.ref p7),some (.ref d),some (.int (k:Int)),v10,none]/\Keep d d H6 Hz/\Hz d=some (.dK kv2)/\kv2.length<=400*i+j/\∀y:Nat,valV kv2 (E8 (y:Int))=if((y:Nat):Int)∈(ndI Ae p k).take j then some (.int (k:Int)) else(luF Ae p ((kps Ae Ad p).take i) y).map λ(k:Nat)=>V.int (k:Int))
   ⟨kv,v10,rfl,ky,gu,by lia,λy=>by rw[if_neg (by simp)];exact hv y⟩ (λj σ Hz _ hP=>by obtain⟨_,_,_,kz,_⟩:=hP;exact Ab2 (kz _ _ gA a2 a2)) ?_ ?_⟩
  ·refineλj x σ Hz hx cs=>opq λeq c7=>?_;obtain⟨kv2,v10,rfl,kz,gz,lz,hz⟩:=cs;obtain⟨y,ey,rfl⟩:=qAY hx;refine c7 ?_;have hj:=(A3.mp ey).1;refine⟨_,rfl,_,rfl,_,rfl,d,_,rfl,DPut.k (k:=E8 y) gz (qAQ (by lia)),?_⟩
   refine⟨_,_,rfl,qO4 kz,qA1,E3 (qB5 _ _ _) (by lia),λz=>?_⟩
   rw[qDB,C9,ey,D0];by_cases c:((z:Nat):Int)=y
   ·rw[if_pos (by rw[c]),if_pos (by rw[c];simp)]
   ·rw[if_neg λe=>c (P1 e),hz z];by_cases c2:((z:Nat):Int)∈(ndI Ae p k).take j
    ·rw[if_pos c2,if_pos (R9 _ c2)]
    ·rw[if_neg c2,if_neg (by simp[c2,c])]
  ·refineλσ Hz c3=>opq λet cq=>?_;obtain⟨kv2,v10,rfl,kz,gz,lz,hz⟩:=c3;refine cq ?_;rw[A0] at lz hz;rw[G3] at hz;refine⟨kv2,_,_,rfl,kz,gz,by lia,λy=>?_⟩
   rw[hz y,C9,a7,D0,qZP];by_cases c:usB Ae p y k=true
   ·rw[if_pos c,if_pos ((qWU nf an).mpr c)]
    rfl
   ·rw[if_neg c,if_neg λz=>c ((qWU nf an).mp z)]
 refineλσ Hy bf=>opq λe4 b9=>?_;obtain⟨kv,v9,v10,rfl,ky,gu,lk,hv⟩:=bf;refine b9 ?_;rw[c9] at lk hv;rw[G3] at hv;refine cu _ _ (cut λN7 dc=>?_);have ee:(qEZ p Ad).length<=400:=by unfold qEZ;rw[A0];exact la
 refine⟨_,rfl,p5,rfl,⟨_,Ab2 (ky _ _ al as as)⟩,qC4 (a:=p5) (xs:=(qEZ p Ad).map V.int) (λi σ Hz=>∃(kv2:List (Key×V)) (v9:Option V),σ=[some (.ref a),some (.ref l),some (.ref t),some (.ref T),some (.ref dn),some (.ref p5),some (.ref dd),some (.ref p7),some (.ref d),v9,v10,none]/\Keep d d H6 Hz/\Hz d=some (.dK kv2)/\kv2.length<=kv.length+i/\∀y:Nat,valV kv2 (E8 (y:Int))=if((y:Nat):Int)∈(qEZ p Ad).take i then some .non else(luF Ae p (kps Ae Ad p) y).map λ(k:Nat)=>V.int (k:Int))
  ⟨kv,v9,rfl,ky,gu,by lia,λy=>by rw[if_neg (by simp)];exact hv y⟩ (λi σ Hz _ hP=>by obtain⟨_,_,_,kz,_⟩:=hP;exact Ab2 (kz _ _ al as as)) ?_ ?_⟩
 ·refineλi x σ Hz hx bm=>opq λe6 b0=>?_;obtain⟨kv2,v9,rfl,kz,gz,lz,hz⟩:=bm;obtain⟨y,ey,rfl⟩:=qAY hx;refine b0 ?_;have hi:=(A3.mp ey).1;refine⟨_,rfl,_,rfl,d,_,rfl,DPut.k (k:=E8 y) gz (qAQ (by lia)),?_⟩
  refine⟨_,_,rfl,qO4 kz,qA1,E3 (qB5 _ _ _) (by lia),λz=>?_⟩
  rw[qDB,C9,ey,D0];by_cases c:((z:Nat):Int)=y
  ·rw[if_pos (by rw[c]),if_pos (by rw[c];simp)]
  ·rw[if_neg λe=>c (P1 e),hz z];by_cases c2:((z:Nat):Int)∈(qEZ p Ad).take i
   ·rw[if_pos c2,if_pos (R9 _ c2)]
   ·rw[if_neg c2,if_neg (by simp[c2,c])]
 refineλσ Hz bk=>opq λe3 b1=>?_;obtain⟨kv2,v9,rfl,kz,gz,lz,hz⟩:=bk;refine b1 ?_;rw[A0] at lz hz;rw[G3] at hz;have co:Same H Hz:=λb u e=>kz b u (cj b u e) (qA6 e cm) (qA6 e cm);refine dc _ _ (cut λN8 dh=>?_);refine⟨(by show 0<=B12;decide),λlt a4=>?_⟩
 have s8:=qA4 a4 (.lst []);have g8:(Ag Hz lt (.lst [])) lt=some (.lst (([]:List Addr).map V.ref)):=qA1;have bs:=s8 _ _ gz;have bc:=s8 _ _ (kz _ _ ah aa aa);have av:=s8 _ _ (kz _ _ a6 ab ab);have bq:∀j∈kps Ae Ad p,(Ag Hz lt (.lst [])) (ad (j:Int))=some (.lst ((ndI Ae p j).map V.int)):=λj hj=>by
  have a2:ad (j:Int)≠d:=qC1 (ac j hj) ai (by intro z;cases z)
  exact s8 _ _ (kz _ _ (ac j hj) a2 a2)
 have b7:=co.trans s8;have ag:H lt=none:=co.free a4;have ew:lt≠d:=(qA6 gz a4).symm;have ce:p7≠lt:=qA6 (kz _ _ ah aa aa) a4;have ci:dn≠lt:=qA6 (kz _ _ a6 ab ab) a4;have ck:d≠lt:=qA6 gz a4;have au:∀j∈kps Ae Ad p,ad (j:Int)≠lt:=λj hj=>by
  have a2:ad (j:Int)≠d:=qC1 (ac j hj) ai (by intro z;cases z)
  exact qA6 (kz _ _ (ac j hj) a2 a2) a4
 generalize Ag Hz lt (.lst [])=H8 at g8 bs bc av bq b7 ⊢;refine dh _ _ (cut λN9 da=>?_);have dt:∀i,(((kps Ae Ad p).take i).map (pc Ae Ad p)).flatten.length<=401000:=by
  intro i;have d6:∀k,(pc Ae Ad p k).length<=401:=λk=>by
   unfold pc;rw[C5,A0];have:=F2 (λn=>!wn Ae Ad p (k+1) n) (nd Ae (wkO p k));have:=qPP wf a3 (wkO p k)
   lia
  have h:=qTI (Ae:=[]) (B:=0) (λ_ z=>nomatch z);have df:∀L:List Nat,((L.map (pc Ae Ad p)).flatten).length<=401*L.length:=by
   intro L
   induction L with
   |nil=>simp
   |cons x L ih=>
    rw[C7,O4,B7,C5];have:=d6 x
    lia
  have:=df ((kps Ae Ad p).take i);rw[D8] at this;have:401*min i (kps Ae Ad p).length<=401*1000:=A26 _ (by lia)
  lia
 refine⟨_,rfl,p7,rfl,⟨_,Ab2 bc⟩,qC4 (a:=p7) (xs:=(intL (kps Ae Ad p)).map V.int) (λi σ Hw=>∃(ts:List Addr) (v9 v10:Option V),σ=[some (.ref a),some (.ref l),some (.ref t),some (.ref T),some (.ref dn),some (.ref p5),some (.ref dd),some (.ref p7),some (.ref d),v9,v10,some (.ref lt)]/\Keep lt lt H8 Hw/\Hw lt=some (.lst (ts.map V.ref))/\MovL Hw ts (((kps Ae Ad p).take i).map (pc Ae Ad p)).flatten)
  ⟨[],v9,v10,rfl,.refl,g8,.nil⟩ (λi σ Hw _ hP=>by obtain⟨_,_,_,_,kw,_⟩:=hP;exact Ab2 (kw _ _ bc ce ce)) ?_ ?_⟩
 ·refineλi x σ Hw hx bd=>opq λe7 bb=>?_;obtain⟨ts,v9,v10,rfl,kw,gt,MT⟩:=bd;obtain⟨yk,ek,rfl⟩:=qAY hx;refine bb ?_;unfold intL at ek;rw[B6] at ek;obtain⟨k,a7,e1⟩:=Q5.mp ek;subst e1;have a0:=A9 a7;have an:=(mem_kps.mp a0).1;have ct:=C6 MT;have bi:=dt i;have a1:∀{Hq:Hp},Keep lt lt H8 Hq->Same H Hq:=λkq b u e=>kq b u (b7 b u e) (qA6 e ag) (qA6 e ag);obtain⟨r,er,cg⟩:=qGF ML an;refine nmD λD1 d1 _=>?_;refine cut λM1 dw=>?_;have dg:=a1 kw _ _ hL;refine⟨_,rfl,.inl ⟨rfl,_,Ab2 gt⟩,_,rfl,_,rfl,l,_,_,_,rfl,rfl,Ab2 dg,qGZ (by lia) (by rw[D7,B6,er];rfl),lt,_,_,rfl,rfl,gt,qAQ (by rw[A0];lia),?_⟩
  rw[qBF];have ao:=qO4 (o:=.lst ((ts++[r]).map V.ref)) kw;have cd:(Ag Hw lt (.lst ((ts++[r]).map V.ref))) lt=some (.lst ((ts++[r]).map V.ref)):=qA1;have ch:MovL (Ag Hw lt (.lst ((ts++[r]).map V.ref))) (ts++[r]) ((((kps Ae Ad p).take i).map (pc Ae Ad p)).flatten++[dO (wkO p k)]):=by
   refine qGJ (qMR MT λb m e=>?_) ?_
   ·rw[qA9 (qC1 e gt (by intro z;cases z))];exact e
   ·rw[qA9 (qC1 (a1 kw _ _ cg) gt (by intro z;cases z))]
    exact a1 kw _ _ cg
  generalize Ag Hw lt (.lst ((ts++[r]).map V.ref))=H9 at ao cd ch ⊢;refine dw _ _ ?_;have gA:=bq k a0;have l4:(ndI Ae p k).length<=400:=by unfold ndI;rw[A0];exact qPP wf a3 _
  refine⟨_,rfl,_,rfl,dn,_,rfl,ax a0 (ao _ _ av ci ci),ad (k:Int),rfl,⟨_,Ab2 (ao _ _ gA (au k a0) (au k a0))⟩,qC4 (a:=ad (k:Int)) (xs:=(ndI Ae p k).map V.int) (λj σ Hv=>∃(ts:List Addr) (v10:Option V),σ=[some (.ref a),some (.ref l),some (.ref t),some (.ref T),some (.ref dn),some (.ref p5),some (.ref dd),some (.ref p7),some (.ref d),some (.int (k:Int)),v10,some (.ref lt)]/\Keep lt lt H8 Hv/\Hv lt=some (.lst (ts.map V.ref))/\MovL Hv ts ((((kps Ae Ad p).take i).map (pc Ae Ad p)).flatten++([dO (wkO p k)]++((((nd Ae (wkO p k)).take j).filter λn=>!wn Ae Ad p (k+1) n).map cL))))
   ⟨ts++[r],v10,rfl,ao,cd,by simpa using ch⟩ (λj σ Hv _ hP=>by obtain⟨_,_,_,kv,_⟩:=hP;exact Ab2 (kv _ _ gA (au k a0) (au k a0))) ?_ ?_⟩
  ·refineλj x σ Hv hx b5=>opq λe8 b8=>?_;obtain⟨ts,v10,rfl,kv,a9,a8⟩:=b5;obtain⟨y,ey,rfl⟩:=qAY hx;refine b8 ?_;have hj:=(A3.mp ey).1;unfold ndI at ey;rw[B6] at ey;obtain⟨n,en,e2⟩:=Q5.mp ey;have hn:=A9 en;obtain⟨i',ei⟩:=nf k _ an n hn;rw[ei,Q9] at e2;subst e2;obtain⟨tc,k',bv⟩:=qYX (Ad:=Ad) wf mo a0 hn ei;have dx:=kv _ _ bs ck ck;have hg:=DGet.k (k:=E8 (i':Int)) dx;obtain⟨i1,dy⟩:=qL0 ei;have dq:valV kv2 (E8 (i':Int))=some (if((i':Nat):Int)∈qEZ p Ad then V.non else V.int (k':Int)):=by
    rw[hz i',bv];by_cases c:((i':Nat):Int)∈qEZ p Ad
    ·rw[if_pos c,if_pos c]
    ·rw[if_neg c,if_neg c];rfl
   rw[dq] at hg;have bh:decide ((if((i':Nat):Int)∈qEZ p Ad then V.non else V.int (k':Int))=V.int (k:Int))=!wn Ae Ad p (k+1) n:=by
    rw[G6,decide_eq_true_eq,Z7,tc,bv,<- qWV b6];by_cases c:((i':Nat):Int)∈qEZ p Ad
    ·rw[if_pos c];exact⟨λz=>(nomatch z),λz=>absurd c z.1⟩
    ·rw[if_neg c]
     constructor
     ·intro z;have:(k':Int)=(k:Int):=V.int.inj z;exact⟨c,by congr 1;lia⟩
     ·refineλbj=>opq λe5 bg=>?_;obtain⟨_,z⟩:=bj;refine bg ?_;rw[B0 z]
   have ct:=C6 a8;have eo:ts.length<=402000:=by
    rw[ct,B7,B7,A0];have:=F2 (λn=>!wn Ae Ad p (k+1) n) ((nd Ae (wkO p k)).take j);rw[D8] at this;have:=qPP wf a3 (wkO p k);show _+(1+_)<=_
    lia
   refine nmI λD2 d2 _=>?_;refine⟨_,rfl,_,rfl,d,_,rfl,hg,_,rfl,(by split<;>rfl),_,rfl,?_⟩
   rw[bh];cases b:wn Ae Ad p (k+1) n with
   |true=>
    refine iteF ?_;exact d2 _ _ ⟨ts,_,rfl,kv,a9,by rw[qC9 en,b];simpa using a8⟩
   |false=>
    refine iteT ?_;obtain⟨r2,de,dp⟩:=qGF ML dy;have dr:=a1 kv _ _ hL;have c4:=a1 kv _ _ dp;refine⟨_,rfl,.inl ⟨rfl,_,Ab2 a9⟩,_,rfl,_,rfl,l,_,_,_,rfl,rfl,Ab2 dr,qGZ (by lia) (by rw[D7,B6,de];rfl),r2,_,_,_,rfl,rfl,Ac0 c4,rfl,(by show 2<=B12;decide),λTc cl=>?_⟩
    have aq:=qA4 cl (.tup [.str (C0 "clear"),.int n]);have bp:=aq _ _ a9;refine⟨lt,_,_,rfl,rfl,bp,qAQ (by rw[A0];lia),?_⟩
    rw[qBF];refine d2 _ _ ⟨ts++[Tc],_,rfl,qO4 (kv.trans (.of_same aq)),qA1,?_⟩;rw[qC9 en,b];have e9:∀(F:List Mv) (X:List Int),F++([dO (wkO p k)]++(X++[n]).map cL)=(F++([dO (wkO p k)]++X.map cL))++[cL n]:=λF X=>by simp
    rw[if_pos (by rfl),e9]
    refine qGJ (qMR a8 λb m e=>?_) ?_
    ·rw[qA9 (qC1 (aq _ _ e) bp (by intro z;cases z))];exact aq _ _ e
    ·rw[qA9 (qA6 a9 cl).symm];exact qA1
  ·refineλσ Hv be=>opq λea bo=>?_;obtain⟨ts,v10,rfl,kv,a9,a8⟩:=be;refine bo ?_;refine d1 _ _ ⟨ts,_,_,rfl,kv,a9,?_⟩;have ln:((ndI Ae p k).map V.int).length=(nd Ae (wkO p k)).length:=by unfold ndI;rw[A0,A0]
   rw[ln,G3] at a8;rw[C9,a7,D0,C2,List.flatten_append];simpa[pc] using a8
 ·refineλσ Hw b2=>opq λeb b4=>?_;obtain⟨ts,v9,v10,rfl,kw,gt,MT⟩:=b2;refine b4 ?_;rw[c9,G3,<- qbV] at MT;have d8:Same H Hw:=λb u e=>kw b u (b7 b u e) (qA6 e ag) (qA6 e ag);exact da _ _ ⟨_,rfl,q lt Hw d8 ag ⟨ts,gt,MT⟩⟩
theorem sc_Lcase:FnScope ["_law_state","_law_way","_law_n","_law_back","_law_m"] ["_law_state"] (qA7 qCP):=qB2
theorem ok_Lcase (F:Fun K "_law_case" "_law_case" qCP f fd) (qD8:Clb P w K mg base 1 qLK qOD "_law_take" ["_law_state","_law_many"] qSH) (qD4:Clb P w K mg base 1 qEQ qGP "row_net" ["n","back"] qSJ) (qBL:Clb P w K mg base 2 qCB qDI "square_net" ["n","m"] qZ0) (ad:Clb P w K mg base 1 qEP qHF "step_net" ["n"] qc5) (qCT:Clb P w K mg base 1 qF6 qJ9 "row_rooms" ["n","back"] qIL) (qBR:Clb P w K mg base 1 qCY qFQ "square_rooms" ["n","m"] qKE) (ak:Clb P w K mg base 1 qFT qO8 "step_rooms" ["n"] qP4) (ab:Clb P w K mg base 3 qIY qRW "row_plan" ["n","back"] qMJ) (al:Clb P w K mg base 3 qF4 qM6 "square_plan" ["n","m"] qMI) (ai:Clb P w K mg base 3 qHH qQ9 "step_plan" ["n"] qP5):FnOk P w K mg base CX0 4 f fd ["_law_state"] qSP:=by
 refine F.okA sc_Lcase λau A a9 s H vs Q E b h=>?_;obtain⟨d,c,t,ns,rfl,S,ht,q⟩:=h;have ap:t<=1000000000-100:=ht;have a4:qWF (qdV ((ifB ((qAL qCP).getD 2 (.Pass ⟨0,0,0,0⟩))).getD 0 (.Pass ⟨0,0,0,0⟩)))=some hw64Z:=by kernel_rfl
 have a6:qAL qCP=[(qAL qCP).getD 0 (.Pass ⟨0,0,0,0⟩),(qAL qCP).getD 1 (.Pass ⟨0,0,0,0⟩),(.If (.Compare (.Name "_law_way" ⟨272,7,272,15⟩) [.Eq] [(.Constant (.int 1) 0 ⟨272,19,272,20⟩)] ⟨272,7,272,20⟩) [(.Assign [(.Tuple [(.Name "_law_n" ⟨273,8,273,14⟩),(.Name "_law_m" ⟨273,16,273,22⟩)] 0 ⟨273,8,273,22⟩)] (.Subscript (qdV ((ifB ((qAL qCP).getD 2 (.Pass ⟨0,0,0,0⟩))).getD 0 (.Pass ⟨0,0,0,0⟩))) (.Call (.Name "_law_take" ⟨273,106,273,115⟩) [(.Name "_law_state" ⟨273,116,273,126⟩),(.Constant (.int 10) 0 ⟨273,128,273,130⟩)] [] ⟨273,106,273,131⟩) ⟨273,25,273,132⟩) ⟨273,8,273,132⟩),(ifB ((qAL qCP).getD 2 (.Pass ⟨0,0,0,0⟩))).getD 1 (.Pass ⟨0,0,0,0⟩)] [] ⟨272,4,274,102⟩),(qAL qCP).getD 3 (.Pass ⟨0,0,0,0⟩),(qAL qCP).getD 4 (.Pass ⟨0,0,0,0⟩)]:=by kernel_rfl
 rw[a6];clear a6;generalize (qdV ((ifB ((qAL qCP).getD 2 (.Pass ⟨0,0,0,0⟩))).getD 0 (.Pass ⟨0,0,0,0⟩)))=e3 at a4 ⊢;have h3:∀X:Cx,PE X e3 (tPrL hw64Z):=λX=>qZH a4 (by decide)
 refine⟨_,(qA3 (qAF (i:=1) sc_Lcase.nd rfl (E9 rfl) (qAI qD8 b rfl (qA0 (pv 0) (qA0 qA8 qA2)))) (qA3 (qC8 (qAS qIN (pv 1) qA8 (qB4 _)) (qA3 (qeV (i:=2) (j:=3) rfl sc_Lcase.nd rfl rfl (by decide) rfl rfl (qA0 (qAU qCA qA8 (qAI qD8 b rfl (qA0 (pv 0) (qA0 qA8 qA2)))) (qA0 (qAU qCA qA8 (qAI qD8 b rfl (qA0 (pv 0) (qA0 qA8 qA2)))) qA2)) rfl) (qA5 (qAC (qAT (qA0 (qAI qD4 b rfl (qA0 (pv 2) (qA0 (pv 3) qA2))) (qA0 (qAI qCT b rfl (qA0 (pv 2) (qA0 (pv 3) qA2))) (qA0 (qAI ab b rfl (qA0 (pv 2) (qA0 (pv 3) qA2))) qA2))))))) qAN) (qA3 (qC8 (qAS qIN (pv 1) qA8 (qB4 _)) (qA3 (qW0 (qBT qL4 (h3 _) (qAI qD8 b rfl (qA0 (pv 0) (qA0 qA8 qA2))) (λ_ _=>rfl)) (qKO rfl (qBP (qAJ (i:=2) sc_Lcase.nd rfl (E9 rfl)) (qBP (qAJ (i:=4) sc_Lcase.nd rfl (E9 rfl)) qH8)))) (qA5 (qAC (qAT (qA0 (qAI qBL b rfl (qA0 (pv 2) (qA0 (pv 4) qA2))) (qA0 (qAI qBR b rfl (qA0 (pv 2) (qA0 (pv 4) qA2))) (qA0 (qAI al b rfl (qA0 (pv 2) (qA0 (pv 4) qA2))) qA2))))))) qAN) (qA3 (qAF (i:=2) sc_Lcase.nd rfl (E9 rfl) (qAU qCA qA8 (qAI qD8 b rfl (qA0 (pv 0) (qA0 qA8 qA2))))) (qA5 (qAC (qAT (qA0 (qAI ad b rfl (qA0 (pv 2) qA2)) (qA0 (qAI ak b rfl (qA0 (pv 2) qA2)) (qA0 (qAI ai b rfl (qA0 (pv 2) qA2)) qA2)))))))))),?_⟩
 try dsimp only[Cx.nox,Cx.wish,cxOf]
 refine cut λN1 ac=>?_;refine⟨_,rfl,d,c,t,ns,3,rfl,S,(by show t<=1000000000;lia),by decide,by decide,λar u H0 w0 w1 z K0=>?_⟩
 refine ac _ _ (cut λN2 aa=>?_);refine⟨_,rfl,rfl,_,rfl,?_⟩;have p:∀(a l:Addr) (Ae:Aa0) (R:Int) (ms:List Mv) (t':Int) (ns':List Int) (H1:Hp) (T:Addr),StAt H1 d c t' ns'->t<=t'->t'<=t+10->Keep d c H H1->H1 T=none->NetAt H1 a Ae->PlanAt H1 l ms->l≠c->Case64 Ae R ms->Q (.ref T) (Ag H1 T (.tup [.ref a,.int R,.ref l])):=by
  intro a l Ae R ms t' ns' H1 T S1 h1 h2 K1 o y v nl C;have sT:=qA4 o (.tup [.ref a,.int R,.ref l]);exact q T a l Ae R ms t' ns' _ (S1.same sT) h1 h2 (K1.trans (.of_same sT)) qA1 (y.same sT) (v.same sT) nl C
 refine ite2 (λ_=>?_) (λ_=>?_)
 ·refine cut λN3 r=>?_;refine⟨_,rfl,d,c,t+1,u,10,rfl,z,(by show t+1<=1000000000;lia),by decide,by decide,λk1 a7 Ha a0 a1 Sa Ka=>⟨_,_,rfl,rfl,?_⟩⟩
  refine⟨_,rfl,d,c,t+1+1,a7,9,rfl,Sa,(by show t+1+1<=1000000000;lia),by decide,by decide,λk2 aq Hb b0 b1 Sb Kb=>⟨_,_,rfl,rfl,?_⟩⟩
  obtain⟨n,en⟩:∃n:Nat,1+k1=(n:Int):=⟨(1+k1).toNat,by lia⟩
  obtain⟨bk,eb⟩:∃n:Nat,1+k2=(n:Int):=⟨(1+k2).toNat,by lia⟩
  dsimp only;rw[en,eb];refine⟨_,_,rfl,?_⟩;refine r _ _ ?_;have KK:=K0.trans (Ka.trans Kb);refine⟨_,rfl,_,rfl,n,bk,rfl,by lia,by lia,λa Hc x y=>?_⟩
  refine⟨_,rfl,_,rfl,n,bk,rfl,by lia,by lia,by lia,?_⟩
  refine⟨_,rfl,_,rfl,n,bk,rfl,by lia,by lia,by lia,by lia,λl Hd e fl v=>?_⟩
  refine⟨(by show 3<=B12;decide),λT o=>?_⟩
  have Sd:=Sb.same (x.trans e);exact p a l _ _ _ _ _ Hd T Sd (by lia) (by lia) (KK.trans (.of_same (x.trans e))) o (y.same e) v (qA6 (Sb.same x).list fl).symm (qTQ (by lia) (by lia) (by lia) (by lia))
 refine aa _ _ (cut λN3 r=>?_);refine⟨_,rfl,rfl,_,rfl,?_⟩;refine ite2 (λ_=>?_) (λ_=>?_)
 ·refine cut λN4 k=>?_;intro lp ts af a5 a2 ag am;have a3:Same H0 af:=a5;have S2:=z.same a3;have np:lp≠d/\lp≠c:=⟨(qA6 z.dict a2).symm,(qA6 z.list a2).symm⟩;refine⟨_,rfl,d,c,t+1,u,10,rfl,S2,(by show t+1<=1000000000;lia),by decide,by decide,λk3 as Hc c0 c1 Sc Kc=>?_⟩
  have aj:k3.toNat<hw64Z.length:=by show k3.toNat<10;lia
  have eh:=A4 aj;generalize hw64Z[k3.toNat]=ao at eh;obtain⟨tq,ah,gq⟩:=qGF am eh;obtain⟨m,a8,g⟩:=qa0 (A9 eh);subst a8;obtain⟨h1,w1,h9,w9,an⟩:=qbA m g;have ae:=Kc _ _ gq (S2.tup gq).1 (S2.tup gq).2;refine⟨lp,_,_,_,rfl,rfl,Ab2 (Kc _ _ ag np.1 np.2),qGZ c0 (by rw[B6,ah];rfl),?_⟩
  refine⟨tq,_,rfl,Ac0 ae,rfl,_,_,rfl,_,_,rfl,rfl,?_⟩;refine k _ _ ?_;have KK:=K0.trans ((Keep.of_same a3).trans Kc);refine⟨_,rfl,_,rfl,m.1,m.2,rfl,w1,by lia,by lia,λa Hd e y=>?_⟩
  refine⟨_,rfl,_,rfl,m.1,m.2,rfl,h1,w1,by lia,by lia,?_⟩
  refine⟨_,rfl,_,rfl,m.1,m.2,rfl,g,λl He se fl v=>?_⟩;refine⟨(by show 3<=B12;decide),λT o=>?_⟩
  have Se:=Sc.same (e.trans se);exact p a l _ _ _ _ _ He T Se (by lia) (by lia) (KK.trans (.of_same (e.trans se))) o (y.same se) v (qA6 (Sc.same e).list fl).symm (qYA g)
 refine r _ _ (cut λN4 k=>?_);refine⟨_,rfl,d,c,t+1,u,4,rfl,z,(by show t+1<=1000000000;lia),by decide,by decide,λk1 a7 Ha a0 a1 Sa Ka=>⟨_,_,rfl,rfl,?_⟩⟩
 obtain⟨n,en⟩:∃n:Nat,1+k1=(n:Int):=⟨(1+k1).toNat,by lia⟩
 dsimp only;rw[en];refine k _ _ ?_;have KK:=K0.trans Ka;refine⟨_,rfl,n,rfl,by lia,by lia,λa Hc x y=>?_⟩
 refine⟨_,rfl,n,rfl,by lia,by lia,?_⟩
 refine⟨_,rfl,n,rfl,by lia,by lia,λl Hd e fl v=>?_⟩
 refine⟨(by show 3<=B12;decide),λT o=>?_⟩
 have Sd:=Sa.same (x.trans e);exact p a l _ _ _ _ _ Hd T Sd (by lia) (by lia) (KK.trans (.of_same (x.trans e))) o (y.same e) v (qA6 (Sa.same x).list fl).symm (qY9 (by lia) (by lia))
theorem sc_Lright:FnScope ["_law_state","_law_net","_law_rooms","_law_plan","_law_last","_law_paper","_law_less"] ["_law_state"] (qA7 qJU):=qB2
theorem ok_Lright (F:Fun K "_law_right" "_law_right" qJU f fd) (qD8:Clb P w K mg base 1 qLK qOD "_law_take" ["_law_state","_law_many"] qSH) (bs:Clb P w K mg base 4 qRZ qaE "_law_case" ["_law_state"] qSP) (ar:Clb P w K mg base 5 qOF qXP "fewest" ["net","asked"] (qaW Pt)) (a7:Clb P w K mg base 4 qXS qdJ "does" ["net","rooms","plan","asked"] qVO) (bx:FnOk P w K mg base (CX1 P w) 4 qFW qIU ["net","plan"] (qaV qAM)) (bi:Binds K qIU ["net","plan"] []) (bm:G8 K (.ref qFW)=true) (br:mg "most_of" = some (.ref qFW)) (a0:Clb P w K mg base 1 qIW qRU "steps_of" ["plan"] qVK) (b8:Clb P w K mg base 1 qCC qDJ "all_needed" ["net","asked"] qPB) (bf:Clb P w K mg base 5 qF7 qM8 "never_paper" ["net","asked","rooms"] (qSL Pt)) (bj:Clb P w K mg base 6 qF5 qM7 "shows_never" ["net","asked","rooms","thing"] qSI) (bu:Clb P w K mg base 2 qOE qXO "tidied" ["net","plan","asked"] qSG) (qCD:mg "len" = none):FnOk P w K mg base CX0 7 f fd ["_law_state"] (qP7 Pt):=by
 refine F.okA sc_Lright λcd A bb s H vs Q E j h=>?_;obtain⟨d,c,t,ns,rfl,S,ht,v,q⟩:=h;have c4:t<=1000000000-100:=ht;have b9:Room 4 _:=j.mono (by decide)
 refine⟨_,(qA3 (qW0 (qAI bs j rfl (qA0 (pv 0) qA2)) (qKO rfl (qBP (qAJ (i:=1) sc_Lright.nd rfl (E9 rfl)) (qBP (qAJ (i:=2) sc_Lright.nd rfl (E9 rfl)) (qBP (qAJ (i:=3) sc_Lright.nd rfl (E9 rfl)) qH8))))) (qA3 (qAF (i:=4) sc_Lright.nd rfl (E9 rfl) (qAU qFD (qAG qAH rfl qCD qCM (qA0 (pv 1) qA2)) qA8)) (qA3 (qC8 (PW.pt (qLY (qAS qWH (qBT qBK (qAI ar j rfl (qA0 (pv 1) (qA0 (qAT (qA0 (pv 4) qA2)) qA2))) qA8 (λ_ _=>rfl)) (pv 2) (qB4 _)) (qLY (qFM (qEI (qAI a7 j rfl (qA0 (pv 1) (qA0 (pv 2) (qA0 (pv 3) (qA0 (qAT (qA0 (pv 4) qA2)) qA2))))))) (qJ4 (qAS qWH (qRD bx b9 rfl br bm bi .nil qgX (qA0 (pv 1) (qA0 (pv 3) qA2))) (pv 2) (qB4 _)))))) (qA5 (qAC qEJ)) qAN) (qA3 (qC8 (PW.pt (qLY (qAS qWH (qAI a0 j rfl (qA0 (pv 3) qA2)) (qAG qAH rfl qCD qCM (qA0 (qAI b8 j rfl (qA0 (pv 1) (qA0 (qAT (qA0 (pv 4) qA2)) qA2))) qA2)) (qB4 _)) (qJ4 (qAS qWH (qAG qAH rfl qCD qCM (qA0 (pv 1) qA2)) (qAI a0 j rfl (qA0 (pv 3) qA2)) (qB4 _))))) (qA5 (qAC qEJ)) qAN) (qA3 (qC8 (qAS qWI (pv 2) qA8 (qB4 _)) (qA3 (qAF (i:=5) sc_Lright.nd rfl (E9 rfl) (qAI bf j rfl (qA0 (pv 1) (qA0 (qAT (qA0 (pv 4) qA2)) (qA0 (qAU qFD (pv 2) qA8) qA2))))) (qA5 (qC8 (PW.pt (qLY (qE8 (qWD (pv 5))) (qLY (qFM (qEI (qAI bj j rfl (qA0 (pv 1) (qA0 (qAT (qA0 (pv 4) qA2)) (qA0 (qAU qFD (pv 2) qA8) (qA0 (pv 5) qA2))))))) (qJ4 (qEI (qAI a7 j rfl (qA0 (pv 1) (qA0 (qAU qFD (pv 2) qA8) (qA0 (pv 3) (qA0 (qAT (qA0 (pv 4) qA2)) qA2)))))))))) (qA5 (qAC qEJ)) qAN))) qAN) (qA3 (qAF (i:=6) sc_Lright.nd rfl (E9 rfl) (qAI bu j rfl (qA0 (pv 1) (qA0 (pv 3) (qA0 (qAT (qA0 (pv 4) qA2)) qA2))))) (qA3 (qC8 (PW.pt (qLY (qFM (qEI (qAI a7 j rfl (qA0 (pv 1) (qA0 (pv 2) (qA0 (pv 6) (qA0 (qAT (qA0 (pv 4) qA2)) qA2))))))) (qJ4 (qAS qWI (qAI a0 j rfl (qA0 (pv 6) qA2)) (qAI a0 j rfl (qA0 (pv 3) qA2)) (qB4 _))))) (qA5 (qAC qEJ)) qAN) (qA5 (qAC (qH9 qcS (qBT qBK (qAI ar j rfl (qA0 (pv 1) (qA0 (qAT (qA0 (qAI qD8 j rfl (qA0 (pv 0) (qA0 (qAG qAH rfl qCD qCM (qA0 (pv 1) qA2)) qA2))) qA2)) qA2))) qA8 (λ_ _=>rfl)) (pv 2) (qB4 _))))))))))),?_⟩
 try dsimp only[Cx.nox,Cx.wish,cxOf]
 have nP:Pt≠d/\Pt≠c:=⟨qC1 v S.dict (by intro z;cases z),qC1 v S.list (by intro z;cases z)⟩
 refine cut λN0 bc=>?_;refine⟨_,rfl,d,c,t,ns,rfl,S,(by show t<=1000000000-100;lia),λT a l b R g t1 bz H1 S1 u1 u2 K1 gT y PL c6 C=>?_⟩
 have wf:=C.wf;have l1:=C.l1;have l10:=C.l10;have ac:TabB H1 Pt:=K1 _ _ v nP.1 nP.2;refine⟨T,_,rfl,Ac0 gT,rfl,_,_,rfl,_,_,rfl,_,_,rfl,rfl,?_⟩;refine bc _ _ (cut λN1 bk=>?_);obtain⟨rs,hA,NL⟩:=id y;have ag:(((rs.map V.ref).length:Nat):Int)=(b.length:Int):=by rw[A0,C6 NL]
 refine⟨_,rfl,a,_,rfl,.inr (Ac0 hA),_,_,rfl,rfl,?_⟩;dsimp only;rw[ag];refine bk _ _ (cut λN2 bh=>?_);refine⟨_,rfl,_,rfl,(by show 1<=B12;decide),λta a5=>?_⟩
 have rA:Rise (b.length:Int) [(b.length:Int)-1]:=⟨M8 _ _,λx hx=>by rw[A6.mp hx];lia⟩
 have s2:=qA4 a5 (.tup [.int ((b.length:Int)-1)]);have n:qFB (Ag H1 ta (.tup [.int ((b.length:Int)-1)])) ta b [(b.length:Int)-1]:=⟨qA1,rA⟩;generalize Ag H1 ta (.tup [.int ((b.length:Int)-1)])=H2 at s2 n ⊢;refine⟨a,ta,b,[(b.length:Int)-1],rfl,s2 _ _ ac,y.same s2,wf,by lia,n,A7 _,λT3 l3 r cb H3 s3 FO bw bg b4=>?_⟩
 have er:=LeastR.one (FO.lr C.nd) C.lr;subst er;refine⟨T3,_,_,_,rfl,rfl,Ac0 b4,rfl,?_⟩;refine⟨_,rfl,rfl,_,rfl,?_⟩;rw[decide_eq_true (rfl:V.int r=V.int r)];refine iteF ?_;have RN:=qZ5 C;have r1:=C.lr.1;have c3:=C.told.len;have az:=y.same (s2.trans s3);have a3:=PL.same (s2.trans s3);have am:PlayIn H3 a l b g r:=⟨az,wf,by lia,a3,by lia,C.told.ok,by lia,by lia⟩
 have pl:=qeY C.told.ok C.told.run;refine⟨_,rfl,_,rfl,_,rfl,_,rfl,(by show 1<=B12;decide),λtb ah=>?_⟩
 have s4:=qA4 ah (.tup [.int ((b.length:Int)-1)]);have o:(Ag H3 tb (.tup [.int ((b.length:Int)-1)])) tb=some (.tup ([(b.length:Int)-1].map V.int)):=qA1;generalize Ag H3 tb (.tup [.int ((b.length:Int)-1)])=H4 at s4 o ⊢;refine⟨a,l,tb,b,g,r,[(b.length:Int)-1],rfl,am.same s4,o,by show 1<=1000;decide,λe H5 s5 P5=>?_,λe w0 H5 s5 P5=>absurd P5 (pl.2 e w0)⟩
 rw[pl.1 e P5,decide_eq_true (show∀x∈[(b.length:Int)-1],x∈[(b.length:Int)-1] fromλ_ h=>h)];refine⟨_,rfl,?_⟩;refine iteF ?_;have a9:=s2.trans (s3.trans (s4.trans s5));have aw:PlayIn H5 a l b g (b.length:Int):=⟨y.same a9,wf,by lia,PL.same a9,by lia,C.told.ok,by lia,by lia⟩
 have rm:=qZ3 C.told.ok (qZ4 C.told.run RN);refine⟨_,rfl,_,rfl,a,l,b,g,rfl,aw,λe m H6 s6 P6 e6=>?_,λe w0 dx H6 s6 P6 _=>absurd P6 (rm.2 e w0)⟩;rw[rm.1 e m P6 e6,C.told.top];refine⟨_,rfl,rfl,?_⟩;rw[decide_eq_true (rfl:V.int r=V.int r)];refine⟨_,rfl,?_⟩;refine iteF ?_;refine bh _ _ (cut λN3 bq=>?_);have ab:=a9.trans s6;have au:=y.same ab;have ao:=PL.same ab;have DS:=qaK C;refine⟨_,rfl,l,g,rfl,ao,by lia,λH7 s7=>?_⟩
 rw[DS];refine⟨_,rfl,_,rfl,(by show 1<=B12;decide),λtc bv=>?_⟩
 have s8:=qA4 bv (.tup [.int ((b.length:Int)-1)]);have a4:(Ag H7 tc (.tup [.int ((b.length:Int)-1)])) tc=some (.tup ([(b.length:Int)-1].map V.int)):=qA1;generalize Ag H7 tc (.tup [.int ((b.length:Int)-1)])=H8 at s8 a4 ⊢;refine⟨a,tc,b,[(b.length:Int)-1],rfl,au.same (s7.trans s8),wf,by lia,a4,rA.in_,λlz zs H9 s9 bn gz NZ=>?_⟩
 rw[qEL NZ C.nd] at gz;refine⟨lz,_,rfl,.inl (Ab2 gz),?_⟩;rw[A0,qH6];refine⟨rfl,?_⟩;rw[decide_eq_true (rfl:V.int (b.length:Int)=V.int (b.length:Int))];refine⟨_,rfl,?_⟩;refine iteF ?_;have a8:=ab.trans (s7.trans (s8.trans s9));refine⟨_,rfl,a,_,rfl,.inr (Ac0 (a8 _ _ hA)),?_⟩;rw[ag];refine⟨_,rfl,l,g,rfl,PL.same a8,by lia,λHa sa=>?_⟩
 rw[DS];refine⟨rfl,?_⟩;rw[decide_eq_true (rfl:V.int (b.length:Int)=V.int (b.length:Int))];refine⟨_,rfl,?_⟩;refine iteF ?_;have as:=a8.trans sa;clear o n a4 gz bn NZ am aw a3 az ao au b4 bg bw FO;refine bq _ _ (cut λN4 ba=>?_);have a2:∀(v5:Option V) (Hx:Hp),Same H1 Hx->N4 [some (.ref d),some (.ref a),some (.int r),some (.ref l),some (.int ((b.length:Int)-1)),v5,none] Hx:=by
  intro v5 Hx sx;refine ba _ _ (cut λN5 aa=>?_);refine⟨_,rfl,_,rfl,_,rfl,(by show 1<=B12;decide),λta a5=>?_⟩
  have sb:=sx.trans (qA4 a5 (.tup [.int ((b.length:Int)-1)]));have n:(Ag Hx ta (.tup [.int ((b.length:Int)-1)])) ta=some (.tup ([(b.length:Int)-1].map V.int)):=qA1;generalize Ag Hx ta (.tup [.int ((b.length:Int)-1)])=Hb at sb n ⊢;have RP:=runP C.told.run;have a1:∀x∈[(b.length:Int)-1],x∈[(b.length:Int)-1]:=λ_ h=>h;obtain⟨tt,ap,ad,ai,c2,_⟩:=qYY wf C.told.run C.told.ok a1 rA;refine⟨a,l,ta,b,g,[(b.length:Int)-1],rfl,⟨y.same sb,wf,by lia,PL.same sb,by lia,C.told.ok,RP.ndf⟩,n,(by show 1<=400;decide),RP.last a1,λl2 Hc sc bd al=>?_⟩
  have aj:=sb.trans sc;refine aa _ _ (cut λN6 b6=>?_);refine⟨_,rfl,_,rfl,_,rfl,_,rfl,(by show 1<=B12;decide),λtb ah=>?_⟩
  have u:=qA4 ah (.tup [.int ((b.length:Int)-1)]);have o:(Ag Hc tb (.tup [.int ((b.length:Int)-1)])) tb=some (.tup ([(b.length:Int)-1].map V.int)):=qA1;generalize Ag Hc tb (.tup [.int ((b.length:Int)-1)])=Hd at u o ⊢;have b1:=qeY ai ap;refine⟨a,l2,tb,b,tdy b [(b.length:Int)-1] g,r,[(b.length:Int)-1],rfl,⟨y.same (aj.trans u),wf,by lia,al.same u,by lia,ai,by lia,by lia⟩,o,(by show 1<=1000;decide),λe He se P=>?_,λe w0 He se P=>absurd P (b1.2 e w0)⟩
  rw[b1.1 e P,decide_eq_true ad];refine⟨_,rfl,?_⟩;refine iteF ?_;have ak:=aj.trans (u.trans se);refine⟨_,rfl,l2,_,rfl,al.same (u.trans se),by lia,λHf sf=>?_⟩
  refine⟨_,rfl,l,g,rfl,PL.same (ak.trans sf),by lia,λHg sg=>?_⟩
  have c5:doN (tdy b [(b.length:Int)-1] g)<=doN g:=by
   rw[qS1,qS1];exact Int.ofNat_le.mpr (qOK g)
  refine⟨_,_,rfl,rfl,_,rfl,?_⟩;dsimp only;rw[decide_eq_false (show¬doN g<doN (tdy b [(b.length:Int)-1] g) by lia)]
  refine iteF ?_;have p:=ak.trans (sf.trans sg);refine b6 _ _ ?_;refine⟨_,rfl,_,rfl,_,rfl,a,_,rfl,.inr (Ac0 (p _ _ hA)),?_⟩;rw[ag];refine⟨d,c,t1,bz,(b.length:Int),rfl,S1.same p,(by show t1<=1000000000;lia),by lia,by lia,λk c7 Hh k0 k1 Sh Kh=>?_⟩
  refine⟨(by show 1<=B12;decide),λth bt=>?_⟩
  have si:=qA4 bt (.tup [.int k]);have rK:Rise (b.length:Int) [k]:=⟨M8 _ _,λx hx=>by rw[A6.mp hx];exact⟨k0,k1⟩⟩
  have an:qFB (Ag Hh th (.tup [.int k])) th b [k]:=⟨qA1,rK⟩;have b3:TabB (Ag Hh th (.tup [.int k])) Pt:=si _ _ (Kh _ _ (p _ _ ac) nP.1 nP.2);have aq:=((y.same p).keep (S1.same p) Kh).same si;have Si:=Sh.same si;have Ki:Keep d c H1 (Ag Hh th (.tup [.int k])):=(Keep.of_same p).trans (Kh.trans (.of_same si));generalize Ag Hh th (.tup [.int k])=Hi at si an b3 aq Si Ki ⊢;obtain⟨ws,N⟩:=qPO wf rK;refine⟨a,th,b,[k],rfl,b3,aq,wf,by lia,an,A7 _,λT4 l4 r4 c9 Hj sj b7 c8 ca bp=>?_⟩
  refine⟨T4,_,_,_,rfl,rfl,Ac0 bp,rfl,_,rfl,_,_,rfl,rfl,?_⟩;dsimp only;rw[decide_eq_true (qfU C k0 k1 N (b7.lr N))];exact q _ _ _ (Si.same sj) (by lia) (by lia) (K1.trans (Ki.trans (.of_same sj)))
 refine⟨_,rfl,_,_,rfl,rfl,_,rfl,?_⟩;refine ite2 (λc1=>?_) (λc1=>?_)
 ·have c1:(1:Int)<r:=of_decide_eq_true c1;have nl:=qcX C c1;refine cut λN5 aa=>?_;refine⟨_,rfl,_,rfl,(by show 1<=B12;decide),λtd be=>?_⟩
  have sb:=qA4 be (.tup [.int ((b.length:Int)-1)]);have b2:qFB (Ag Ha td (.tup [.int ((b.length:Int)-1)])) td b [(b.length:Int)-1]:=⟨qA1,rA⟩;generalize Ag Ha td (.tup [.int ((b.length:Int)-1)])=Hb at sb b2 ⊢;have ae:=as.trans sb;refine⟨_,rfl,_,_,rfl,rfl,a,td,b,[(b.length:Int)-1],qAO 0 (b.length:Int),r-1,rfl,ae _ _ ac,y.same ae,wf,by lia,b2,A7 _,C.nd,λdn=>absurd dn nl,λnd T2 tw l2 b0 ss Hc sc ce bd PN NP no cc=>?_⟩
  have c0:=ae.trans sc;have NW:=qcY (show 0<=r-1 by lia) NP.mem
  refine aa _ _ ?_;refine⟨_,rfl,?_⟩;refine⟨_,rfl,?_⟩;refine iteF ?_;refine⟨_,rfl,_,rfl,(by show 1<=B12;decide),λte bl=>?_⟩
  have u:=qA4 bl (.tup [.int ((b.length:Int)-1)]);have av:qFB (Ag Hc te (.tup [.int ((b.length:Int)-1)])) te b [(b.length:Int)-1]:=⟨qA1,rA⟩;generalize Ag Hc te (.tup [.int ((b.length:Int)-1)])=Hd at u av ⊢;have ax:=c0.trans u;have b5:PapN Hd T2 tw l2 (qAO 0 (b.length:Int)) b0 ss:=⟨u _ _ PN.tup,PN.works.same u,u _ _ PN.lst,PN.at_.same u⟩;refine⟨_,rfl,_,_,rfl,rfl,_,rfl,a,te,T2,tw,l2,b,[(b.length:Int)-1],qAO 0 (b.length:Int),r-1,b0,ss,rfl,y.same ax,wf,by lia,av,b5,C.nd.1,qYU l1,by lia,NW,λtold He se af=>?_⟩
  rw[af.mpr no];refine⟨_,rfl,?_⟩;refine iteF ?_;refine⟨_,rfl,_,rfl,_,_,rfl,rfl,_,rfl,_,rfl,(by show 1<=B12;decide),λtf bo=>?_⟩
  have sf:=qA4 bo (.tup [.int ((b.length:Int)-1)]);have ay:(Ag He tf (.tup [.int ((b.length:Int)-1)])) tf=some (.tup ([(b.length:Int)-1].map V.int)):=qA1;generalize Ag He tf (.tup [.int ((b.length:Int)-1)])=Hf at sf ay ⊢;have a6:=ax.trans (se.trans sf);refine⟨a,l,tf,b,g,r-1,[(b.length:Int)-1],rfl,⟨y.same a6,wf,by lia,PL.same a6,by lia,C.told.ok,by lia,by lia⟩,ay,(by show 1<=1000;decide),λe Hg sg P=>absurd P (qW3 C.told.run .nil (by show((0:Nat):Int)<=r-1;lia) (by have:=C.told.top;show r-1<peak 0 g;lia)),λe w0 Hg sg P=>?_⟩
  refine⟨_,rfl,?_⟩;refine iteF ?_;exact a2 _ Hg (a6.trans sg)
 ·exact a2 none Ha as
theorem qbT:∀n:Nat,n<10->1<=n->((min (n-1) 1:Nat):Int)+1=(qR1 n 1:Int)+1:=by decide +kernel
theorem sc_law:FnScope ["_law_script","_law_state","_law_turn","_law_n"] ["_law_script"] (qA7 qLX):=qB2
theorem ok_law (F:Fun K "law" "law" qLX f fd) (qK0:Clb P w K mg base 1 qOH qXR "_law_begin" ["_law_script"] (qVS K)) (qD8:Clb P w K mg base 1 qLK qOD "_law_take" ["_law_state","_law_many"] qSH) (qJZ:Clb P w K mg base 7 qOG qXQ "_law_right" ["_law_state"] (qP7 Pt)) (qD4:Clb P w K mg base 1 qEQ qGP "row_net" ["n","back"] qSJ) (qBL:Clb P w K mg base 2 qCB qDI "square_net" ["n","m"] qZ0) (qCT:Clb P w K mg base 1 qF6 qJ9 "row_rooms" ["n","back"] qIL) (qBR:Clb P w K mg base 1 qCY qFQ "square_rooms" ["n","m"] qKE) (qBG:mg "range" = none):FnOk P w K mg base CX0 8 f fd ["_law_script"] (qSM K Pt):=by
 refine F.okA sc_law λag A a7 s H vs Q E g h=>?_;obtain⟨p,sc,ns,rfl,hS,y,q⟩:=h;have u:=g.units;refine⟨_,(qA3 (qAF (i:=1) sc_law.nd rfl (E9 rfl) (qAI qK0 g rfl (qA0 (pv 0) qA2))) (qA3 (qB9 D4 rfl (qD1 rfl qBG (qA0 qA8 qA2)) (qAJ (i:=2) sc_law.nd rfl (E9 rfl)) (qA5 (qC8 (qFM (qEI (qAI qJZ g rfl (qA0 (pv 1) qA2)))) (qA5 (qAC qEJ)) qAN))) (qA3 (qAF (i:=3) sc_law.nd rfl (E9 rfl) (qAU qCA qA8 (qAI qD8 g rfl (qA0 (pv 1) (qA0 qA8 qA2))))) (qA5 (qAC (qMQ (qH9 (qUG u) (qAI qD4 g rfl (qA0 (pv 3) (qA0 qA8 qA2))) (qAI qBL g rfl (qA0 qA8 (qA0 (pv 3) qA2))) (qB4 _)) (qMP (qH9 qIN (qAI qCT g rfl (qA0 (pv 3) (qA0 qA8 qA2))) (qAI qBR g rfl (qA0 (pv 3) (qA0 qA8 qA2))) (qB4 _))))))))),?_⟩
 try dsimp only[Cx.nox,Cx.wish,cxOf]
 refine cut λN0 aa=>?_;refine⟨_,rfl,sc,ns,rfl,hS,y,λd c j H1 S1 a8 ai ae=>?_⟩;have k:TabB H1 Pt:=a8 _ _ p;have a4:Pt≠d:=qC1 k S1.dict (by intro z;cases z)
 have a9:Pt≠c:=qC1 k S1.list (by intro z;cases z)
 refine aa _ _ (cut λN1 ab=>?_);refine⟨3,rfl,by decide,by decide,qQ6 (lo:=0) (n:=3) (λi σ x=>∃(t:Int) (j:List Int) (v2:Option V),σ=[some (.ref sc),some (.ref d),v2,none]/\StAt x d c t j/\t<=20*i/\Keep d c H1 x)
  ⟨0,j,none,rfl,S1,by lia,λ_ _ e _ _=>e⟩ ?_ ?_⟩
 ·refineλi σ x hi m=>opq λaf o=>?_;obtain⟨t,j,v2,rfl,S,tb,Kc⟩:=m;refine o ?_;refine⟨_,rfl,d,c,t,j,rfl,S,(by show t<=1000000000-100;lia),Kc _ _ k a4 a9,λt' a3 H' S' u1 u2 K'=>⟨_,rfl,?_⟩⟩
  exact⟨t',a3,_,rfl,S',by lia,Kc.trans K'⟩
 ·refineλσ x r=>opq λad v=>?_;obtain⟨t,j,v2,rfl,S,tb,Kc⟩:=r;refine v ?_;refine ab _ _ (cut λN2 a6=>?_);refine⟨_,rfl,d,c,t,j,9,rfl,S,(by show t<=1000000000;lia),by decide,by decide,λk1 ah Ha a0 a1 Sa Ka=>⟨_,_,rfl,rfl,?_⟩⟩
  obtain⟨n,en⟩:∃n:Nat,1+k1=(n:Int):=⟨(1+k1).toNat,by lia⟩
  dsimp only;rw[en];refine a6 _ _ ?_;refine⟨_,rfl,n,1,rfl,by lia,by decide,λa Hb sb a5=>?_⟩
  refine⟨_,rfl,1,n,rfl,by lia,by lia,by lia,λb He se a2=>?_⟩
  obtain⟨rs,hA,NL⟩:=a5.same se;obtain⟨ac,hB,l⟩:=a2;rw[<- qeS n (by lia)] at l
  refine⟨a,b,rs,ac,rowN n 1,rfl,rfl,Ac0 hA,Ac0 hB,NL,l,?_⟩;refine⟨_,rfl,?_⟩;rw[if_pos rfl];refine⟨_,rfl,n,1,rfl,by lia,by lia,by lia,?_⟩
  refine⟨_,rfl,n,1,rfl,by lia,by lia,by lia,by lia,?_⟩
  rw[qbT n (by lia) (by lia)]
  refine⟨rfl,?_⟩;rw[decide_eq_true (rfl:V.int ((qR1 n 1:Int)+1)=V.int ((qR1 n 1:Int)+1))];exact q He
end
theorem all_mk {l:PySem.W.OpenLaw} {w:World} {K:Ab1} {h:Heap} {mg:Ab0} {fa g i bt b7 b9 al ao bu ac bs ba bf bl bz b2 ax bi c7 bb cb b3 a4 ah bg a7 aw b1 bo as bq z av a5 y b4 be a8 bx bc o br ab ai bj au c2 cc c1 m:Addr} (X:K.In h) (G:h.Ns B23 mg) (b5:mg "law" = some (.ref fa))
  {ay b8 b6 bk ce x:Option Addr} {c0 aj am:Array (Option Value)} {c8 a6 ak a2 t a3 aq ad b0 ca c3 a9 p u r k q:Value}
  {qFA qHJ:Addr}
  (bv:V3 K B23 "Barred" = some (some (.ref g)))
  (cj:G1 K (.ref g) "__init__" = some (some (.ref i)))
  (aa:K.lookup i=some ⟨c8,ay,.func (O7 "__init__" "Barred.__init__" (qEG qBN) (qAL qBN) (qA7 qBN) .none a6 ak a2 b8 t a3),c0⟩) (c4:W4 K t "Barred.__init__" = true) (a0:G8 K (.ref i)=true)
  (T_is_number:Tf K "is_number" qEX bt)
  (T_is_below:Tf K "is_below" qGD b7)
  (T_is_rising:Tf K "is_rising" qEW b9)
  (T_is_pair:Tf K "is_pair" qHR al)
  (T_is_stand:Tf K "is_stand" qGC ao)
  (T_all_needed:Tf K "all_needed" qE7 bu)
  (T_renumbered:Tf K "renumbered" qE3 ac)
  (T_part_net:Tf K "part_net" qGA bs)
  (T_plan_in_order:Tf K "plan_in_order" qCE ba)
  (T_plain_plan:Tf K "plain_plan" qE4 bf)
  (T_row_net:Tf K "row_net" qHO bl)
  (T_square_needs:Tf K "square_needs" qCW bz)
  (T_square_net:Tf K "square_net" qE2 b2)
  (T_step_net:Tf K "step_net" qG7 ax)
  (T_row_rooms:Tf K "row_rooms" qEV bi)
  (T_square_rooms:Tf K "square_rooms" qCV c7)
  (T_step_rooms:Tf K "step_rooms" qE0 bb)
  (T_row_plan:Tf K "row_plan" qG9 cb)
  (T_by_columns:Tf K "by_columns" qE5 b3)
  (T_square_plan:Tf K "square_plan" qDC a4)
  (T_step_plan:Tf K "step_plan" qEU ah)
  (T_fault_of_do:Tf K "fault_of_do" qDF bg)
  (T_fault_of:Tf K "fault_of" qGE a7)
  (T_stand_behind:Tf K "stand_behind" qCU aw)
  (T_has_all:Tf K "has_all" qHS b1)
  (T_moves_of:Tf K "moves_of" qGB bo)
  (T_are_closed:Tf K "are_closed" qE6 as)
  (T_never_come_to:Tf K "never_come_to" qCF bq)
  (T_shows_never:Tf K "shows_never" qDD z)
  (T_played:Tf K "played" qJS av)
  (T_steps_of:Tf K "steps_of" qG6 a5)
  (T_most_of:Tf K "most_of" qHQ y)
  (T_does:Tf K "does" qSS b4)
  (T_stays_of:Tf K "stays_of" qG8 be)
  (T_stays_left:Tf K "stays_left" qE1 a8)
  (T_tidied:Tf K "tidied" qJR bx)
  (T_stands_reached:Tf K "stands_reached" qAD bc)
  (bm:V3 K B23 "best_end" = some (some (.ref o))) (ag:K.lookup o=some ⟨aq,b6,.func (O7 "best_end" "best_end" (qEG qCO) (qAL qCO) (qA7 qCO) .none ad b0 ca bk (.ref qFA) c3),aj⟩) (ap:W4 K (.ref qFA) "best_end" = true) (az:G8 K (.ref o)=true)
  (T_plan_to:Tf K "plan_to" qHP br)
  (T_part_numbers:Tf K "part_numbers" qCX ab)
  (T_fewest:Tf K "fewest" qJT ai)
  (T_never_paper:Tf K "never_paper" qDE bj)
  (T_Lbegin:Tf K "_law_begin" qJV au)
  (T_Ltake:Tf K "_law_take" qNQ c2)
  (T_Lcase:Tf K "_law_case" qCP cc)
  (T_Lright:Tf K "_law_right" qJU c1)
  (cd:V3 K B23 "law" = some (some (.ref m))) (an:K.lookup m=some ⟨a9,ce,.func (O7 "law" "law" (qEG qLX) (qAL qLX) (qA7 qLX) .none p u r x k q),am⟩) (bn:W4 K k "law" = true) (bw:G8 K (.ref m)=true)
  (ae:xcIn K g (some (.ref i))=true)
  (bh:G1 K (.ref g) "__setattr__" = some (some (.builtin "object.__setattr__")))
  (c9:G8 K (.ref g)=true)
  (qEN:f9 K (.ref i)=true)
  (n_move:G1 K (.ref g) "move" = some none)
  (cn:A15 K (.ref g) (.ref g)=some true)
  (n_word:G1 K (.ref g) "word" = some none)
  (qF1:hdIn K qFA qHJ=true)
  (Z:Zs K ["all","any","bool","divmod","enumerate","int","isinstance","len","list","max","min","range","reversed","sorted","tuple"])
  : ∃fd:B22,(∀(s:Shared) (v:Value),BindsTo s fd ⟨[v],[]⟩ [("_law_script",v)])/\∀base:Heap,K.In base->base.Ns B23 mg->BM mg base->FnOk l.prog w K mg base CX0 8 fa fd ["_law_script"] (qSM K qHJ):=by
 have e:=b5.symm.trans (p9 X G cd);cases e;have a:=fun_mk (st:=qBN) aa c4 a0;have qDK:=a.binds (ps:=["self","move","word"]) λ_ _ _ _ _ _ n j=>us3 n j (λ_ _ _=>rfl);obtain⟨cv,d,qGH⟩:=T_played.use X G;have qGS:=d.binds (ps:=["net","rooms","plan"]) λ_ _ _ _ _ _ n j=>us3 n j (λ_ _ _=>rfl);have qI3:=d.kp;obtain⟨dl,f,di⟩:=T_most_of.use X G;have cw:=f.binds (ps:=["net","plan"]) λ_ _ _ _ _ _ n j=>us2 n j (λ_ _=>rfl);have d3:=f.kp;have b:=fun_mk (st:=qCO) ag ap az;have c6:=b.binds (ps:=["reached","asked"]) λ_ _ _ _ _ _ n j=>us2 n j (λ_ _=>rfl);have a1:=p9 X G bm;have bp:=fun_mk (st:=qLX) an bn bw;have qGI:=p9 X G bv;have qDA:XCls K g (some (.ref i)):=⟨ae,bh,c9⟩;obtain⟨d7,cp,dg,dc,af,cr,cg,bd,dj,cf,c5,ar,cq,du,dm,_⟩:=Z.mg X G;refine⟨O7 "law" "law" (qEG qLX) (qAL qLX) (qA7 qLX) .none p u r x k q,λs v=>.of_eq rfl,λbase _ _ hBM=>?_⟩;have B:Bs l.prog w base:=⟨rfl,rfl,rfl⟩;have qDL:=ok_init_Barred (P:=l.prog) (w:=w) (mg:=mg) (base:=base) (F:=a) (qDA:=qDA) (n_move:=n_move) (n_word:=n_word);obtain⟨_,cm⟩:=T_is_number.c X G B λ_ F=>by apply ok_is_number<;>assumption
 obtain⟨_,cx⟩:=T_is_below.c X G B λ_ F=>by apply ok_is_below<;>assumption
 obtain⟨_,ct⟩:=T_is_rising.c X G B λ_ F=>by apply ok_is_rising<;>assumption
 obtain⟨_,dr⟩:=T_is_pair.c X G B λ_ F=>by apply ok_is_pair<;>assumption
 obtain⟨_,d1⟩:=T_is_stand.c X G B λ_ F=>by apply ok_is_stand<;>assumption
 obtain⟨_,ci⟩:=T_all_needed.c X G B λ_ F=>by apply ok_all_needed<;>assumption
 obtain⟨_,dv⟩:=T_renumbered.c X G B λ_ F=>by apply ok_renumbered<;>assumption
 obtain⟨_,d5⟩:=T_part_net.c X G B λ_ F=>by apply ok_part_net<;>assumption
 obtain⟨_,dh⟩:=T_plan_in_order.c X G B λ_ F=>by apply ok_plan_in_order<;>assumption
 obtain⟨_,df⟩:=T_plain_plan.c X G B λ_ F=>by apply ok_plain_plan<;>assumption
 obtain⟨_,qD4⟩:=T_row_net.c X G B λ_ F=>by apply ok_row_net<;>assumption
 obtain⟨_,dd⟩:=T_square_needs.c X G B λ_ F=>by apply ok_square_needs<;>assumption
 obtain⟨_,qBL⟩:=T_square_net.c X G B λ_ F=>by apply ok_square_net<;>assumption
 obtain⟨_,d8⟩:=T_step_net.c X G B λ_ F=>by apply ok_step_net<;>assumption
 obtain⟨_,qCT⟩:=T_row_rooms.c X G B λ_ F=>by apply ok_row_rooms<;>assumption
 obtain⟨_,qBR⟩:=T_square_rooms.c X G B λ_ F=>by apply ok_square_rooms<;>assumption
 obtain⟨_,dq⟩:=T_step_rooms.c X G B λ_ F=>by apply ok_step_rooms<;>assumption
 obtain⟨_,cz⟩:=T_row_plan.c X G B λ_ F=>by apply ok_row_plan<;>assumption
 obtain⟨_,ch⟩:=T_by_columns.c X G B λ_ F=>by apply ok_by_columns<;>assumption
 obtain⟨_,dt⟩:=T_square_plan.c X G B λ_ F=>by apply ok_square_plan<;>assumption
 obtain⟨_,de⟩:=T_step_plan.c X G B λ_ F=>by apply ok_step_plan<;>assumption
 obtain⟨_,da⟩:=T_fault_of_do.c X G B λ_ F=>by apply ok_fault_of_do<;>assumption
 obtain⟨_,qDP⟩:=T_fault_of.c X G B λ_ F=>by apply ok_fault_of<;>assumption
 obtain⟨_,qB1⟩:=T_stand_behind.c X G B λ_ F=>by apply ok_stand_behind<;>assumption
 obtain⟨_,qD5⟩:=T_has_all.c X G B λ_ F=>by apply ok_has_all<;>assumption
 obtain⟨_,cy⟩:=T_moves_of.c X G B λ_ F=>by apply ok_moves_of<;>assumption
 obtain⟨_,d6⟩:=T_are_closed.c X G B λ_ F=>by apply ok_are_closed<;>assumption
 obtain⟨_,ds⟩:=T_never_come_to.c X G B λ_ F=>by apply ok_never_come_to<;>assumption
 obtain⟨_,d0⟩:=T_shows_never.c X G B λ_ F=>by apply ok_shows_never<;>assumption
 have qGT:=ok_played (P:=l.prog) (w:=w) (mg:=mg) (base:=base) (F:=d) (qDP:=qDP) (qB1:=qB1) (qCN:=af) (qDL:=qDL) (qDK:=qDK) (qDA:=qDA) (qEN:=qEN) (qGI:=qGI);obtain⟨_,db⟩:=T_steps_of.c X G B λ_ F=>by apply ok_steps_of<;>assumption
 have dp:=ok_most_of (P:=l.prog) (w:=w) (mg:=mg) (base:=base) (F:=f) (qGT:=qGT) (qGS:=qGS) (qI3:=d.kp) (qGH:=qGH) (qCD:=bd) (qYR:=cf);obtain⟨_,cs⟩:=T_does.c X G B λ_ F=>by apply ok_does<;>assumption
 obtain⟨_,dw⟩:=T_stays_of.c X G B λ_ F=>by apply ok_stays_of<;>assumption
 obtain⟨_,ck⟩:=T_stays_left.c X G B λ_ F=>by apply ok_stays_left<;>assumption
 obtain⟨_,dn⟩:=T_tidied.c X G B λ_ F=>by apply ok_tidied<;>assumption
 obtain⟨_,d4⟩:=T_stands_reached.c X G B λ_ F=>by apply ok_stands_reached<;>assumption
 have cl:=Clb.mk (ok_best_end (P:=l.prog) (w:=w) (mg:=mg) (base:=base) (F:=b) (qD5:=qD5) (qU0:=c5) (hcd:=rfl) (hBM:=hBM) (qF1:=qF1)) c6 b.kp a1;obtain⟨_,cu⟩:=T_plan_to.c X G B λ_ F=>by apply ok_plan_to<;>assumption
 obtain⟨_,d9⟩:=T_part_numbers.c X G B λ_ F=>by apply ok_part_numbers<;>assumption
 obtain⟨_,d2⟩:=T_fewest.c X G B λ_ F=>by apply ok_fewest<;>assumption
 obtain⟨_,co⟩:=T_never_paper.c X G B λ_ F=>by apply ok_never_paper<;>assumption
 obtain⟨_,qK0⟩:=T_Lbegin.c X G B λ_ F=>by apply ok_Lbegin<;>assumption
 obtain⟨_,qD8⟩:=T_Ltake.c X G B λ_ F=>by apply ok_Ltake<;>assumption
 obtain⟨_,dk⟩:=T_Lcase.c X G B λ_ F=>by apply ok_Lcase<;>assumption
 obtain⟨_,qJZ⟩:=T_Lright.c X G B λ_ F=>by apply ok_Lright<;>assumption
 exact ok_law (P:=l.prog) (w:=w) (mg:=mg) (base:=base) (F:=bp) (qK0:=qK0) (qJZ:=qJZ) (qD8:=qD8) (qCT:=qCT) (qBR:=qBR) (qD4:=qD4) (qBL:=qBL) (qBG:=ar)
noncomputable def qbW:List LTab:=[⟨"best_end",279,277,"best_end.<locals>.<lambda>"⟩]
theorem walk {l:PySem.W.OpenLaw}{q:B13}{b:List Str}{XP:(Ab0)->Heap->Prop}{YP:World->Heap->Prop}{d:DefRec}{K:Params->Ab1}(p:l.most=some 63)(j:d.params.defaults=[])
  (z:∀(w:World) (h:Heap),YP w h->(K w.params).In h)
  (i:∀t∈qbW,((PyProof.Rows.recsOf q).find? λe=>e.name==t.x).isSome=true) (g:∀(w:World),∀t∈qbW,A97 (K w.params) t.x=some (t.c,t.P)) (v:∀w:World,A16 (K w.params)=true)
  (F:∀ (w:World) (mg:Ab0) (fa:Addr) (h:Heap),(K w.params).In h->h.Ns B23 mg->mg d.name=some (.ref fa)->
   ∃fd:B22,(∀(s:Shared) (u:Value),BindsTo s fd ⟨[u],[]⟩ [("_law_script",u)])/\∀base:Heap,(K w.params).In base->base.Ns B23 mg->BM mg base->FnOk l.prog w (K w.params) mg base CX0 8 fa fd ["_law_script"] (qSM (K w.params) 277)):
  PySem.W.WalkO q b XP YP l.row.toRowW d [] (λf vs=>A86 f vs):=
 L2.walk_ofT (n:=63) (k:=8) (x:="_law_script") (sp:=λw=>qSM (K w.params) 277) qbW p (by decide) j ⟨rfl,by decide,by decide,rfl⟩ z i g v (λt h t' o _=>by rw[A6.mp h,A6.mp o]) F λ_ _ a ns m r y=>⟨r _ E4,a,ns,rfl,y,m,λ_=>rfl⟩
end Fw
open PySem PySem.W PyProof.Rows
set_option maxRecDepth 100000 in
set_option maxHeartbeats 0 in
theorem PySem.Challenge.cw_fewrooms_k64_whole_squares_by_all_stands_holds : PySem.Challenge.rw_fewrooms_k64_whole_squares_by_all_stands.Holds := by
 w_on;refine holds_law Fw.hpSaid λsaid=>?_
 refine holds_open (q:=Fw.hpQ) (Xt:=Fw.hpX) (XP:=XL Fw.hpQ []) (YP:=(kHook Fw.hpK Fw.hpA Fw.hpE).says)
  Fw.hpLeft (kHook Fw.hpK Fw.hpA Fw.hpE).of (kHook Fw.hpK Fw.hpA Fw.hpE).keeps (λs e=>xl_of s (O0.mp e).1) XL.keeps
  (by rfl) (by rfl) (by rfl) (λs e=>recFacts_of (O0.mp e).2) (by rfl)
  (by first|assumption|decide +kernel) (by decide +kernel) ⟨rfl,rfl,rfl,rfl,rfl,by decide +kernel⟩ ?hw ?hc
 case hw=>w_witness2
 k_fill
 refine Fw.walk (l:=PySem.Challenge.rw_fewrooms_k64_whole_squares_by_all_stands) rfl rfl (λw h Y=>PySem.W.kIn_of Y) ?hrec ?htab ?hK ?F
 case hrec=>intro t ht;rw[A6.mp ht];kernel_rfl
 case htab=>intro w t ht;rw[A6.mp ht];kernel_rfl
 case hK=>intro w;kernel_rfl
 case F=>
  intro w mg fa h KX G hmg;refine' Fw.all_mk (qFA:=279) (qHJ:=277) KX G hmg ?qOV ?qIG ?_ ?_ ?_ ?_ ?_ ?_ ?_ ?_ ?_ ?_ ?_ ?_ ?_ ?_ ?_ ?_ ?_ ?_ ?_ ?_ ?_ ?_ ?_ ?_ ?_ ?_ ?_ ?_ ?_ ?_ ?_ ?_ ?_ ?_ ?_ ?_ ?_ ?_ ?_ ?_ ?_ ?_ ?_ ?_ ?_ ?_ ?_ ?_ ?_ ?_ ?_ ?_ ?_ ?_ ?_ ?_ ?qK4 ?qK2 ?qK3 ?qEN ?n_move ?qID ?n_word ?_ ?_
  (case qOV=>k_is)
  (case qIG=>k_is)
  (case qK4=>kernel_rfl)
  (case qK2=>k_is)
  (case qK3=>k_is)
  (case qEN=>k_is)
  (case n_move=>k_is)
  (case qID=>kernel_rfl)
  (case n_word=>k_is)
  any_goals first|exact⟨by k_is,_,L2.fun_mk (by k_is) (by k_is) (by k_is)⟩|k_is|kernel_rfl
  any_goals (repeat (refine⟨by k_is,?_⟩))
  any_goals exact trivial

